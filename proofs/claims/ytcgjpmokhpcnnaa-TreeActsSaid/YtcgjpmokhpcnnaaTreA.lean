/- The document's tree: a root, a node added below another one. -/
import Derived.Test.YtcgjpmokhpcnnaaTreD
namespace Go.Proofs.Ytcgjpmokhpcnnaa
open Go Go.RowKit
set_option linter.unusedVariables false
set_option maxRecDepth 20000

/-- What a row held still stands in its block, behind an append. -/
theorem app_keeps {w w' : World} {B d : Nat} {V V' : Value} {xs : List Int} {x : Int} (h : RecW w B 3 1 V (nums1 xs)) (hd : w.heap[d]? = some (.cells ([.int .i64 x] : List Value).toArray 3 (0, 0)))
    (happ : (Builtin.append_ #[38, 38] 38 #[V, .slice (some ⟨d, 0, none⟩) 1 1]).run Try.prog w = .ok V' w') (hr : RecW w' B 3 1 V' (nums1 (xs ++ [x]))) (hl : xs.length ≤ 100000)
    {b j : Nat} {y : Int} (hb : V.ownBlock = some b) (hy : xs[j]? = some y) : w'.cell? ⟨b, j, none⟩ = some (.int .i64 y) := by
  obtain ⟨i0, hi, hz0, hz1, hz2⟩ := info_parts info_num
  have hnews : ∀ j u, ([.int .i64 x] : List Value)[j]? = some u → w.cell? ((⟨d, 0, none⟩ : Addr).add j) = some u := World.news_of_block hd
  obtain ⟨b', c, rfl, hB, hlt, hcell, hfr, hnc, hcm⟩ := h.num hy
  injection hb with hb
  subst hb
  rcases h.1.2 with ⟨e, _⟩ | ⟨g, cap, cur, e, _, hg, _, _, hcs, htake⟩
  · cases e
  · injection e with e1 e2 e3
    injection e1 with e1
    injection e1 with e1 _ _
    subst e1 e3
    by_cases hroom : xs.length + 1 ≤ c
    · have hr0 := run_append_room (P := Try.prog) w 38 38 3 i0 Try.underlying38 hi b' xs.length c cur hg ⟨d, 0, none⟩ 1 1 [.int .i64 x] (by rw [hz1]; rfl) hnews (fun u hu => by rw [List.mem_singleton] at hu; subst hu; rfl) hroom (by rw [hz1, hcs]; simp; omega)
      rw [happ] at hr0
      injection hr0 with e1 _
      subst e1
      obtain ⟨b2, c2, hV2, _, _, hc2, _⟩ := hr.num (j := j) (x := y) (by rw [List.getElem?_append_left (List.getElem?_eq_some_iff.1 hy).1]; exact hy)
      injection hV2 with hV2 _ _
      injection hV2 with hV2
      injection hV2 with hV2 _ _
      subst hV2
      exact hc2
    · have hr0 := run_append_grow (P := Try.prog) w 38 38 3 i0 _ Try.underlying38 hi hz0 ⟨b', 0, none⟩ xs.length c (nums1 xs).flatten (by rw [h.1.1, nums1_length, hz1]) (h.1.cells (g := b') rfl) ⟨d, 0, none⟩ 1 1 [.int .i64 x] (by rw [hz1]; rfl) hnews (by omega) (by omega) (growslice_fits (by omega) (by rw [hz2]; omega))
      rw [happ] at hr0
      injection hr0 with _ e2
      subst e2
      exact (World.cell?_of_block (Below.heap_alloc w.drew _ b' hlt)).trans hcell
/-- A row of whole numbers grows by one. -/
theorem grow1 {w : World} {B : Nat} {V : Value} {xs : List Int} (h : RecW w B 3 1 V (nums1 xs)) (x : Int) (hl : xs.length ≤ 100000) (hB : B ≤ w.heap.size) :
    ∃ A' c' w', (Builtin.append_ #[38, 38] 38 #[V, .slice (some ⟨w.heap.size, 0, none⟩) 1 1]).run Try.prog (w.alloc (.cells #[.int .i64 x] 3)) = .ok (.slice A' (xs.length + 1) c') w' ∧
      RecW w' B 3 1 (.slice A' (xs.length + 1) c') (nums1 (xs ++ [x])) ∧ (w.alloc (.cells #[.int .i64 x] 3)).grownBy w' V.ownBlock ∧
      ∀ k, (Value.slice A' (xs.length + 1) c').ownBlock = some k → V.ownBlock = some k ∨ (w.alloc (.cells #[.int .i64 x] 3)).heap.size ≤ k := by
  have hb : Below w.heap.size w (w.alloc (.cells #[.int .i64 x] 3)) := (Below.refl _ _).alloc (Nat.le_refl _) _
  have hd : (w.alloc (.cells #[.int .i64 x] 3)).heap[w.heap.size]? = some (.cells ([.int .i64 x] : List Value).toArray 3 (0, 0)) := heap_alloc_new w _
  have h1 := h.keep (w' := w.alloc (.cells #[.int .i64 x] 3)) fun k hk _ => hb.block k hk
  obtain ⟨V', w', happ, hr, hg, hw, -⟩ := h1.app 38 3 _ 1 8 Try.underlying38 info_num rfl (by decide) (read_one hd ⟨rfl, fun u hu => by rw [List.mem_singleton] at hu; subst hu; rfl⟩) (c := 1) (fun h => by cases h) (by rw [nums1_length]; unfold maxLen; omega) (by rw [nums1_length]; omega) (Nat.le_trans hB hb.size)
  have hr' : RecW w' B 3 1 V' (nums1 (xs ++ [x])) := by rw [nums1_append]; exact hr
  obtain ⟨A', c', hV', -⟩ := hr'.slice
  rw [nums1_length, List.length_append, List.length_singleton] at hV'
  subst hV'
  refine ⟨A', c', w', happ, hr', hg, fun k hk => ?_⟩
  rcases hw with e | e
  · exact .inl (by rw [← e]; exact hk)
  · rw [e] at hk; injection hk with hk; exact .inr (by omega)
/-- The document's tree. -/
def TDS (w : World) (B : Nat) (D : Nat → Prop) (r : Nat) (up ca : List Int) : Prop := ∃ VU VC, TDoc w B D r VU VC up ca
section
variable {w w' : World} {B r : Nat} {D : Nat → Prop} {VU VC : Value} {up ca : List Int}
theorem dis_false (n : Int) (h : isB up n = false) : addE up n = 2 := by simp [addE, h]
set_option maxHeartbeats 2000000 in
theorem dadd_no (h : TDoc w B D r VU VC up ca) (n : Int) (hl : up.length ≤ 256) (hn : isB up n = false) :
    Calls Try.prog 11 #[.pointer (some ⟨r, 0, none⟩), .int .i64 n] w fun e w' => e = .returned (.tuple #[.int .i64 0, .int .i64 2]) ∧ w = w' := by
  have HI := Lib.hid (dis_any h n (by omega))
  rw [hn] at HI
  clear h hn
  go_enter Try.func11, Try.ntmps11
  go_wp2_with (go_at_call 21; refine HI.out.mono ?_; rintro e w1 ⟨rfl, rfl⟩)
  go_ret2
  exact ⟨rfl, rfl⟩
set_option maxHeartbeats 2000000 in
theorem dadd_big (h : TDoc w B D r VU VC up ca) (n : Int) (hl : up.length = 256) (hn : isB up n = true) :
    Calls Try.prog 11 #[.pointer (some ⟨r, 0, none⟩), .int .i64 n] w fun e w' => e = .returned (.tuple #[.int .i64 0, .int .i64 16]) ∧ w = w' := by
  have c0 := h.c0
  have HI := Lib.hid (dis_any h n (by omega))
  rw [hn] at HI
  obtain ⟨A, c, hV, -, -, -⟩ := h.ru.slice
  rw [nums1_length, hl] at hV
  subst hV
  clear h hn
  go_enter Try.func11, Try.ntmps11
  go_wp2_with (go_at_call 21; refine HI.out.mono ?_; rintro e w1 ⟨rfl, rfl⟩)
  go_ret2
  exact ⟨rfl, rfl⟩
set_option maxHeartbeats 4000000 in
theorem dadd_yes (h : TDoc w B D r VU VC up ca) (hc : ca.length = up.length) (n : Int) (hl : up.length < 256) (hn : isB up n = true) :
    Calls Try.prog 11 #[.pointer (some ⟨r, 0, none⟩), .int .i64 n] w fun e w' => e = .returned (.tuple #[.int .i64 (up.length : Int), .int .i64 0]) ∧ ∃ D', TDS w' B D' r (up ++ [n]) (ca ++ [ca.getD n.toNat 0]) ∧ Step D D' w w' := by
  obtain ⟨n0, n1⟩ : 0 ≤ n ∧ n < (up.length : Int) := by simpa [isB] using hn
  have c0 := h.c0
  have c1 := h.c1
  have HI := Lib.hid (dis_any h n (by omega))
  rw [hn] at HI
  -- the parents grow
  obtain ⟨A1, p1, w1, app1, ru1, g1, hat1⟩ := grow1 h.ru n (by omega) (Nat.zero_le _)
  have hb1 : Below w.heap.size w (w.alloc (.cells #[.int .i64 n] 3)) := (Below.refl _ _).alloc (Nat.le_refl _) _
  have T1 := (h.below hb1).growU g1 ru1 hat1
  have S1 : Step D (fun k => D k ∨ ((w.alloc (.cells #[.int .i64 n] 3)).heap.size ≤ k ∧ k < w1.heap.size)) w (w1.setCell ⟨r, 0, none⟩ (.slice A1 (up.length + 1) p1)) := by
    refine ⟨((Moved.of_below hb1 D).grown g1 fun k hk => .inl (h.du k hk)).setCell (.inl h.dr) _, fun k hk => ?_⟩
    rcases hk with hk | hk
    · exact .inl hk
    · exact .inr (Nat.le_trans hb1.size hk.1)
  obtain ⟨W1, hW1⟩ : ∃ W1, W1 = w1.setCell ⟨r, 0, none⟩ (.slice A1 (up.length + 1) p1) := ⟨_, rfl⟩
  rw [← hW1] at T1 S1
  replace T1 := T1.keep (w' := W1.drew) (fun _ _ => rfl) (Nat.le_refl _)
  replace S1 : Step D (fun k => D k ∨ ((w.alloc (.cells #[.int .i64 n] 3)).heap.size ≤ k ∧ k < w1.heap.size)) w W1.drew := ⟨S1.1.drew, S1.2⟩
  obtain ⟨V1, hV1⟩ : ∃ V1, V1 = W1.drew := ⟨_, rfl⟩
  rw [← hV1] at T1 S1
  -- the cause of the one above
  obtain ⟨j, rfl⟩ : ∃ j : Nat, n = (j : Int) := ⟨n.toNat, by omega⟩
  obtain ⟨y, hy⟩ : ∃ y, ca[j]? = some y := ⟨_, List.getElem?_eq_getElem (by omega)⟩
  have ey : ca.getD (Int.toNat (j : Int)) 0 = y := by simp [List.getD, hy]
  rw [ey]
  obtain ⟨bC, cC, hVC, _, hbC, hcy, _, hlc, hcm⟩ := T1.rc.num hy
  -- the causes grow
  obtain ⟨A2, p2, w2, app2, rc2, g2, hat2⟩ := grow1 T1.rc y (by omega) (Nat.zero_le _)
  have hb2 : Below V1.heap.size V1 (V1.alloc (.cells #[.int .i64 y] 3)) := (Below.refl _ _).alloc (Nat.le_refl _) _
  have T2 := (T1.below hb2).growC g2 rc2 hat2
  have hkeep : w2.cell? ⟨bC, j, none⟩ = some (.int .i64 y) := app_keeps (T1.below hb2).rc (heap_alloc_new V1 _) app2 rc2 (by omega) (by rw [hVC]; rfl) hy
  have S2 := S1.trans (F'' := fun k => (D k ∨ ((w.alloc (.cells #[.int .i64 (j : Int)] 3)).heap.size ≤ k ∧ k < w1.heap.size)) ∨ ((V1.alloc (.cells #[.int .i64 y] 3)).heap.size ≤ k ∧ k < w2.heap.size)) (c := w2.setCell ⟨r, 1, none⟩ (.slice A2 (ca.length + 1) p2)) ⟨((Moved.of_below hb2 _).grown g2 fun k hk => .inl (T1.dc k hk)).setCell (.inl T1.dr) _, fun k hk => by
    rcases hk with hk | hk
    · exact .inl hk
    · exact .inr (Nat.le_trans hb2.size hk.1)⟩
  have d1 := T1.c1
  have hrV := T1.lt
  have b1 : w1.heap[r]? = some (.cells #[VU, VC] 40 (0, 0)) := (g1.block r ((h.below hb1).lt) (fun e => (h.below hb1).neu e.symm)).trans (h.below hb1).blk
  have b2 : w2.heap[r]? = some (.cells #[.slice A1 (up.length + 1) p1, VC] 40 (0, 0)) := (g2.block r ((T1.below hb2).lt) (fun e => (T1.below hb2).nec e.symm)).trans (T1.below hb2).blk
  have l0 := cell_of_row w1 r 0 _ _ (0, 0) b1
  have l1 : w1.frozen? ⟨r, 0, none⟩ = false := by simp [World.frozen?, b1]
  have m1 := cell_of_row w2 r 1 _ _ (0, 0) b2
  have m2 : w2.frozen? ⟨r, 1, none⟩ = false := by simp [World.frozen?, b2]
  have e0 := T2.c0
  obtain ⟨W2, hW2⟩ : ∃ W2, W2 = w2.setCell ⟨r, 1, none⟩ (.slice A2 (ca.length + 1) p2) := ⟨_, rfl⟩
  rw [← hW2] at T2 S2 e0
  have HF : Hid (∃ D', TDS W2 B D' r (up ++ [(j : Int)]) (ca ++ [y]) ∧ Step D D' w W2) := Lib.hid ⟨_, ⟨_, _, T2⟩, S2⟩
  obtain ⟨A, c, hV, -, -, -⟩ := h.ru.slice
  rw [nums1_length] at hV
  subst hV
  subst hVC
  obtain ⟨m, hm⟩ : ∃ m, m = up.length := ⟨_, rfl⟩
  have HM := Lib.hid hm
  rw [hc] at d1 app2 m1 hW2
  rw [← hm] at c0 d1 app1 app2 l0 m1 hW1 hW2 e0 hl n1 ⊢
  rw [hc, ← hm] at c1
  simp only [List.getElem?_toArray, List.getElem?_cons_succ, List.getElem?_cons_zero] at l0 m1
  have HA1 := Lib.hid app1
  have HA2 := Lib.hid app2
  clear app1 app2 T1 T2 S1 S2 h hn ru1 rc2 g1 g2 hat1 hat2 hb1 hb2 b1 b2 hy ey hc hm hlc
  go_enter Try.func11, Try.ntmps11
  go_wp2_with (first | (go_at_call 21; refine HI.out.mono ?_; rintro e w1 ⟨rfl, rfl⟩) | (at_builtin; refine wpList_append_run rfl (.tmp 20) (.tmp 22) 38 rfl rfl _ _ _ _ rfl rfl HA1.out ?_) | fail)
  rw [← hW1]
  subst hV1
  clear hW1 l0 l1 c0 c1 HA1
  have hbW := (Below.refl W1.drew.heap.size W1.drew).alloc (Nat.le_refl _) (.cells #[.int .i64 y] 3)
  have hs1 : (W1.alloc (.cells #[.int .i64 y] 3)).cell? ⟨r, 1, none⟩ = some (.slice (some ⟨bC, 0, none⟩) m cC) := ((hbW.cell (p := ⟨r, 1, none⟩) hrV).trans d1) 
  have hs2 : (W1.alloc (.cells #[.int .i64 y] 3)).cell? ⟨bC, j, none⟩ = some (.int .i64 y) := ((hbW.cell (p := ⟨bC, j, none⟩) hbC).trans hcy)
  go_region_law (refine step_append_run rfl _ _ 38 rfl rfl _ _ _ _ rfl rfl HA2.out ?_)
  all_goals
    rw [← hW2]
    clear hs1 hs2 hW2 HA2 hbW d1 hcy hrV hbC m1 m2 hkeep
    go_wp2_with fail
    go_ret2
    exact ⟨rfl, HF.out⟩
end
end Go.Proofs.Ytcgjpmokhpcnnaa
