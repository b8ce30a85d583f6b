/- The program's tree: a root, a node added below another one. -/
import Derived.Test.YtcgjpmokhpcnnaaTprM
namespace Go.Proofs.Ytcgjpmokhpcnnaa
open Go Go.RowKit
set_option linter.unusedVariables false
set_option maxRecDepth 20000

/-- A row of nodes grows by one. -/
theorem growN {w : World} {B : Nat} {V : Value} {up ca : List Int} (h : RecW w B 52 2 V (nodC up ca)) (hc : ca.length = up.length) (u x : Int) (hl : up.length ≤ 100000) (hB : B ≤ w.heap.size) :
    ∃ A' c' w', (Builtin.append_ #[53, 53] 53 #[V, .slice (some ⟨w.heap.size, 0, none⟩) 1 1]).run Try.prog (w.alloc (.cells #[.int .i64 u, .int .i64 x] 52)) = .ok (.slice A' (up.length + 1) c') w' ∧
      RecW w' B 52 2 (.slice A' (up.length + 1) c') (nodC (up ++ [u]) (ca ++ [x])) ∧ (w.alloc (.cells #[.int .i64 u, .int .i64 x] 52)).grownBy w' V.ownBlock ∧
      ∀ k, (Value.slice A' (up.length + 1) c').ownBlock = some k → V.ownBlock = some k ∨ (w.alloc (.cells #[.int .i64 u, .int .i64 x] 52)).heap.size ≤ k := by
  have hb : Below w.heap.size w (w.alloc (.cells #[.int .i64 u, .int .i64 x] 52)) := (Below.refl _ _).alloc (Nat.le_refl _) _
  have hd : (w.alloc (.cells #[.int .i64 u, .int .i64 x] 52)).heap[w.heap.size]? = some (.cells ([.int .i64 u, .int .i64 x] : List Value).toArray 52 (0, 0)) := heap_alloc_new w _
  have h1 := h.keep (w' := w.alloc (.cells #[.int .i64 u, .int .i64 x] 52)) fun k hk _ => hb.block k hk
  obtain ⟨V', w', happ, hr, hg, hw, -⟩ := h1.app 53 52 _ 2 16 Try.underlying53 info_node rfl (by decide) (read_one hd ⟨rfl, fun v hv => by
    simp only [List.mem_cons, List.not_mem_nil, or_false] at hv
    rcases hv with rfl | rfl <;> rfl⟩) (c := 1) (fun h => by cases h) (by rw [nodC_length hc]; unfold maxLen; omega) (by rw [nodC_length hc]; omega) (Nat.le_trans hB hb.size)
  have hr' : RecW w' B 52 2 V' (nodC (up ++ [u]) (ca ++ [x])) := by rw [nodC_app hc]; exact hr
  obtain ⟨A', c', hV', -⟩ := hr'.slice
  rw [nodC_length (by simp [hc]), List.length_append, List.length_singleton] at hV'
  subst hV'
  refine ⟨A', c', w', happ, hr', hg, fun k hk => ?_⟩
  rcases hw with e | e
  · exact .inl (by rw [← e]; exact hk)
  · rw [e] at hk; injection hk with hk; exact .inr (by omega)
/-- The row of nodes grows, and is stored. -/
theorem TPr.grow {w w' : World} {g : Nat} {F : Nat → Prop} {V V' : Value} {up ca up' ca' : List Int} (h : TPr w F g V up ca) (hg : w.grownBy w' V.ownBlock) (ho : RecW w' 0 52 2 V' (nodC up' ca')) (hat : ∀ k, V'.ownBlock = some k → V.ownBlock = some k ∨ w.heap.size ≤ k) :
    TPr (w'.setCell ⟨g, 0, none⟩ V') (fun k => F k ∨ (w.heap.size ≤ k ∧ k < w'.heap.size)) g V' up' ca' := by
  have hgg := (hg.block g h.lt (fun e => h.ne e.symm)).trans h.blk
  have hz := hg.size
  refine ⟨fun k hk => ?_, .inl h.fg, fun k hk => ?_, heap_setCell_same w' g 0 _ _ _ hgg, ?_⟩
  · have : (w'.setCell ⟨g, 0, none⟩ V').heap.size = w'.heap.size := by simp
    rw [this]
    rcases hk with hk | hk
    · have := h.low k hk; omega
    · have := h.lt; omega
  · rcases hat k hk with h1 | h1
    · exact .inl (h.fv k h1)
    · exact .inr ⟨h1, (row_lt ho.1 hk).2⟩
  · exact ho.keep fun k _ e => Below.heap_setCell _ _ _ _ (fun e' => row_ne_blk ho.1 hgg (by decide) (by rw [e, e']))
set_option maxHeartbeats 2000000 in
theorem new_any (w : World) :
    Calls Try.prog 8 #[] w fun e w' => ∃ g F, e = .returned (.pointer (some ⟨g, 0, none⟩)) ∧ TPt w' F g [-1] [0] ∧ Below w.heap.size w w' ∧ ∀ k, F k → w.heap.size ≤ k := by
  go_enter Try.func8, Try.ntmps8
  go_wp2_with fail
  go_ret
  have hb1 := (Below.refl w.heap.size w).alloc (Nat.le_refl _) (.cells #[.int .i64 (-1), .int .i64 0] 52)
  have hb2 := hb1.alloc hb1.size (.cells #[.slice (some ⟨w.heap.size, 0, none⟩) 1 1] 55)
  refine ⟨w.heap.size + 1, fun k => w.heap.size ≤ k ∧ k < w.heap.size + 2, rfl, ⟨.slice (some ⟨w.heap.size, 0, none⟩) 1 1, fun k hk => by simpa using hk.2, ⟨by omega, by omega⟩, fun k hk => ?_, at_new _ _ (by simp), ⟨⟨rfl, .inr ⟨w.heap.size, 1, #[.int .i64 (-1), .int .i64 0], rfl, Nat.zero_le _, at_up (at_new _ _ rfl) _, Nat.le_refl _, by decide, rfl, rfl⟩⟩, fun y hy => ?_⟩⟩, hb2, fun k hk => hk.1⟩
  · have hk : w.heap.size = k := Option.some.inj hk
    show w.heap.size ≤ k ∧ k < w.heap.size + 2
    omega
  · have : y = [.int .i64 (-1), .int .i64 0] := by simpa [nodC] using hy
    subst this
    refine ⟨rfl, fun v hv => ?_⟩
    simp only [List.mem_cons, List.not_mem_nil, or_false] at hv
    rcases hv with rfl | rfl <;> rfl
section
variable {w w' : World} {g : Nat} {F : Nat → Prop} {V : Value} {up ca : List Int}
set_option maxHeartbeats 2000000 in
theorem add_no (h : TPr w F g V up ca) (hc : ca.length = up.length) (n : Int) (hl : up.length ≤ 256) (hn : isB up n = false) :
    Calls Try.prog 10 #[.pointer (some ⟨g, 0, none⟩), .int .i64 n] w fun e w' => e = .returned (.tuple #[.int .i64 0, .int .i64 2]) ∧ w = w' := by
  have HI := Lib.hid (has_any h hc n (by omega))
  rw [hn] at HI
  clear h hn hc
  go_enter Try.func10, Try.ntmps10
  go_wp2_with (go_at_call 20; refine HI.out.mono ?_; rintro e w1 ⟨rfl, rfl⟩)
  go_ret2
  exact ⟨rfl, rfl⟩
set_option maxHeartbeats 2000000 in
theorem add_big (h : TPr w F g V up ca) (hc : ca.length = up.length) (n : Int) (hl : up.length = 256) (hn : isB up n = true) :
    Calls Try.prog 10 #[.pointer (some ⟨g, 0, none⟩), .int .i64 n] w fun e w' => e = .returned (.tuple #[.int .i64 0, .int .i64 16]) ∧ w = w' := by
  have c0 := h.c0
  have HI := Lib.hid (has_any h hc n (by omega))
  rw [hn] at HI
  obtain ⟨A, c, hV, -, -⟩ := h.val hc
  rw [hl] at hV
  subst hV
  clear h hn hc
  go_enter Try.func10, Try.ntmps10
  go_wp2_with (go_at_call 20; refine HI.out.mono ?_; rintro e w1 ⟨rfl, rfl⟩)
  go_ret2
  exact ⟨rfl, rfl⟩
set_option maxHeartbeats 4000000 in
theorem add_yes (h : TPr w F g V up ca) (hc : ca.length = up.length) (n : Int) (hl : up.length < 256) (hn : isB up n = true) :
    Calls Try.prog 10 #[.pointer (some ⟨g, 0, none⟩), .int .i64 n] w fun e w' => e = .returned (.tuple #[.int .i64 (up.length : Int), .int .i64 0]) ∧ ∃ F', TPt w' F' g (up ++ [n]) (ca ++ [ca.getD n.toNat 0]) ∧ Step F F' w w' := by
  obtain ⟨n0, n1⟩ : 0 ≤ n ∧ n < (up.length : Int) := by simpa [isB] using hn
  have c0 := h.c0
  have HI := Lib.hid (has_any h hc n (by omega))
  rw [hn] at HI
  obtain ⟨j, rfl⟩ : ∃ j : Nat, n = (j : Int) := ⟨n.toNat, by omega⟩
  rw [Int.toNat_natCast]
  obtain ⟨b, c, hV, _, _, hbw, _, d1⟩ := h.at hc (k := j) (by omega)
  obtain ⟨y, hy⟩ : ∃ y, y = ca.getD j 0 := ⟨_, rfl⟩
  rw [← hy] at d1 ⊢
  obtain ⟨W, hW⟩ : ∃ W, W = w.drew := ⟨_, rfl⟩
  have h1 : TPr W F g V up ca := by rw [hW]; exact h.keep (fun _ _ => rfl) (Nat.le_refl _)
  obtain ⟨A2, p2, w2, app2, r2, g2, hat2⟩ := growN h1.row hc (j : Int) y (by omega) (Nat.zero_le _)
  have hb2 : Below W.heap.size W (W.alloc (.cells #[.int .i64 (j : Int), .int .i64 y] 52)) := (Below.refl _ _).alloc (Nat.le_refl _) _
  have T2 := (h1.below hb2).grow g2 r2 hat2
  have S2 : Step F (fun k => F k ∨ ((W.alloc (.cells #[.int .i64 (j : Int), .int .i64 y] 52)).heap.size ≤ k ∧ k < w2.heap.size)) w (w2.setCell ⟨g, 0, none⟩ (.slice A2 (up.length + 1) p2)) := by
    have hbw0 : Below w.heap.size w (W.alloc (.cells #[.int .i64 (j : Int), .int .i64 y] 52)) := by
      subst hW
      exact hb2.mono (Nat.le_refl _) |> fun h => ⟨h.os, h.tape, h.output, h.size, h.block⟩
    refine ⟨((Moved.of_below hbw0 F).grown g2 fun k hk => .inl (h.fv k hk)).setCell (.inl h.fg) _, fun k hk => ?_⟩
    rcases hk with hk | hk
    · exact .inl hk
    · exact .inr (Nat.le_trans hbw0.size hk.1)
  have b2 : w2.heap[g]? = some (.cells #[V] 55 (0, 0)) := (g2.block g ((h1.below hb2).lt) (fun e => (h1.below hb2).ne e.symm)).trans (h1.below hb2).blk
  have m1 := cell_of_row w2 g 0 _ _ (0, 0) b2
  have m2 : w2.frozen? ⟨g, 0, none⟩ = false := by simp [World.frozen?, b2]
  have e0 := T2.c0
  have hbW := (Below.refl w.heap.size w).alloc (Nat.le_refl _) (.cells #[.int .i64 (j : Int), .int .i64 y] 52)
  have hs1 := (hbW.cell (p := ⟨g, 0, none⟩) h.lt).trans c0
  have hs2 := (hbW.cell (p := ⟨b, j * 2 + 1, none⟩) hbw).trans d1
  obtain ⟨W2, hW2⟩ : ∃ W2, W2 = w2.setCell ⟨g, 0, none⟩ (.slice A2 (up.length + 1) p2) := ⟨_, rfl⟩
  rw [← hW2] at T2 S2 e0
  have HF : Hid (∃ F', TPt W2 F' g (up ++ [(j : Int)]) (ca ++ [y]) ∧ Step F F' w W2) := Lib.hid ⟨_, ⟨_, T2⟩, S2⟩
  subst hV
  simp only [List.getElem?_toArray, List.getElem?_cons_zero] at m1
  obtain ⟨m, hm⟩ : ∃ m, m = up.length := ⟨_, rfl⟩
  have HM := Lib.hid hm
  rw [← hm] at c0 app2 m1 hW2 e0 hl n1 hs1 ⊢
  have HA2 := Lib.hid app2
  have hcl := node_cells
  subst hW
  clear app2 T2 S2 h h1 hn r2 g2 hat2 hb2 b2 hy hc hm hbW
  go_enter Try.func10, Try.ntmps10
  go_wp2_with (go_at_call 20; refine HI.out.mono ?_; rintro e w1 ⟨rfl, rfl⟩)
  go_region_law (refine step_append_run rfl _ _ 53 rfl rfl _ _ _ _ rfl rfl HA2.out ?_)
  all_goals
    rw [← hW2]
    clear hs1 hs2 hW2 HA2 d1 hbw m1 m2
    go_wp2_with fail
    go_ret2
    exact ⟨rfl, HF.out⟩
theorem add_any (h : TPt w F g up ca) (hc : ca.length = up.length) (n : Int) (hl : up.length ≤ 256) :
    Calls Try.prog 10 #[.pointer (some ⟨g, 0, none⟩), .int .i64 n] w fun e w' => e = .returned (.tuple #[.int .i64 (addX up n), .int .i64 (addE up n)]) ∧ ∃ F', TPt w' F' g (addU up n) (addC up ca n) ∧ Step F F' w w' := by
  obtain ⟨V, h⟩ := h
  unfold addX addU addC addE
  by_cases hn : isB up n = true
  · by_cases hb : 256 ≤ up.length
    · simp only [hn, hb, if_true]
      refine (add_big h hc n (by omega) hn).mono ?_
      rintro e w' ⟨rfl, rfl⟩
      exact ⟨rfl, F, ⟨V, h⟩, Step.refl _ _⟩
    · simp only [hn, hb, if_true, if_false]
      exact add_yes h hc n (by omega) hn
  · have hn' : isB up n = false := by simpa using hn
    simp only [hn]
    refine (add_no h hc n hl hn').mono ?_
    rintro e w' ⟨rfl, rfl⟩
    exact ⟨rfl, F, ⟨V, h⟩, Step.refl _ _⟩
end
end Go.Proofs.Ytcgjpmokhpcnnaa
