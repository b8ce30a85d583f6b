/- A row of causes beside a tree. -/
import Derived.Test.YtcgjpmokhpcnnaaTreF
namespace Go.Proofs.Ytcgjpmokhpcnnaa
open Go Go.RowKit
set_option linter.unusedVariables false
set_option maxRecDepth 20000

theorem info_errno : (Try.prog.info? 28).map (fun i => (i.zero, i.size, i.bytes)) = some (some (.int .i64 0), 1, 8) := by kernel_rfl
theorem errno_cells : Try.prog.cellsOf 28 = 1 := by kernel_rfl
/-- A row of causes grows by one. -/
theorem growE {w : World} {B : Nat} {V : Value} {xs : List Int} (h : RecW w B 28 1 V (nums1 xs)) (x : Int) (hl : xs.length ≤ 100000) (hB : B ≤ w.heap.size) :
    ∃ A' c' w', (Builtin.append_ #[46, 46] 46 #[V, .slice (some ⟨w.heap.size, 0, none⟩) 1 1]).run Try.prog (w.alloc (.cells #[.int .i64 x] 28)) = .ok (.slice A' (xs.length + 1) c') w' ∧
      RecW w' B 28 1 (.slice A' (xs.length + 1) c') (nums1 (xs ++ [x])) ∧ (w.alloc (.cells #[.int .i64 x] 28)).grownBy w' V.ownBlock ∧
      ∀ k, (Value.slice A' (xs.length + 1) c').ownBlock = some k → V.ownBlock = some k ∨ (w.alloc (.cells #[.int .i64 x] 28)).heap.size ≤ k := by
  have hb : Below w.heap.size w (w.alloc (.cells #[.int .i64 x] 28)) := (Below.refl _ _).alloc (Nat.le_refl _) _
  have hd : (w.alloc (.cells #[.int .i64 x] 28)).heap[w.heap.size]? = some (.cells ([.int .i64 x] : List Value).toArray 28 (0, 0)) := heap_alloc_new w _
  have h1 := h.keep (w' := w.alloc (.cells #[.int .i64 x] 28)) fun k hk _ => hb.block k hk
  obtain ⟨V', w', happ, hr, hg, hw, -⟩ := h1.app 46 28 _ 1 8 Try.underlying46 info_errno rfl (by decide) (read_one hd ⟨rfl, fun u hu => by rw [List.mem_singleton] at hu; subst hu; rfl⟩) (c := 1) (fun h => by cases h) (by rw [nums1_length]; unfold maxLen; omega) (by rw [nums1_length]; omega) (Nat.le_trans hB hb.size)
  have hr' : RecW w' B 28 1 V' (nums1 (xs ++ [x])) := by rw [nums1_append]; exact hr
  obtain ⟨A', c', hV', -⟩ := hr'.slice
  rw [nums1_length, List.length_append, List.length_singleton] at hV'
  subst hV'
  refine ⟨A', c', w', happ, hr', hg, fun k hk => ?_⟩
  rcases hw with e | e
  · exact .inl (by rw [← e]; exact hk)
  · rw [e] at hk; injection hk with hk; exact .inr (by omega)
/-- A tree with a row of causes beside it, behind a world. -/
def StayS (P : TP) (w0 w : World) (g : Nat) (up ca : List Int) (V : Value) (xs : List Int) : Prop := ∃ F, TreS P w0 w F g up ca ∧ RecW w w0.heap.size 28 1 V (nums1 xs) ∧ ∀ k, V.ownBlock = some k → ¬ F k
section
variable {P : TP} {w0 w w' : World} {g : Nat} {up ca xs : List Int} {V : Value}
theorem StayS.len (h : StayS P w0 w g up ca V xs) : ∃ A c, V = .slice A xs.length c := by
  obtain ⟨F, _, hr, _⟩ := h
  obtain ⟨A, c, hV, -⟩ := hr.slice
  rw [nums1_length] at hV
  exact ⟨A, c, hV⟩
theorem StayS.tre (h : StayS P w0 w g up ca V xs) : Tre P w0 w g up ca := by
  obtain ⟨F, h, _⟩ := h
  exact ⟨F, h⟩
theorem StayS.at (h : StayS P w0 w g up ca V xs) {j : Nat} {y : Int} (hy : xs[j]? = some y) : ∃ b c, V = .slice (some ⟨b, 0, none⟩) xs.length c ∧ w.cell? ⟨b, j, none⟩ = some (.int .i64 y) := by
  obtain ⟨F, _, hr, _⟩ := h
  obtain ⟨b, c, hV, _, _, hc, _⟩ := hr.num hy
  exact ⟨b, c, hV, hc⟩
theorem stay_start (h : Tre P w0 w g up ca) : StayS P w0 w g up ca (.slice none 0 0) [] := by
  obtain ⟨F, h⟩ := h
  exact ⟨F, h, RecW.nil _ _ _ _, fun k hk => nomatch hk⟩
variable (T : TreF P)
include T
theorem TreS.keep {F : Nat → Prop} (h : TreS P w0 w F g up ca) (hk : ∀ k, F k → w'.heap[k]? = w.heap[k]?) (hz : w.heap.size ≤ w'.heap.size) (ht : Below w0.heap.size w0 w') : TreS P w0 w' F g up ca :=
  ⟨T.fr h.p hk hz, h.wf, h.cl, h.ul, ht, h.hi⟩
theorem stay_drewN (h : StayS P w0 w g up ca V xs) (q : Nat) : StayS P w0 (w.drewN q) g up ca V xs := by
  obtain ⟨F, h, hr, hd⟩ := h
  exact ⟨F, TreS.keep T h (fun _ _ => rfl) (Nat.le_refl _) (below_drewN h.to q), hr.keep fun _ _ _ => rfl, hd⟩
/-- One cause more. -/
theorem stay_app (h : StayS P w0 w g up ca V xs) (x : Int) (hl : xs.length ≤ 1000) :
    ∃ A' c' w', (Builtin.append_ #[46, 46] 46 #[V, .slice (some ⟨w.heap.size, 0, none⟩) 1 1]).run Try.prog (w.alloc (.cells #[.int .i64 x] 28)) = .ok (.slice A' (xs.length + 1) c') w' ∧ StayS P w0 w' g up ca (.slice A' (xs.length + 1) c') (xs ++ [x]) := by
  obtain ⟨F, h, hr, hd⟩ := h
  obtain ⟨A', c', w', happ, hr', hg, hat⟩ := growE hr x (by omega) h.to.size
  have hb := (Below.refl w.heap.size w).alloc (Nat.le_refl _) (.cells #[.int .i64 x] 28)
  have hlow := T.low h.p
  refine ⟨A', c', w', happ, F, TreS.keep T h (fun k hk => (hg.block k (Nat.lt_of_lt_of_le (hlow k hk) hb.size) (fun e => hd k e.symm hk)).trans (hb.block k (hlow k hk))) (Nat.le_trans hb.size hg.size) ((h.to.trans (hb.mono h.to.size)).grown hg (h.to.trans (hb.mono h.to.size)).size fun k hk => (row_lt hr.1 hk).1), hr', fun k hk hf => ?_⟩
  rcases hat k hk with e | e
  · exact hd k e hf
  · have := hlow k hf
    have := hb.size
    omega
/-- Cancel, with the row beside it. -/
theorem stay_can (h : StayS P w0 w g up ca V xs) (n cause : Int) : Calls Try.prog 12 #[.pointer (some ⟨g, 0, none⟩), .int .i64 n, .int .i64 cause] w fun e w' => ∃ p q : Int, e = .returned (.tuple #[.int .i64 p, .int .i64 q]) ∧ StayS P w0 w' g up (if canE up n cause = 0 then canC up ca n cause up.length else ca) V xs := by
  obtain ⟨F, h, hr, hd⟩ := h
  refine (T.can n cause h.p h.wf h.cl h.ul).mono fun e w' hh => ?_
  obtain ⟨he, F', hp, hs⟩ := hh
  refine ⟨_, _, he, F', h.step hp hs h.wf (by split <;> simp [canC_length, h.cl]) h.ul, hr.keep fun k hk e => hs.1.block k hk (hd k e), fun k hk hf => ?_⟩
  rcases hs.2 k hf with e | e
  · exact hd k hk e
  · have := (row_lt hr.1 hk).2
    omega
/-- Below, with the row beside it: another row. -/
theorem stay_bel (h : StayS P w0 w g up ca V xs) (n : Int) : Calls Try.prog 16 #[.pointer (some ⟨g, 0, none⟩), .int .i64 n] w fun e w' => ∃ U, e = .returned U ∧ RecW w' w.heap.size 3 1 U (nums1 (belL up n up.length)) ∧ StayS P w0 w' g up ca V xs := by
  obtain ⟨F, h, hr, hd⟩ := h
  refine (T.bel n h.p h.wf h.cl h.ul).mono fun e w' hh => ?_
  obtain ⟨U, F', he, hu, hp, hs, _⟩ := hh
  refine ⟨U, he, hu, F', h.step hp hs h.wf h.cl h.ul, hr.keep fun k hk e => hs.1.block k hk (hd k e), fun k hk hf => ?_⟩
  rcases hs.2 k hf with e | e
  · exact hd k hk e
  · have := (row_lt hr.1 hk).2
    omega
/-- Reading is quiet, at any draw. -/
theorem stay_siz (h : Tre P w0 w g up ca) (q : Nat) : Calls Try.prog 14 #[.pointer (some ⟨g, 0, none⟩)] (w.drewN q) fun e w' => e = .returned (.int .i64 (up.length : Int)) ∧ ∃ m, w' = w.drewN m := by
  obtain ⟨F, h⟩ := tre_drewN T h q
  refine (T.siz h.p h.wf h.cl h.ul).mono fun e w' hh => ?_
  obtain ⟨he, m, rfl⟩ := hh
  exact ⟨he, q + m, World.drewN_drewN _ _ _⟩
theorem stay_cau (h : Tre P w0 w g up ca) (n : Int) (q : Nat) : Calls Try.prog 18 #[.pointer (some ⟨g, 0, none⟩), .int .i64 n] (w.drewN q) fun e w' => e = .returned (.int .i64 (if isB up n = true then ca.getD n.toNat 0 else 0)) ∧ ∃ m, w' = w.drewN m := by
  obtain ⟨F, h⟩ := tre_drewN T h q
  refine (T.cau n h.p h.wf h.cl h.ul).mono fun e w' hh => ?_
  obtain ⟨he, m, rfl⟩ := hh
  exact ⟨he, q + m, World.drewN_drewN _ _ _⟩
theorem stay_par (h : Tre P w0 w g up ca) (n : Int) (q : Nat) : Calls Try.prog 19 #[.pointer (some ⟨g, 0, none⟩), .int .i64 n] (w.drewN q) fun e w' => e = .returned (.int .i64 (if isB up n = true then up.getD n.toNat 0 else -1)) ∧ ∃ m, w' = w.drewN m := by
  obtain ⟨F, h⟩ := tre_drewN T h q
  refine (T.par n h.p h.wf h.cl h.ul).mono fun e w' hh => ?_
  obtain ⟨he, m, rfl⟩ := hh
  exact ⟨he, q + m, World.drewN_drewN _ _ _⟩
theorem st_siz (h : StayS P w0 w g up ca V xs) : Calls Try.prog 14 #[.pointer (some ⟨g, 0, none⟩)] w fun e w' => e = .returned (.int .i64 (up.length : Int)) ∧ StayS P w0 w' g up ca V xs := by
  obtain ⟨F, h1, _⟩ := id h
  refine (T.siz  h1.p h1.wf h1.cl h1.ul).mono fun e w' hh => ?_
  obtain ⟨he, m, rfl⟩ := hh
  exact ⟨he, stay_drewN T h m⟩
theorem st_cau (h : StayS P w0 w g up ca V xs) (n : Int) : Calls Try.prog 18 #[.pointer (some ⟨g, 0, none⟩), .int .i64 n] w fun e w' => e = .returned (.int .i64 (if isB up n = true then ca.getD n.toNat 0 else 0)) ∧ StayS P w0 w' g up ca V xs := by
  obtain ⟨F, h1, _⟩ := id h
  refine (T.cau n h1.p h1.wf h1.cl h1.ul).mono fun e w' hh => ?_
  obtain ⟨he, m, rfl⟩ := hh
  exact ⟨he, stay_drewN T h m⟩
theorem st_par (h : StayS P w0 w g up ca V xs) (n : Int) : Calls Try.prog 19 #[.pointer (some ⟨g, 0, none⟩), .int .i64 n] w fun e w' => e = .returned (.int .i64 (if isB up n = true then up.getD n.toNat 0 else -1)) ∧ StayS P w0 w' g up ca V xs := by
  obtain ⟨F, h1, _⟩ := id h
  refine (T.par n h1.p h1.wf h1.cl h1.ul).mono fun e w' hh => ?_
  obtain ⟨he, m, rfl⟩ := hh
  exact ⟨he, stay_drewN T h m⟩
end
end Go.Proofs.Ytcgjpmokhpcnnaa
