/- The program's tree: its block, a row of nodes; has, Size, Cause, Parent. -/
import Derived.Test.YtcgjpmokhpcnnaaTreF
import Derived.Test.YtcgjpmokhpcnnaaTreA
namespace Go.Proofs.Ytcgjpmokhpcnnaa
open Go Go.RowKit
set_option linter.unusedVariables false
set_option maxRecDepth 20000

theorem info_node : (Try.prog.info? 52).map (fun i => (i.zero, i.size, i.bytes)) = some (some (.agg #[.int .i64 0, .int .i64 0]), 2, 16) := by kernel_rfl
theorem node_cells : Try.prog.cellsOf 52 = 2 := by kernel_rfl
/-- Nodes as records: the parent, the cause. -/
def nodC (up ca : List Int) : List (List Value) := List.zipWith (fun u c => [.int .i64 u, .int .i64 c]) up ca
section
variable {up ca : List Int} {u c : Int} {k : Nat}
theorem nodC_length (h : ca.length = up.length) : (nodC up ca).length = up.length := by simp [nodC, h]
theorem nodC_at (hu : up[k]? = some u) (hc : ca[k]? = some c) : (nodC up ca)[k]? = some [.int .i64 u, .int .i64 c] := by simp [nodC, List.getElem?_zipWith, hu, hc]
theorem nodC_app (h : ca.length = up.length) (u c : Int) : nodC (up ++ [u]) (ca ++ [c]) = nodC up ca ++ [[.int .i64 u, .int .i64 c]] := by
  unfold nodC
  rw [List.zipWith_append h.symm]
  rfl
theorem nodC_set (hu : up[k]? = some u) (x : Int) : (nodC up ca).set k [.int .i64 u, .int .i64 x] = nodC up (ca.set k x) := by
  apply List.ext_getElem?
  intro i
  by_cases hi : k = i
  · subst hi
    rw [List.getElem?_set]
    simp [nodC, List.getElem?_zipWith, hu, List.getElem?_set]
    rcases Nat.lt_or_ge k ca.length with h | h
    · have := (List.getElem?_eq_some_iff.1 hu).1
      simp [h]
      omega
    · simp [show ¬ k < ca.length by omega]
      omega
  · rw [List.getElem?_set_ne hi]
    simp [nodC, List.getElem?_zipWith, List.getElem?_set_ne hi]
end
/-- A tree of the program. -/
structure TPr (w : World) (F : Nat → Prop) (g : Nat) (V : Value) (up ca : List Int) : Prop where
  low : ∀ k, F k → k < w.heap.size
  fg : F g
  fv : ∀ k, V.ownBlock = some k → F k
  blk : w.heap[g]? = some (.cells #[V] 55 (0, 0))
  row : RecW w 0 52 2 V (nodC up ca)
def TPt : TP := fun w F g up ca => ∃ V, TPr w F g V up ca
section
variable {w w' : World} {g : Nat} {F : Nat → Prop} {V : Value} {up ca : List Int}
theorem TPr.keep (h : TPr w F g V up ca) (hs : ∀ k, F k → w'.heap[k]? = w.heap[k]?) (hz : w.heap.size ≤ w'.heap.size) : TPr w' F g V up ca where
  low := fun k hk => Nat.lt_of_lt_of_le (h.low k hk) hz
  fg := h.fg
  fv := h.fv
  blk := (hs g h.fg).trans h.blk
  row := h.row.keep fun k _ e => hs k (h.fv k e)
theorem TPr.lt (h : TPr w F g V up ca) : g < w.heap.size := h.low g h.fg
theorem TPr.c0 (h : TPr w F g V up ca) : w.cell? ⟨g, 0, none⟩ = some V := cell_of_row w g 0 _ _ (0, 0) h.blk
theorem TPr.fz (h : TPr w F g V up ca) : w.frozen? ⟨g, 0, none⟩ = false := by have := h.blk; simp [World.frozen?, this]
theorem TPr.ne (h : TPr w F g V up ca) : V.ownBlock ≠ some g := row_ne_blk h.row.1 h.blk (by decide)
theorem TPr.below (h : TPr w F g V up ca) (hb : Below w.heap.size w w') : TPr w' F g V up ca := h.keep (fun k hk => hb.block k (h.low k hk)) hb.size
/-- The slice of nodes, and one of them. -/
theorem TPr.val (h : TPr w F g V up ca) (hc : ca.length = up.length) : ∃ A c, V = .slice A up.length c ∧ up.length ≤ c ∧ c ≤ maxLen := by
  obtain ⟨A, c, hV, h1, h2, _⟩ := h.row.slice
  rw [nodC_length hc] at hV h1
  exact ⟨A, c, hV, h1, h2⟩
theorem TPr.at (h : TPr w F g V up ca) (hc : ca.length = up.length) {k : Nat} (hk : k < up.length) : ∃ b c, V = .slice (some ⟨b, 0, none⟩) up.length c ∧ up.length ≤ c ∧ c ≤ maxLen ∧ b < w.heap.size ∧ w.cell? ⟨b, k * 2, none⟩ = some (.int .i64 (up.getD k 0)) ∧ w.cell? ⟨b, k * 2 + 1, none⟩ = some (.int .i64 (ca.getD k 0)) := by
  obtain ⟨A, c', hV', h1, h2⟩ := h.val hc
  have hu : up[k]? = some (up.getD k 0) := by simp [List.getD, List.getElem?_eq_getElem hk]
  have hca : ca[k]? = some (ca.getD k 0) := by simp [List.getD, List.getElem?_eq_getElem (show k < ca.length by omega)]
  obtain ⟨b, c, hV, _, hb, hcell⟩ := h.row.at (nodC_at hu hca)
  rw [nodC_length hc] at hV
  rw [hV] at hV'
  injection hV' with _ _ e
  subst e
  exact ⟨b, c, hV, h1, h2, hb, hcell 0 _ rfl, hcell 1 _ rfl⟩
theorem has_any (h : TPr w F g V up ca) (hc : ca.length = up.length) (n : Int) (hl : up.length ≤ 100000) :
    Calls Try.prog 20 #[.pointer (some ⟨g, 0, none⟩), .int .i64 n] w fun e w' => e = .returned (.bool (isB up n)) ∧ w = w' := by
  have c0 := h.c0
  obtain ⟨A, c, hV, -, -⟩ := h.val hc
  subst hV
  obtain ⟨m, hm⟩ : ∃ m, m = up.length := ⟨_, rfl⟩
  have e0 : isB up n = (decide (0 ≤ n) && decide (n < (m : Int))) := by rw [hm]; rfl
  rw [e0]
  rw [← hm] at c0 hl
  clear h hm e0 hc
  by_cases h0 : 0 ≤ n
  · have d0 : decide (0 ≤ n) = true := by simpa using h0
    rw [d0, Bool.true_and]
    go_enter Try.func20, Try.ntmps20
    go_wp2_with fail
    go_ret
    exact ⟨rfl, rfl⟩
  · have d0 : decide (0 ≤ n) = false := by simpa using h0
    rw [d0, Bool.false_and]
    go_enter Try.func20, Try.ntmps20
    go_wp2_with fail
    go_ret
    exact ⟨rfl, rfl⟩
theorem size_any (h : TPr w F g V up ca) (hc : ca.length = up.length) (hl : up.length ≤ 100000) :
    Calls Try.prog 14 #[.pointer (some ⟨g, 0, none⟩)] w fun e w' => e = .returned (.int .i64 (up.length : Int)) ∧ w = w' := by
  have c0 := h.c0
  obtain ⟨A, c, hV, -, -⟩ := h.val hc
  subst hV
  obtain ⟨m, hm⟩ : ∃ m, m = up.length := ⟨_, rfl⟩
  rw [← hm] at c0 hl ⊢
  clear h hm hc
  go_enter Try.func14, Try.ntmps14
  go_wp2_with fail
  go_ret
  exact ⟨rfl, rfl⟩
theorem cause_any (h : TPr w F g V up ca) (hc : ca.length = up.length) (n : Int) (hl : up.length ≤ 100000) :
    Calls Try.prog 18 #[.pointer (some ⟨g, 0, none⟩), .int .i64 n] w fun e w' => e = .returned (.int .i64 (if isB up n = true then ca.getD n.toNat 0 else 0)) ∧ w = w' := by
  have c0 := h.c0
  have HI := Lib.hid (has_any h hc n hl)
  by_cases hn : isB up n = true
  · rw [hn] at HI
    rw [if_pos hn]
    obtain ⟨n0, n1⟩ : 0 ≤ n ∧ n < (up.length : Int) := by simpa [isB] using hn
    obtain ⟨j, rfl⟩ : ∃ j : Nat, n = (j : Int) := ⟨n.toNat, by omega⟩
    obtain ⟨b, c, hV, h1, h2, _, _, d1⟩ := h.at hc (k := j) (by omega)
    subst hV
    rw [Int.toNat_natCast]
    obtain ⟨y, hy⟩ : ∃ y, y = ca.getD j 0 := ⟨_, rfl⟩
    obtain ⟨m, hm⟩ : ∃ m, m = up.length := ⟨_, rfl⟩
    rw [← hm] at c0 hl n1
    rw [← hy] at d1 ⊢
    have hcl := node_cells
    clear h hm hc hy hn h1 h2
    go_enter Try.func18, Try.ntmps18
    go_wp2_with (go_at_call 20; refine HI.out.mono ?_; rintro e w1 ⟨rfl, rfl⟩)
    go_ret
    exact ⟨rfl, rfl⟩
  · rw [if_neg hn]
    have hn' : isB up n = false := by simpa using hn
    rw [hn'] at HI
    clear h hc hn hn' c0
    go_enter Try.func18, Try.ntmps18
    go_wp2_with (go_at_call 20; refine HI.out.mono ?_; rintro e w1 ⟨rfl, rfl⟩)
    go_ret
    exact ⟨rfl, rfl⟩
theorem parent_any (h : TPr w F g V up ca) (hc : ca.length = up.length) (n : Int) (hl : up.length ≤ 100000) :
    Calls Try.prog 19 #[.pointer (some ⟨g, 0, none⟩), .int .i64 n] w fun e w' => e = .returned (.int .i64 (if isB up n = true then up.getD n.toNat 0 else -1)) ∧ w = w' := by
  have c0 := h.c0
  have HI := Lib.hid (has_any h hc n hl)
  by_cases hn : isB up n = true
  · rw [hn] at HI
    rw [if_pos hn]
    obtain ⟨n0, n1⟩ : 0 ≤ n ∧ n < (up.length : Int) := by simpa [isB] using hn
    obtain ⟨j, rfl⟩ : ∃ j : Nat, n = (j : Int) := ⟨n.toNat, by omega⟩
    obtain ⟨b, c, hV, h1, h2, _, d0, _⟩ := h.at hc (k := j) (by omega)
    subst hV
    rw [Int.toNat_natCast]
    obtain ⟨y, hy⟩ : ∃ y, y = up.getD j 0 := ⟨_, rfl⟩
    obtain ⟨m, hm⟩ : ∃ m, m = up.length := ⟨_, rfl⟩
    rw [← hm] at c0 hl n1
    rw [← hy] at d0 ⊢
    have hcl := node_cells
    clear h hm hc hy hn h1 h2
    go_enter Try.func19, Try.ntmps19
    go_wp2_with (go_at_call 20; refine HI.out.mono ?_; rintro e w1 ⟨rfl, rfl⟩)
    go_ret
    exact ⟨rfl, rfl⟩
  · rw [if_neg hn]
    have hn' : isB up n = false := by simpa using hn
    rw [hn'] at HI
    clear h hc hn hn' c0
    go_enter Try.func19, Try.ntmps19
    go_wp2_with (go_at_call 20; refine HI.out.mono ?_; rintro e w1 ⟨rfl, rfl⟩)
    go_ret
    exact ⟨rfl, rfl⟩
end
end Go.Proofs.Ytcgjpmokhpcnnaa
