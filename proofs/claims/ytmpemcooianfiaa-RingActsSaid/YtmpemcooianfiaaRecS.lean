/- Rows of records: a cell is stored; rows of whole numbers that grow and are stored to. -/
import Derived.Test.YtmpemcooianfiaaRec
namespace Go.Proofs.Ytmpemcooianfiaa
open Go Go.RowKit
set_option linter.unusedVariables false
set_option maxRecDepth 20000

theorem flatten_set {s : Nat} : ∀ {xs : List (List Value)}, Wide s xs → ∀ {j : Nat} {x : List Value}, xs[j]? = some x → ∀ {i : Nat} (u : Value), i < s → xs.flatten.set (j * s + i) u = (xs.set j (x.set i u)).flatten
  | [], _, j, x, h, _, _, _ => by simp at h
  | y :: xs, h, 0, x, hx, i, u, hi => by
    simp only [List.getElem?_cons_zero, Option.some.injEq] at hx
    subst hx
    have hy := (h y (by simp)).1
    rw [List.flatten_cons, Nat.zero_mul, Nat.zero_add, List.set_append_left _ _ (by omega), List.set_cons_zero, List.flatten_cons]
  | y :: xs, h, j + 1, x, hx, i, u, hi => by
    have hy := (h y (by simp)).1
    have ih := flatten_set (xs := xs) (fun z hz => h z (by simp [hz])) (j := j) (x := x) (by simpa using hx) u hi
    have e : (j + 1) * s + i = y.length + (j * s + i) := by rw [hy, Nat.add_mul]; omega
    rw [List.flatten_cons, e, List.set_append_right _ _ (by omega), Nat.add_sub_cancel_left, ih, List.set_cons_succ, List.flatten_cons]
/-- A cell of a record is stored. -/
theorem RecW.put {w : World} {B : Nat} {e : TypeId} {s b n c j i : Nat} {xs : List (List Value)} {x : List Value} (h : RecW w B e s (.slice (some ⟨b, 0, none⟩) n c) xs) (hx : xs[j]? = some x) (hi : i < s) (u : Value) (hu : u.oneCell' = true) :
    RecW (w.setCell ⟨b, j * s + i, none⟩ u) B e s (.slice (some ⟨b, 0, none⟩) n c) (xs.set j (x.set i u)) := by
  have hl : xs.length = n := by
    obtain ⟨A0, c0, e1, _⟩ := h.slice
    injection e1 with _ e2 _
    exact e2.symm
  have h1 := h.1
  rw [hl] at h1
  have h2 := (h1.stored (j * s + i) u).1
  rw [flatten_set h.2 hx u hi] at h2
  refine ⟨by rw [List.length_set, hl]; exact h2, fun y hy => ?_⟩
  rcases List.mem_or_eq_of_mem_set hy with h3 | rfl
  · exact h.2 y h3
  · have hm := h.2 x (List.mem_of_getElem? hx)
    refine ⟨by rw [List.length_set]; exact hm.1, fun v hv => ?_⟩
    rcases List.mem_or_eq_of_mem_set hv with h4 | rfl
    · exact hm.2 v h4
    · exact hu

/-- Whole numbers as records of one cell. -/
def nums1 (xs : List Int) : List (List Value) := xs.map fun x => [.int .i64 x]
theorem nums1_length (xs : List Int) : (nums1 xs).length = xs.length := by simp [nums1]
theorem nums1_append (xs ys : List Int) : nums1 (xs ++ ys) = nums1 xs ++ nums1 ys := by simp [nums1]
theorem nums1_at {xs : List Int} {j : Nat} {x : Int} (h : xs[j]? = some x) : (nums1 xs)[j]? = some [.int .i64 x] := by simp [nums1, h]
theorem nums1_set (xs : List Int) (j : Nat) (x : Int) : (nums1 xs).set j [.int .i64 x] = nums1 (xs.set j x) := by simp [nums1, List.map_set]
theorem nums1_wide (xs : List Int) : Wide 1 (nums1 xs) := fun y hy => by
  obtain ⟨x, _, rfl⟩ := List.mem_map.1 hy
  exact ⟨rfl, fun u hu => by rw [List.mem_singleton] at hu; subst hu; rfl⟩
section
variable {w w' : World} {B : Nat} {e : TypeId} {V : Value} {xs : List Int}
/-- One of them. -/
theorem RecW.num (h : RecW w B e 1 V (nums1 xs)) {j : Nat} {x : Int} (hx : xs[j]? = some x) : ∃ b c, V = .slice (some ⟨b, 0, none⟩) xs.length c ∧ B ≤ b ∧ b < w.heap.size ∧ w.cell? ⟨b, j, none⟩ = some (.int .i64 x) ∧ w.frozen? ⟨b, j, none⟩ = false ∧ xs.length ≤ c ∧ c ≤ maxLen := by
  obtain ⟨b, c, hV, h1, h2, h3⟩ := h.at (nums1_at hx)
  rw [nums1_length] at hV
  subst hV
  have h4 := h3 0 _ rfl
  rw [Nat.mul_one, Nat.add_zero] at h4
  rcases h.form with ⟨e1, _⟩ | ⟨b', c', e1, h5, h6, _⟩
  · cases e1
  · injection e1 with e1 _ e3
    subst e3
    refine ⟨b, c, rfl, h1, h2, h4, ?_, by rw [nums1_length] at h5; exact h5, h6⟩
    have := h.1
    rw [nums1_length] at this
    exact this.frozenAt j
/-- One of them is stored. -/
theorem RecW.setNum {b n c j : Nat} (h : RecW w B e 1 (.slice (some ⟨b, 0, none⟩) n c) (nums1 xs)) {y : Int} (hj : xs[j]? = some y) (x : Int) : RecW (w.setCell ⟨b, j, none⟩ (.int .i64 x)) B e 1 (.slice (some ⟨b, 0, none⟩) n c) (nums1 (xs.set j x)) := by
  have := h.put (i := 0) (nums1_at hj) (by omega) (.int .i64 x) rfl
  rw [Nat.mul_one, Nat.add_zero] at this
  rw [← nums1_set]
  exact this
end
end Go.Proofs.Ytmpemcooianfiaa
