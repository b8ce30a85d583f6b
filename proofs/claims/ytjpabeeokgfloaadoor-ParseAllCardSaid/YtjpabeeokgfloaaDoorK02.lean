/- A text's code points. -/
import Derived.Test.YtjpabeeokgfloaaDoorK01
import Derived.Test.YtjpabeeokgfloaaDoorM06
import Derived.Test.YtjpabeeokgfloaaDoorM10
namespace Go.Proofs.YtjpabeeokgfloaaDoor
open Go Go.RowKit
set_option linter.unusedVariables false
set_option maxRecDepth 20000

/-- Octets as code points; none: some are no code point's. -/
def ptsL : Nat → List Int → Option (List Int)
  | _, [] => some []
  | 0, _ :: _ => none
  | f + 1, x :: l => if (getI (x :: l)).2 = szI (getI (x :: l)).1 then (ptsL f ((x :: l).drop (getI (x :: l)).2.toNat)).map fun r => (getI (x :: l)).1 :: r else none
theorem ptsL_fuel : ∀ (f : Nat) (l : List Int), l.length ≤ f → ptsL f l = ptsL l.length l
  | 0, [], _ => rfl
  | 0, _ :: _, h => by simp at h
  | f + 1, [], _ => rfl
  | f + 1, x :: l, h => by
    rw [List.length_cons, ptsL, ptsL]
    have hb := getI_bounds (l := x :: l) (by simp)
    have hd : ((x :: l).drop (getI (x :: l)).2.toNat).length ≤ l.length := by
      rw [List.length_drop, List.length_cons]; omega
    rw [List.length_cons] at h
    rw [ptsL_fuel f _ (by omega), ptsL_fuel l.length _ hd]
def pointsL (l : List Int) : Option (List Int) := ptsL l.length l
theorem pointsL_nil : pointsL [] = some [] := rfl
theorem pointsL_cons {l : List Int} (h : l ≠ []) : pointsL l = if (getI l).2 = szI (getI l).1 then (pointsL (l.drop (getI l).2.toNat)).map fun r => (getI l).1 :: r else none := by
  rcases l with _ | ⟨x, l⟩
  · exact absurd rfl h
  · have hb := getI_bounds (l := x :: l) (by simp)
    have hd : ((x :: l).drop (getI (x :: l)).2.toNat).length ≤ l.length := by
      rw [List.length_drop, List.length_cons]; omega
    unfold pointsL
    rw [List.length_cons, ptsL, ptsL_fuel _ _ hd]
theorem ptsL_is : ∀ (f : Nat) (l xs : List Int), ptsL f l = some xs → ∀ x ∈ xs, isI x = true
  | _, [], xs, h, x, hx => by
    rw [ptsL] at h
    · injection h with h; subst h; simp at hx
  | 0, _ :: _, xs, h, x, hx => by cases h
  | f + 1, y :: l, xs, h, x, hx => by
    rw [ptsL] at h
    split at h
    · obtain ⟨r, hr, rfl⟩ := Option.map_eq_some_iff.1 h
      rcases List.mem_cons.1 hx with rfl | hx
      · exact getI_is _
      · exact ptsL_is f _ r hr x hx
    · cases h
theorem pointsL_is {l xs : List Int} (h : pointsL l = some xs) : ∀ x ∈ xs, 0 ≤ x ∧ x ≤ 1114111 := fun x hx => isI_cases (ptsL_is _ _ _ h x hx)
theorem pointsL_len : ∀ (N : Nat) (l xs : List Int), l.length ≤ N → pointsL l = some xs → xs.length ≤ l.length
  | N, [], xs, _, h => by
    rw [pointsL_nil] at h; injection h with h; subst h; simp
  | 0, _ :: _, _, hN, _ => by simp at hN
  | N + 1, x :: l, xs, hN, h => by
    have hb := getI_bounds (l := x :: l) (by simp)
    rw [pointsL_cons (by simp)] at h
    split at h
    · obtain ⟨r, hr, rfl⟩ := Option.map_eq_some_iff.1 h
      rw [List.length_cons] at hN
      have h2 : ((x :: l).drop (getI (x :: l)).2.toNat).length + 1 ≤ (x :: l).length := by rw [List.length_drop, List.length_cons]; omega
      have := pointsL_len N _ r (by rw [List.length_cons] at h2; omega) hr
      rw [List.length_cons]; omega
    · cases h

/-- What decode answers. -/
def DecV (s : ByteArray) (w : World) (e : Ending) (w' : World) : Prop :=
  Below w.heap.size w w' ∧ ((e = .returned (.tuple #[.slice none 0 0, .bool false]) ∧ pointsL (nums s) = none) ∨
  ∃ P q pc xs, e = .returned (.tuple #[.slice P q pc, .bool true]) ∧ pointsL (nums s) = some xs ∧ w'.ownsRow w.heap.size 3 1 (.slice P q pc) q (xs.map (.int .i64)))
end Go.Proofs.YtjpabeeokgfloaaDoor
/- A text's tree. -/
namespace Go.Proofs.YtjpabeeokgfloaaDoor
open Go Go.RowKit

/-- A text's tree. -/
def parseT (s : ByteArray) : Option Wood := (pointsL (nums s)).bind treeL
end Go.Proofs.YtjpabeeokgfloaaDoor
