/- There and back; the octets of many code points. -/
import Derived.Test.YtjpabeeokgfloaaM04
import Derived.Test.YtjpabeeokgfloaaM07
import Derived.Test.YtjpabeeokgfloaaM09
namespace Go.Proofs.Ytjpabeeokgfloaa
open Go Go.RowKit
set_option linter.unusedVariables false

theorem valI_put {s : Int} (h : isI s = true) : valI (putI s) = s := by
  have h0 := isI_cases h
  unfold putI
  (repeat' split) <;> simp only [valI, vtailI] <;> unfold vheadI <;> (repeat' split) <;> omega
/-- There and back it is itself, whatever stands behind. -/
theorem get_put {s : Int} (h : isI s = true) (rest : List Int) : getI (putI s ++ rest) = (s, ((putI s).length : Int)) := by
  cases hp : putI s with
  | nil => unfold putI at hp; (repeat' split at hp) <;> cases hp
  | cons x t =>
    have hf := putI_form h hp
    rw [List.cons_append, get_same x _ (putI_byte s h x (by rw [hp]; simp)).1, rgetF_one, hf.1]
    have ht : (x :: (t ++ rest)).take ((t.length : Int) + 1).toNat = putI s := by
      rw [hp, show ((t.length : Int) + 1).toNat = t.length + 1 by omega, List.take_succ_cons, List.take_left]
    have hok : okI (x :: (t ++ rest)) ((t.length : Int) + 1).toNat = true := by
      unfold okI
      rw [ht, valI_put h, h, decide_eq_true rfl, decide_eq_true (by simp)]
      rfl
    rw [if_pos ⟨hok, by omega⟩, ht, valI_put h]
    simp
theorem putI_len (r : Int) : 1 ≤ (putI r).length ∧ (putI r).length ≤ 4 := by unfold putI; (repeat' split) <;> simp

theorem getI_bounds {l : List Int} (h : l ≠ []) : 1 ≤ (getI l).2 ∧ (getI l).2 ≤ l.length := by
  cases l with
  | nil => exact absurd rfl h
  | cons x t =>
    simp only [getI, List.length_cons]
    have := lenI_or x
    (repeat' split) <;> simp <;> omega
theorem getI_is (l : List Int) : isI (getI l).1 = true := by
  cases l with
  | nil => decide
  | cons x t =>
    simp only [getI]
    split
    · decide
    · split
      · rename_i h1 h2
        exact szI_pos_is h2.2 (by have := lenI_or x; omega)
      · decide

/-- The octets of many code points, one behind the other. -/
def putAll : List Int → List Int
  | [] => []
  | c :: cs => putI c ++ putAll cs
theorem putAll_snoc : ∀ (cs : List Int) (c : Int), putAll (cs ++ [c]) = putAll cs ++ putI c
  | [], c => by simp [putAll]
  | d :: cs, c => by simp only [List.cons_append, putAll, putAll_snoc cs c, List.append_assoc]
theorem putAll_append : ∀ (ds bs : List Int), putAll (ds ++ bs) = putAll ds ++ putAll bs
  | [], _ => rfl
  | d :: ds, bs => by simp only [List.cons_append, putAll, putAll_append ds bs, List.append_assoc]
theorem putAll_len : ∀ cs : List Int, cs.length ≤ (putAll cs).length ∧ (putAll cs).length ≤ 4 * cs.length
  | [] => by simp [putAll]
  | c :: cs => by
    have h := putI_len c
    have h2 := putAll_len cs
    simp only [putAll, List.length_append, List.length_cons]
    omega
theorem putAll_byte : ∀ cs : List Int, (∀ c ∈ cs, isI c = true) → ∀ x ∈ putAll cs, 0 ≤ x ∧ x < 256
  | [], _, x, hx => by simp [putAll] at hx
  | c :: cs, h, x, hx => by
    rw [putAll, List.mem_append] at hx
    rcases hx with hx | hx
    · exact putI_byte c (h c (by simp)) x hx
    · exact putAll_byte cs (fun d hd => h d (List.mem_cons_of_mem _ hd)) x hx

end Go.Proofs.Ytjpabeeokgfloaa
/- A text's code points. -/
namespace Go.Proofs.Ytjpabeeokgfloaa
open Go Go.RowKit
set_option linter.unusedVariables false
set_option maxRecDepth 20000

/-- Octets as code points; none: some are no code point's. -/
def ptsL : Nat → List Int → Option (List Int)
  | _, [] => some []
  | 0, _ :: _ => none
  | f + 1, x :: l => if (getI (x :: l)).2 = szI (getI (x :: l)).1 then (ptsL f ((x :: l).drop (getI (x :: l)).2.toNat)).map fun r => (getI (x :: l)).1 :: r else none
theorem ptsL_fuel : ∀ (f : Nat) (l : List Int), l.length ≤ f → ptsL f l = ptsL l.length l
  | 0, [], _ => rfl
  | 0, _ :: _, h => by simp at h
  | f + 1, [], _ => rfl
  | f + 1, x :: l, h => by
    rw [List.length_cons, ptsL, ptsL]
    have hb := getI_bounds (l := x :: l) (by simp)
    have hd : ((x :: l).drop (getI (x :: l)).2.toNat).length ≤ l.length := by
      rw [List.length_drop, List.length_cons]; omega
    rw [List.length_cons] at h
    rw [ptsL_fuel f _ (by omega), ptsL_fuel l.length _ hd]
def pointsL (l : List Int) : Option (List Int) := ptsL l.length l
theorem pointsL_nil : pointsL [] = some [] := rfl
theorem pointsL_cons {l : List Int} (h : l ≠ []) : pointsL l = if (getI l).2 = szI (getI l).1 then (pointsL (l.drop (getI l).2.toNat)).map fun r => (getI l).1 :: r else none := by
  rcases l with _ | ⟨x, l⟩
  · exact absurd rfl h
  · have hb := getI_bounds (l := x :: l) (by simp)
    have hd : ((x :: l).drop (getI (x :: l)).2.toNat).length ≤ l.length := by
      rw [List.length_drop, List.length_cons]; omega
    unfold pointsL
    rw [List.length_cons, ptsL, ptsL_fuel _ _ hd]
theorem ptsL_is : ∀ (f : Nat) (l xs : List Int), ptsL f l = some xs → ∀ x ∈ xs, isI x = true
  | _, [], xs, h, x, hx => by
    rw [ptsL] at h
    · injection h with h; subst h; simp at hx
  | 0, _ :: _, xs, h, x, hx => by cases h
  | f + 1, y :: l, xs, h, x, hx => by
    rw [ptsL] at h
    split at h
    · obtain ⟨r, hr, rfl⟩ := Option.map_eq_some_iff.1 h
      rcases List.mem_cons.1 hx with rfl | hx
      · exact getI_is _
      · exact ptsL_is f _ r hr x hx
    · cases h
theorem pointsL_is {l xs : List Int} (h : pointsL l = some xs) : ∀ x ∈ xs, 0 ≤ x ∧ x ≤ 1114111 := fun x hx => isI_cases (ptsL_is _ _ _ h x hx)
theorem pointsL_len : ∀ (N : Nat) (l xs : List Int), l.length ≤ N → pointsL l = some xs → xs.length ≤ l.length
  | N, [], xs, _, h => by
    rw [pointsL_nil] at h; injection h with h; subst h; simp
  | 0, _ :: _, _, hN, _ => by simp at hN
  | N + 1, x :: l, xs, hN, h => by
    have hb := getI_bounds (l := x :: l) (by simp)
    rw [pointsL_cons (by simp)] at h
    split at h
    · obtain ⟨r, hr, rfl⟩ := Option.map_eq_some_iff.1 h
      rw [List.length_cons] at hN
      have h2 : ((x :: l).drop (getI (x :: l)).2.toNat).length + 1 ≤ (x :: l).length := by rw [List.length_drop, List.length_cons]; omega
      have := pointsL_len N _ r (by rw [List.length_cons] at h2; omega) hr
      rw [List.length_cons]; omega
    · cases h

/-- What decode answers. -/
def DecV (s : ByteArray) (w : World) (e : Ending) (w' : World) : Prop :=
  Below w.heap.size w w' ∧ ((e = .returned (.tuple #[.slice none 0 0, .bool false]) ∧ pointsL (nums s) = none) ∨
  ∃ P q pc xs, e = .returned (.tuple #[.slice P q pc, .bool true]) ∧ pointsL (nums s) = some xs ∧ w'.ownsRow w.heap.size 3 1 (.slice P q pc) q (xs.map (.int .i64)))
end Go.Proofs.Ytjpabeeokgfloaa
/- A text's tree. -/
namespace Go.Proofs.Ytjpabeeokgfloaa
open Go Go.RowKit

/-- A text's tree. -/
def parseT (s : ByteArray) : Option Wood := (pointsL (nums s)).bind treeL
end Go.Proofs.Ytjpabeeokgfloaa
