/- There and back; the octets of many code points. -/
import Derived.Test.YtoojfjealncddaaDoorSame
namespace Go.Proofs.YtoojfjealncddaaDoor
open Go Go.RowKit
set_option linter.unusedVariables false

theorem valI_put {s : Int} (h : isI s = true) : valI (putI s) = s := by
  have h0 := isI_cases h
  unfold putI
  (repeat' split) <;> simp only [valI, vtailI] <;> unfold vheadI <;> (repeat' split) <;> omega
/-- There and back it is itself, whatever stands behind. -/
theorem get_put {s : Int} (h : isI s = true) (rest : List Int) : getI (putI s ++ rest) = (s, ((putI s).length : Int)) := by
  cases hp : putI s with
  | nil => unfold putI at hp; (repeat' split at hp) <;> cases hp
  | cons x t =>
    have hf := putI_form h hp
    rw [List.cons_append, get_same x _ (putI_byte s h x (by rw [hp]; simp)).1, rgetF_one, hf.1]
    have ht : (x :: (t ++ rest)).take ((t.length : Int) + 1).toNat = putI s := by
      rw [hp, show ((t.length : Int) + 1).toNat = t.length + 1 by omega, List.take_succ_cons, List.take_left]
    have hok : okI (x :: (t ++ rest)) ((t.length : Int) + 1).toNat = true := by
      unfold okI
      rw [ht, valI_put h, h, decide_eq_true rfl, decide_eq_true (by simp)]
      rfl
    rw [if_pos ⟨hok, by omega⟩, ht, valI_put h]
    simp
theorem putI_len (r : Int) : 1 ≤ (putI r).length ∧ (putI r).length ≤ 4 := by unfold putI; (repeat' split) <;> simp

theorem getI_bounds {l : List Int} (h : l ≠ []) : 1 ≤ (getI l).2 ∧ (getI l).2 ≤ l.length := by
  cases l with
  | nil => exact absurd rfl h
  | cons x t =>
    simp only [getI, List.length_cons]
    have := lenI_or x
    (repeat' split) <;> simp <;> omega
theorem getI_is (l : List Int) : isI (getI l).1 = true := by
  cases l with
  | nil => decide
  | cons x t =>
    simp only [getI]
    split
    · decide
    · split
      · rename_i h1 h2
        exact szI_pos_is h2.2 (by have := lenI_or x; omega)
      · decide

/-- The octets of many code points, one behind the other. -/
def putAll : List Int → List Int
  | [] => []
  | c :: cs => putI c ++ putAll cs
theorem putAll_snoc : ∀ (cs : List Int) (c : Int), putAll (cs ++ [c]) = putAll cs ++ putI c
  | [], c => by simp [putAll]
  | d :: cs, c => by simp only [List.cons_append, putAll, putAll_snoc cs c, List.append_assoc]
theorem putAll_append : ∀ (ds bs : List Int), putAll (ds ++ bs) = putAll ds ++ putAll bs
  | [], _ => rfl
  | d :: ds, bs => by simp only [List.cons_append, putAll, putAll_append ds bs, List.append_assoc]
theorem putAll_len : ∀ cs : List Int, cs.length ≤ (putAll cs).length ∧ (putAll cs).length ≤ 4 * cs.length
  | [] => by simp [putAll]
  | c :: cs => by
    have h := putI_len c
    have h2 := putAll_len cs
    simp only [putAll, List.length_append, List.length_cons]
    omega
theorem putAll_byte : ∀ cs : List Int, (∀ c ∈ cs, isI c = true) → ∀ x ∈ putAll cs, 0 ≤ x ∧ x < 256
  | [], _, x, hx => by simp [putAll] at hx
  | c :: cs, h, x, hx => by
    rw [putAll, List.mem_append] at hx
    rcases hx with hx | hx
    · exact putI_byte c (h c (by simp)) x hx
    · exact putAll_byte cs (fun d hd => h d (List.mem_cons_of_mem _ hd)) x hx

end Go.Proofs.YtoojfjealncddaaDoor
