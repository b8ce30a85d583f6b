/- A tree as two lists: parents, which fall, and causes: who is below whom; what is added, what is cancelled. -/
import Derived.Test.YtcgjpmokhpcnnaaRecS
namespace Go.Proofs.Ytcgjpmokhpcnnaa
open Go Go.RowKit
set_option linter.unusedVariables false
set_option maxRecDepth 20000

/-- Is k below n, at most so many steps further up? -/
def undF (up : List Int) (n : Int) : Nat → Int → Bool
  | 0, _ => false
  | f + 1, k => if 0 < k then (if up.getD k.toNat 0 = n then true else undF up n f (up.getD k.toNat 0)) else false
/-- Is k below n? -/
def undB (up : List Int) (k n : Int) : Bool := undF up n k.toNat k
/-- Each node but the root has a parent of a lower number. -/
def WfUp (up : List Int) : Prop := 0 < up.length ∧ up[0]? = some (-1) ∧ ∀ k : Nat, 0 < k → k < up.length → 0 ≤ up.getD k 0 ∧ up.getD k 0 < (k : Int)
section
variable {up : List Int} {n k : Int}
theorem WfUp.step (h : WfUp up) {k : Int} (h0 : 0 < k) (hk : k < (up.length : Int)) : 0 ≤ up.getD k.toNat 0 ∧ up.getD k.toNat 0 < k := by
  have := h.2.2 k.toNat (by omega) (by omega)
  omega
theorem undF_more (h : WfUp up) (n : Int) : ∀ (f : Nat) (k : Int), 0 ≤ k → k < (up.length : Int) → k.toNat ≤ f → undF up n f k = undF up n k.toNat k
  | 0, k, h0, hk, hf => by rw [show k.toNat = 0 by omega]
  | f + 1, k, h0, hk, hf => by
    rcases Nat.eq_zero_or_pos k.toNat with hz | hz
    · rw [hz]
      simp only [undF]
      rw [if_neg (by omega)]
    · obtain ⟨m, hm⟩ : ∃ m, k.toNat = m + 1 := ⟨k.toNat - 1, by omega⟩
      obtain ⟨p0, p1⟩ := h.step (k := k) (by omega) hk
      have hk0 : 0 < k := by omega
      rw [hm]
      simp only [undF, if_pos hk0]
      split
      · rfl
      · rw [undF_more h n f _ p0 (by omega) (by omega), undF_more h n m _ p0 (by omega) (by omega)]
/-- One step up. -/
theorem undB_step (h : WfUp up) (h0 : 0 < k) (hk : k < (up.length : Int)) : undB up k n = if up.getD k.toNat 0 = n then true else undB up (up.getD k.toNat 0) n := by
  obtain ⟨m, hm⟩ : ∃ m, k.toNat = m + 1 := ⟨k.toNat - 1, by omega⟩
  obtain ⟨p0, p1⟩ := h.step h0 hk
  obtain ⟨p, hp⟩ : ∃ p, p = up.getD k.toNat 0 := ⟨_, rfl⟩
  unfold undB
  rw [← hp] at p0 p1 ⊢
  rw [hm]
  simp only [undF, if_pos h0, ← hp]
  split
  · rfl
  · exact undF_more h n m _ p0 (by omega) (by omega)
theorem undB_root (n : Int) : undB up 0 n = false := rfl
/-- What is below a node has a greater number. -/
theorem undB_lt (h : WfUp up) (n : Int) : ∀ (m : Nat) (k : Int), k.toNat = m → 0 ≤ k → k < (up.length : Int) → undB up k n = true → n < k := by
  intro m
  induction m using Nat.strongRecOn with
  | ind m ih =>
    intro k hm h0 hk hu
    rcases Nat.eq_zero_or_pos k.toNat with hz | hz
    · rw [show k = 0 by omega, undB_root] at hu
      cases hu
    · obtain ⟨p0, p1⟩ := h.step (k := k) (by omega) hk
      rw [undB_step h (by omega) hk] at hu
      split at hu
      · omega
      · have := ih (up.getD k.toNat 0).toNat (by omega) _ rfl p0 (by omega) hu
        omega
/-- A node behind is added: the others stand as they stood. -/
theorem WfUp.add (h : WfUp up) {p : Int} (h0 : 0 ≤ p) (hp : p < (up.length : Int)) : WfUp (up ++ [p]) := by
  refine ⟨by simp, by rw [List.getElem?_append_left h.1]; exact h.2.1, fun k hk hl => ?_⟩
  rw [List.length_append, List.length_singleton] at hl
  rcases Nat.lt_or_ge k up.length with h1 | h1
  · rw [show (up ++ [p]).getD k 0 = up.getD k 0 by simp [List.getD, List.getElem?_append_left h1]]
    exact h.2.2 k hk h1
  · have hkl : k = up.length := by omega
    subst hkl
    rw [show (up ++ [p]).getD up.length 0 = p by simp [List.getD]]
    omega
theorem undB_add (h : WfUp up) {p : Int} (h0 : 0 ≤ p) (hp : p < (up.length : Int)) (n : Int) : ∀ (m : Nat) (k : Int), k.toNat = m → 0 ≤ k → k < (up.length : Int) → undB (up ++ [p]) k n = undB up k n := by
  intro m
  induction m using Nat.strongRecOn with
  | ind m ih =>
    intro k hm h0' hk
    rcases Nat.eq_zero_or_pos k.toNat with hz | hz
    · rw [show k = 0 by omega]
      rfl
    · obtain ⟨p0, p1⟩ := h.step (k := k) (by omega) hk
      have e : (up ++ [p]).getD k.toNat 0 = up.getD k.toNat 0 := by simp [List.getD, List.getElem?_append_left (show k.toNat < up.length by omega)]
      rw [undB_step (h.add h0 hp) (by omega) (by rw [List.length_append]; simp; omega), undB_step h (by omega) hk, e, ih _ (by omega) _ rfl p0 (by omega)]
end
/-- Is there such a node? -/
def isB (up : List Int) (n : Int) : Bool := decide (0 ≤ n) && decide (n < (up.length : Int))
/-- What Add answers, and leaves. -/
def addE (up : List Int) (n : Int) : Int := if isB up n = true then (if 256 ≤ up.length then 16 else 0) else 2
def addX (up : List Int) (n : Int) : Int := if addE up n = 0 then (up.length : Int) else 0
def addU (up : List Int) (n : Int) : List Int := if addE up n = 0 then up ++ [n] else up
def addC (up ca : List Int) (n : Int) : List Int := if addE up n = 0 then ca ++ [ca.getD n.toNat 0] else ca
/-- What Cancel answers, and leaves: the first m nodes. -/
def cutsB (up ca : List Int) (n : Int) (k : Nat) : Bool := ((k : Int) == n || undB up (k : Int) n) && (ca.getD k 0 == 0)
def canE (up : List Int) (n cause : Int) : Int := if isB up n = true ∧ cause ≠ 0 then 0 else 2
/-- The causes, where those of the first m nodes that want it are turned. -/
def canC (up ca : List Int) (n cause : Int) (m : Nat) : List Int := (List.range ca.length).map fun k => if k < m ∧ cutsB up ca n k = true then cause else ca.getD k 0
/-- How many of the first m nodes are turned. -/
def canN (up ca : List Int) (n : Int) (m : Nat) : Nat := (List.range m).countP (cutsB up ca n)
/-- The nodes below, of the first m. -/
def belL (up : List Int) (n : Int) (m : Nat) : List Int := ((List.range m).filter fun k : Nat => isB up n && undB up (k : Int) n).map fun k : Nat => (k : Int)
section
variable {up ca : List Int} {n cause : Int} {m : Nat}
theorem canC_length : (canC up ca n cause m).length = ca.length := by simp [canC]
theorem canC_zero : canC up ca n cause 0 = ca := by
  apply List.ext_getElem?
  intro k
  unfold canC
  rw [List.getElem?_map]
  rcases Nat.lt_or_ge k ca.length with h | h
  · rw [List.getElem?_range h, List.getElem?_eq_getElem h]
    simp [List.getD, List.getElem?_eq_getElem h]
  · rw [List.getElem?_eq_none (by simpa using h), List.getElem?_eq_none h]
    rfl
theorem canC_at {k : Nat} (hk : k < ca.length) : (canC up ca n cause m)[k]? = some (if k < m ∧ cutsB up ca n k = true then cause else ca.getD k 0) := by
  unfold canC
  rw [List.getElem?_map, List.getElem?_range hk]
  rfl
/-- One node more. -/
theorem canC_succ (hm : m < ca.length) : canC up ca n cause (m + 1) = if cutsB up ca n m = true then (canC up ca n cause m).set m cause else canC up ca n cause m := by
  by_cases hc : cutsB up ca n m = true
  · rw [if_pos hc]
    apply List.ext_getElem?
    intro k
    rcases Nat.lt_or_ge k ca.length with hk | hk
    · rw [canC_at hk]
      rcases Nat.lt_trichotomy k m with h | h | h
      · rw [List.getElem?_set_ne (by omega), canC_at hk]
        simp [h, show k < m + 1 by omega]
      · subst h
        rw [List.getElem?_set_self (by rw [canC_length]; exact hk)]
        simp [hc]
      · rw [List.getElem?_set_ne (by omega), canC_at hk]
        simp [show ¬ k < m by omega, show ¬ k < m + 1 by omega]
    · rw [List.getElem?_eq_none (by rw [canC_length]; exact hk), List.getElem?_eq_none (by rw [List.length_set, canC_length]; exact hk)]
  · rw [if_neg hc]
    apply List.ext_getElem?
    intro k
    rcases Nat.lt_or_ge k ca.length with hk | hk
    · rw [canC_at hk, canC_at hk]
      rcases Nat.lt_trichotomy k m with h | h | h
      · simp [h, show k < m + 1 by omega]
      · subst h
        simp [hc]
      · simp [show ¬ k < m by omega, show ¬ k < m + 1 by omega]
    · rw [List.getElem?_eq_none (by rw [canC_length]; exact hk), List.getElem?_eq_none (by rw [canC_length]; exact hk)]
theorem canN_succ : canN up ca n (m + 1) = canN up ca n m + (if cutsB up ca n m = true then 1 else 0) := by
  unfold canN
  rw [List.range_succ, List.countP_append]
  simp [List.countP_cons]
theorem belL_succ : belL up n (m + 1) = belL up n m ++ (if (isB up n && undB up (m : Int) n) = true then [(m : Int)] else []) := by
  unfold belL
  rw [List.range_succ, List.filter_append, List.map_append]
  congr 1
  by_cases h : (isB up n && undB up (m : Int) n) = true
  · rw [if_pos h]; simp [h]
  · rw [if_neg h]; simp [h]
end
end Go.Proofs.Ytcgjpmokhpcnnaa
