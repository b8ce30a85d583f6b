/- Windows with numbered items from a place to a place. -/
import Derived.Test.YtmpemcooianfiaaRinF
namespace Go.Proofs.Ytmpemcooianfiaa
open Go Go.RowKit
set_option linter.unusedVariables false
def gW (a b nx k : Nat) : List (Option It) := (List.range k).map fun q => if a ≤ q ∧ q < b then some (numIt ((nx + q : Nat) : Int)) else none
theorem gW_length (a b nx k : Nat) : (gW a b nx k).length = k := by simp [gW]
theorem gW_at (a b nx k q : Nat) (h : q < k) : (gW a b nx k)[q]? = some (if a ≤ q ∧ q < b then some (numIt ((nx + q : Nat) : Int)) else none) := by
  unfold gW
  rw [List.getElem?_map, List.getElem?_range h]
  rfl
theorem gW_none (nx k a : Nat) : gW a a nx k = List.replicate k none := by
  apply List.ext_getElem?
  intro q
  rcases Nat.lt_or_ge q k with h | h
  · rw [gW_at a a nx k q h, if_neg (by omega), List.getElem?_replicate, if_pos h]
  · rw [List.getElem?_eq_none (by rw [gW_length]; exact h), List.getElem?_eq_none (by simpa using h)]
theorem gW_putR (a b nx k q : Nat) (h : q < k) : putR nx (gW a b nx k) ((nx + q : Nat) : Int) = if a ≤ q ∧ q < b then 2 else 0 := by
  unfold putR
  rw [if_neg (by omega), if_neg (by rw [gW_length]; omega)]
  have e : (((nx + q : Nat) : Int) - (nx : Int)).toNat = q := by omega
  rw [e, gW_at a b nx k q h]
  by_cases h1 : a ≤ q ∧ q < b
  · rw [if_pos h1, if_pos h1]
  · rw [if_neg h1, if_neg h1]
theorem gW_putB (a b nx k q : Nat) (h : k ≤ q) : putR nx (gW a b nx k) ((nx + q : Nat) : Int) = 16 := by
  unfold putR
  rw [if_neg (by omega), if_pos (by rw [gW_length]; omega)]
theorem gW_putW (a nx k : Nat) (h : a < k) : putW nx (gW (a + 1) k nx k) (numIt ((nx + a : Nat) : Int)) = gW a k nx k := by
  have h0 : (numIt ((nx + a : Nat) : Int)).n = ((nx + a : Nat) : Int) := rfl
  have h1 : putR nx (gW (a + 1) k nx k) ((nx + a : Nat) : Int) = 0 := by rw [gW_putR _ _ _ _ _ h, if_neg (by omega)]
  unfold putW
  rw [h0, h1, if_pos rfl]
  have e : (((nx + a : Nat) : Int) - (nx : Int)).toNat = a := by omega
  rw [e]
  apply List.ext_getElem?
  intro q
  rw [List.getElem?_set]
  rcases Nat.lt_or_ge q k with hq | hq
  · rw [gW_at a k nx k q hq]
    by_cases hqa : a = q
    · subst hqa
      rw [if_pos rfl, if_pos (by rw [gW_length]; exact h), if_pos ⟨Nat.le_refl _, h⟩]
    · rw [if_neg hqa, gW_at _ _ _ _ _ hq]
      congr 1
      by_cases h2 : a ≤ q
      · rw [if_pos ⟨by omega, hq⟩, if_pos ⟨h2, hq⟩]
      · rw [if_neg (by omega), if_neg (by omega)]
  · rw [List.getElem?_eq_none (by rw [gW_length]; exact hq), if_neg (by omega), List.getElem?_eq_none (by rw [gW_length]; exact hq)]
theorem gW_put1 (nx k : Nat) (h : 0 < k) : putW nx (gW 0 0 nx k) (numIt ((nx : Nat) : Int)) = gW 0 1 nx k := by
  have h0 : (numIt ((nx : Nat) : Int)).n = ((nx + 0 : Nat) : Int) := rfl
  have h1 : putR nx (gW 0 0 nx k) ((nx + 0 : Nat) : Int) = 0 := by rw [gW_putR _ _ _ _ _ h, if_neg (by omega)]
  unfold putW
  rw [h0, h1, if_pos rfl]
  have e : (((nx + 0 : Nat) : Int) - (nx : Int)).toNat = 0 := by omega
  rw [e]
  apply List.ext_getElem?
  intro q
  rw [List.getElem?_set]
  rcases Nat.lt_or_ge q k with hq | hq
  · rw [gW_at _ _ nx k q hq]
    by_cases hqa : 0 = q
    · subst hqa
      rw [if_pos rfl, if_pos (by rw [gW_length]; exact h), gW_at _ _ _ _ _ hq, if_pos ⟨Nat.le_refl _, by omega⟩]
      rfl
    · rw [if_neg hqa, gW_at _ _ _ _ _ hq, if_neg (by omega), if_neg (by omega)]
  · rw [List.getElem?_eq_none (by rw [gW_length]; exact hq), if_neg (by omega), List.getElem?_eq_none (by rw [gW_length]; exact hq)]
theorem gW_cons (a b nx k : Nat) : gW a b nx (k + 1) = (if a ≤ 0 ∧ 0 < b then some (numIt ((nx : Nat) : Int)) else none) :: gW (a - 1) (b - 1) (nx + 1) k := by
  unfold gW
  rw [List.range_succ_eq_map, List.map_cons, List.map_map]
  congr 1
  refine List.map_congr_left fun q _ => ?_
  simp only [Function.comp]
  by_cases h : a ≤ q + 1 ∧ q + 1 < b
  · rw [if_pos h, if_pos (by omega)]
    congr 2
    omega
  · rw [if_neg h, if_neg (by omega)]
theorem gW_snoc (b nx k : Nat) (h : b ≤ k) : gW 0 b nx k ++ [none] = gW 0 b nx (k + 1) := by
  unfold gW
  rw [List.range_succ, List.map_append, List.map_singleton, if_neg (by omega)]
/-- The next one is given. -/
theorem gW_next (b nx k : Nat) (h0 : 0 < b) (h : b ≤ k) : headW (gW 0 b nx k) = some (numIt (nx : Int)) ∧ tailW (gW 0 b nx k) = gW 0 (b - 1) (nx + 1) k ∧ nextN nx (gW 0 b nx k) = nx + 1 := by
  obtain ⟨j, rfl⟩ : ∃ j, k = j + 1 := ⟨k - 1, by omega⟩
  have e := gW_cons 0 b nx j
  rw [if_pos ⟨Nat.le_refl _, h0⟩] at e
  rw [e]
  refine ⟨rfl, ?_, rfl⟩
  show gW (0 - 1) (b - 1) (nx + 1) j ++ [none] = _
  exact gW_snoc _ _ _ (by omega)
theorem gW_head (a b nx k : Nat) (h : 0 < a ∨ b = 0) : headW (gW a b nx k) = none := by
  rcases k with _ | j
  · rfl
  · rw [gW_cons, if_neg (by omega)]
    rfl
theorem gW_hold (a b nx : Nat) : ∀ k, (hold (gW a b nx k)).length = min b k - a := by
  intro k
  induction k with
  | zero => simp [gW, hold]
  | succ k ih =>
    have e : gW a b nx (k + 1) = gW a b nx k ++ [if a ≤ k ∧ k < b then some (numIt ((nx + k : Nat) : Int)) else none] := by
      unfold gW
      rw [List.range_succ, List.map_append, List.map_singleton]
    rw [e]
    unfold hold at ih ⊢
    rw [List.filterMap_append, List.length_append, ih]
    by_cases h : a ≤ k ∧ k < b
    · rw [if_pos h]
      simp
      omega
    · rw [if_neg h]
      simp
      omega
theorem gW_hits (a b nx k : Nat) (w : World) : ∀ x ∈ hold (gW a b nx k), HitsAt 0 w x ∧ x.hm ≤ 100000 := by
  intro x hx
  rw [mem_hold] at hx
  obtain ⟨q, _, hq⟩ := List.mem_map.1 hx
  split at hq
  · injection hq with hq
    subst hq
    exact ⟨num_hits _ _, by show 0 ≤ 100000; omega⟩
  · cases hq
end Go.Proofs.Ytmpemcooianfiaa
