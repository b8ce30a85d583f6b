/- A line of nodes, each below the one before: who is below whom, what two cancels leave. -/
import Derived.Test.YtcgjpmokhpcnnaaTreP
namespace Go.Proofs.Ytcgjpmokhpcnnaa
open Go Go.RowKit
set_option linter.unusedVariables false
set_option maxRecDepth 20000

def lineU (k : Nat) : List Int := (List.range k).map fun j : Nat => (j : Int) - 1
theorem lineU_length (k : Nat) : (lineU k).length = k := by simp [lineU]
theorem lineU_succ (k : Nat) : lineU (k + 1) = lineU k ++ [(k : Int) - 1] := by
  unfold lineU
  rw [List.range_succ, List.map_append]
  rfl
theorem lineU_at {k j : Nat} (h : j < k) : (lineU k).getD j 0 = (j : Int) - 1 := by simp [lineU, List.getD, List.getElem?_range h]
theorem lineU_wf {k : Nat} (hk : 0 < k) : WfUp (lineU k) := by
  refine ⟨by rw [lineU_length]; exact hk, by simp [lineU, List.getElem?_range hk], fun j h0 h1 => ?_⟩
  rw [lineU_length] at h1
  rw [lineU_at h1]
  omega
theorem line_und {k : Nat} (a : Nat) : ∀ i : Nat, i < k → undB (lineU k) (i : Int) (a : Int) = decide (a < i)
  | 0, _ => by simp [undB_root]
  | i + 1, h => by
    have hs := undB_step (n := (a : Int)) (k := ((i + 1 : Nat) : Int)) (lineU_wf (k := k) (by omega)) (by omega) (by rw [lineU_length]; omega)
    rw [Int.toNat_natCast, lineU_at h, show (((i + 1 : Nat) : Int) - 1) = (i : Int) by omega, line_und a i (by omega)] at hs
    rw [hs]
    by_cases hia : (i : Int) = (a : Int)
    · rw [if_pos hia]; simp; omega
    · rw [if_neg hia]; simp; omega
theorem count_up (a : Nat) : ∀ k : Nat, (List.range k).countP (fun j => decide (a ≤ j)) = k - a
  | 0 => by simp
  | k + 1 => by
    rw [List.range_succ, List.countP_append, count_up a k]
    by_cases h : a ≤ k
    · simp [h]; omega
    · simp [h]; omega
theorem count_mid (a b : Nat) : ∀ k : Nat, a ≤ k → (List.range k).countP (fun j => decide (b ≤ j) && decide (j < a)) = a - b
  | 0, h => by
    have : a = 0 := by omega
    subst this; simp
  | k + 1, h => by
    rw [List.range_succ, List.countP_append]
    rcases Nat.lt_or_ge k a with h1 | h1
    · have hak : a = k + 1 := by omega
      subst hak
      have e : (List.range k).countP (fun j => decide (b ≤ j) && decide (j < k + 1)) = (List.range k).countP (fun j => decide (b ≤ j)) := List.countP_congr fun j hj => by
        have := List.mem_range.1 hj
        simp; omega
      rw [e, count_up b k]
      by_cases h2 : b ≤ k
      · simp [h2]; omega
      · simp [h2]; omega
    · rw [count_mid a b k h1]
      have : ¬ k < a := by omega
      simp [this]
theorem line_cut {k a j : Nat} (hj : j < k) (ca : List Int) : cutsB (lineU k) ca (a : Int) j = (decide (a ≤ j) && (ca.getD j 0 == 0)) := by
  unfold cutsB
  rw [line_und a j hj]
  congr 1
  by_cases h1 : j = a
  · subst h1; simp
  · by_cases h2 : a < j
    · have : a ≤ j := by omega
      simp [h2, this]
    · have : ¬ a ≤ j := by omega
      have h3 : ¬ ((j : Int) = (a : Int)) := by omega
      simp [h2, this, h3]
/-- The causes behind the first cancel, and behind the second. -/
def line1 (k a : Nat) : List Int := (List.range k).map fun j : Nat => if a ≤ j then (12 : Int) else 0
def line2 (k a b : Nat) : List Int := (List.range k).map fun j : Nat => if a ≤ j then (12 : Int) else if b ≤ j then 13 else 0
theorem line1_at {k a j : Nat} (h : j < k) : (line1 k a).getD j 0 = if a ≤ j then 12 else 0 := by simp [line1, List.getD, List.getElem?_range h]
theorem line2_at {k a b j : Nat} (h : j < k) : (line2 k a b).getD j 0 = if a ≤ j then 12 else if b ≤ j then 13 else 0 := by simp [line2, List.getD, List.getElem?_range h]
theorem zeros_at {k j : Nat} : (List.replicate k (0 : Int)).getD j 0 = 0 := by
  rcases Nat.lt_or_ge j k with h | h
  · simp [List.getD, h]
  · simp [List.getD, show ¬ j < k by omega]
theorem line_can1 (k a : Nat) : canC (lineU k) (List.replicate k 0) (a : Int) 12 k = line1 k a := by
  unfold canC line1
  rw [List.length_replicate]
  refine List.map_congr_left fun j hj => ?_
  have hj := List.mem_range.1 hj
  rw [line_cut hj, zeros_at]
  simp [hj]
theorem line_num1 (k a : Nat) : canN (lineU k) (List.replicate k 0) (a : Int) k = k - a := by
  unfold canN
  rw [← count_up a k]
  exact List.countP_congr fun j hj => by
    rw [line_cut (List.mem_range.1 hj), zeros_at]
    simp
theorem line_can2 (k a b : Nat) : canC (lineU k) (line1 k a) (b : Int) 13 k = line2 k a b := by
  unfold canC line2
  rw [show (line1 k a).length = k by simp [line1]]
  refine List.map_congr_left fun j hj => ?_
  have hj := List.mem_range.1 hj
  rw [line_cut hj, line1_at hj]
  by_cases h1 : a ≤ j <;> by_cases h2 : b ≤ j <;> simp [h1, h2, hj]
theorem line_num2 (k a b : Nat) (ha : a ≤ k) : canN (lineU k) (line1 k a) (b : Int) k = a - b := by
  unfold canN
  rw [← count_mid a b k ha]
  exact List.countP_congr fun j hj => by
    rw [line_cut (List.mem_range.1 hj), line1_at (List.mem_range.1 hj)]
    by_cases h1 : a ≤ j
    · have : ¬ j < a := by omega
      simp [h1, this]
    · have : j < a := by omega
      simp [h1, this]
theorem line_bel (k i : Nat) (hi : i < k) : (belL (lineU k) (i : Int) k).length = k - 1 - i := by
  unfold belL
  rw [List.length_map, ← List.countP_eq_length_filter]
  have e : (List.range k).countP (fun j : Nat => isB (lineU k) (i : Int) && undB (lineU k) (j : Int) (i : Int)) = (List.range k).countP (fun j => decide (i + 1 ≤ j)) := List.countP_congr fun j hj => by
    rw [line_und i j (List.mem_range.1 hj)]
    have : isB (lineU k) (i : Int) = true := by simp [isB, lineU_length, hi]
    rw [this]
    simp; omega
  rw [e, count_up]
  omega
theorem line_canE {k a : Nat} (h : a < k) (c : Int) (hc : c ≠ 0) : canE (lineU k) (a : Int) c = 0 := by
  unfold canE
  rw [if_pos ⟨by simp [isB, lineU_length, h], hc⟩]
end Go.Proofs.Ytcgjpmokhpcnnaa
