/- What is true of the parts of a number. -/
import Derived.Test.YtjiagpbmaepamaaRSpread
namespace Go.Proofs.Ytjiagpbmaepamaa
open Go Go.RowKit Go.Deep
set_option linter.unusedVariables false

theorem sum_replicate_int (a : Int) : ∀ n : Nat, (List.replicate n a).sum = (n : Int) * a
  | 0 => by simp
  | n + 1 => by
    rw [List.replicate_succ, List.sum_cons, sum_replicate_int a n, show ((n + 1 : Nat) : Int) = (n : Int) + 1 by omega, Int.add_mul, Int.one_mul, Int.add_comm]
theorem cntN_room (N M : Nat) (hN : 1 ≤ N) (hM : 1 ≤ M) : cntN N M ≤ N ∧ (cntN N M - 1) * M < N ∧ N ≤ cntN N M * M := by
  unfold cntN
  have h1 : M * ((N - 1) / M) + (N - 1) % M = N - 1 := Nat.div_add_mod (N - 1) M
  have h2 : (N - 1) % M < M := Nat.mod_lt _ hM
  have h3 : (N - 1) / M ≤ N - 1 := Nat.div_le_self _ _
  refine ⟨by omega, ?_, ?_⟩
  · rw [Nat.add_sub_cancel, Nat.mul_comm]
    obtain ⟨b, hb⟩ : ∃ b, b = M * ((N - 1) / M) := ⟨_, rfl⟩
    rw [← hb] at h1 ⊢
    omega
  · rw [Nat.add_mul, Nat.one_mul, Nat.mul_comm]
    obtain ⟨b, hb⟩ : ∃ b, b = M * ((N - 1) / M) := ⟨_, rfl⟩
    rw [← hb] at h1 ⊢
    omega
/-- The bounds of the lesser part. -/
theorem each_room (N M C : Nat) (hC : 1 ≤ C) (h1 : C ≤ N) (h2 : N ≤ C * M) : 1 ≤ N / C ∧ N / C ≤ N ∧ N / C ≤ M ∧ (0 < N % C → N / C + 1 ≤ M) := by
  have hd : C * (N / C) + N % C = N := Nat.div_add_mod N C
  refine ⟨Nat.div_pos h1 hC, Nat.div_le_self _ _, ?_, fun hr => ?_⟩
  · refine Nat.le_of_mul_le_mul_left (c := C) ?_ hC
    omega
  · refine Nat.lt_of_mul_lt_mul_left (a := C) ?_
    omega
theorem partsL_facts (N M : Nat) (hN : 1 ≤ N) (hM : 1 ≤ M) : ∀ j, j < cntN N M →
    1 ≤ (partsL N M).getD j 0 ∧ (partsL N M).getD j 0 ≤ (M : Int) ∧ (partsL N M).getD j 0 ≤ (N : Int) + 1 ∧ (partsL N M).getD j 0 ≤ (partsL N M).getD 0 0 + 1 ∧ ∀ i, i ≤ j → (partsL N M).getD i 0 ≤ (partsL N M).getD j 0 := by
  intro j hj
  have hr : N % cntN N M < cntN N M := Nat.mod_lt _ (cntN_pos N M)
  obtain ⟨c1, c2, c3⟩ := cntN_room N M hN hM
  obtain ⟨e1, e2, e3, e4⟩ := each_room N M (cntN N M) (cntN_pos N M) c1 c3
  have hg := partsL_get N M
  have h0 := hg 0 (cntN_pos N M)
  have hjj := hg j hj
  rw [if_neg (by omega)] at h0
  rw [h0]
  have hi : ∀ i, i ≤ j → (partsL N M).getD i 0 ≤ (partsL N M).getD j 0 := by
    intro i hij
    rw [hg i (by omega), hjj]
    split
    · rw [if_pos (by omega)]; exact Int.le_refl _
    · split <;> omega
  refine ⟨?_, ?_, ?_, ?_, hi⟩
  · rw [hjj]; split <;> omega
  · rw [hjj]
    split
    · have := e4 (by omega); omega
    · omega
  · rw [hjj]; split <;> omega
  · rw [hjj]; split <;> omega
theorem partsL_sum (N M : Nat) : (partsL N M).sum = (N : Int) := by
  have hr : N % cntN N M < cntN N M := Nat.mod_lt _ (cntN_pos N M)
  have hd : cntN N M * (N / cntN N M) + N % cntN N M = N := Nat.div_add_mod N (cntN N M)
  unfold partsL
  rw [List.sum_append, sum_replicate_int, sum_replicate_int]
  obtain ⟨C, hC⟩ : ∃ C, C = cntN N M := ⟨_, rfl⟩
  rw [← hC] at hr hd ⊢
  obtain ⟨R, hR⟩ : ∃ R, R = N % C := ⟨_, rfl⟩
  obtain ⟨E, hE⟩ : ∃ E, E = N / C := ⟨_, rfl⟩
  rw [← hR] at hr hd ⊢
  rw [← hE] at hd ⊢
  obtain ⟨s, rfl⟩ : ∃ s, C = s + R := ⟨C - R, by omega⟩
  rw [Nat.add_sub_cancel]
  rw [Int.mul_add, Int.mul_one]
  have : (((s + R) * E + R : Nat) : Int) = (N : Int) := by rw [hd]
  rw [Int.natCast_add, Int.natCast_mul, Int.natCast_add, Int.add_mul] at this
  omega
/-- .. of the first j. -/
theorem sum_take (l : List Int) (j : Nat) (h : j < l.length) : (l.take (j + 1)).sum = (l.take j).sum + l.getD j 0 := by
  rw [List.take_succ_eq_append_getElem h, List.sum_append]
  simp [List.getD, List.getElem?_eq_getElem h]
end Go.Proofs.Ytjiagpbmaepamaa
