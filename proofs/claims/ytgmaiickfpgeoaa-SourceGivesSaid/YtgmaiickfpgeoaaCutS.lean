/- What the document says of pieces, in plain words on lists. -/
import Derived.Test.YtgmaiickfpgeoaaKit
namespace Go.Proofs.Ytgmaiickfpgeoaa
open Go Go.RowKit
set_option linter.unusedVariables false

/-- How long piece i may be, where so many octets are left. -/
def cszI (zs : List Int) (i left : Nat) : Int := if zs.length = 0 then (left : Int) else min (max (zs.getD (i % zs.length) 0) 1) 4096
/-- How long it is. -/
def stepN (zs : List Int) (i left : Nat) : Nat := (min (cszI zs i left) (left : Int)).toNat
theorem cszI_pos (zs : List Int) (i left : Nat) (h : 0 < left) : 1 ≤ cszI zs i left := by
  unfold cszI; split <;> omega
theorem stepN_int (zs : List Int) (i left : Nat) (h : 0 < left) : ((stepN zs i left : Nat) : Int) = min (cszI zs i left) (left : Int) := by
  have := cszI_pos zs i left h
  unfold stepN; omega
theorem stepN_le (zs : List Int) (i left : Nat) (h : 0 < left) : 1 ≤ stepN zs i left ∧ stepN zs i left ≤ left := by
  have := cszI_pos zs i left h
  have := stepN_int zs i left h
  omega
theorem stepN_room (zs : List Int) (i left : Nat) (h : 0 < left) (hz : 0 < zs.length) : stepN zs i left ≤ 4096 := by
  have := stepN_int zs i left h
  unfold cszI at this
  rw [if_neg (by omega)] at this
  omega

/-- The pieces of xs, the first one having the number i. -/
def cutL (zs : List Int) (xs : List Int) (i : Nat) : List (List Int) :=
  if h : xs.length = 0 then [] else xs.take (stepN zs i xs.length) :: cutL zs (xs.drop (stepN zs i xs.length)) (i + 1)
termination_by xs.length
decreasing_by
  have := stepN_le zs i xs.length (by omega)
  simp
  omega

theorem cutL_nil (zs : List Int) (i : Nat) : cutL zs [] i = [] := by rw [cutL]; simp
theorem cutL_step (zs : List Int) (xs : List Int) (i : Nat) (h : 0 < xs.length) : cutL zs xs i = xs.take (stepN zs i xs.length) :: cutL zs (xs.drop (stepN zs i xs.length)) (i + 1) := by
  rw [cutL, dif_neg (by omega)]

theorem cutL_facts (zs : List Int) : ∀ (n : Nat) (xs : List Int) (i : Nat), xs.length ≤ n → (cutL zs xs i).flatten = xs ∧ (cutL zs xs i).length ≤ xs.length ∧
    (∀ p ∈ cutL zs xs i, 0 < p.length ∧ p.length ≤ xs.length ∧ (0 < zs.length → p.length ≤ 4096) ∧ ∀ c ∈ p, c ∈ xs)
  | 0, xs, i, h => by
    obtain rfl : xs = [] := List.eq_nil_of_length_eq_zero (by omega)
    rw [cutL_nil]
    simp
  | n + 1, xs, i, h => by
    rcases Nat.eq_zero_or_pos xs.length with h0 | h0
    · obtain rfl : xs = [] := List.eq_nil_of_length_eq_zero h0
      rw [cutL_nil]
      simp
    · have hs := stepN_le zs i xs.length h0
      have hr := stepN_room zs i xs.length h0
      rw [cutL_step zs xs i h0]
      obtain ⟨k, hk⟩ : ∃ k, k = stepN zs i xs.length := ⟨_, rfl⟩
      rw [← hk] at hs hr ⊢
      obtain ⟨h1, h2, h3⟩ := cutL_facts zs n (xs.drop k) (i + 1) (by simp; omega)
      refine ⟨by rw [List.flatten_cons, h1, List.take_append_drop], by simp at h2 ⊢; omega, fun p hp => ?_⟩
      rcases List.mem_cons.1 hp with rfl | hp
      · exact ⟨by simp; omega, by simp; omega, (fun hz => by have := hr hz; simp; omega), fun c hc => List.mem_of_mem_take hc⟩
      · obtain ⟨q1, q2, q3, q4⟩ := h3 p hp
        exact ⟨q1, by simp at q2; omega, q3, fun c hc => List.mem_of_mem_drop (q4 c hc)⟩
theorem cutL_flatten (zs xs : List Int) (i : Nat) : (cutL zs xs i).flatten = xs := (cutL_facts zs xs.length xs i (Nat.le_refl _)).1
theorem cutL_length (zs xs : List Int) (i : Nat) : (cutL zs xs i).length ≤ xs.length := (cutL_facts zs xs.length xs i (Nat.le_refl _)).2.1
theorem cutL_piece (zs xs : List Int) (i : Nat) : ∀ p ∈ cutL zs xs i, 0 < p.length ∧ p.length ≤ xs.length ∧ (0 < zs.length → p.length ≤ 4096) ∧ ∀ c ∈ p, c ∈ xs := (cutL_facts zs xs.length xs i (Nat.le_refl _)).2.2

theorem size_strOfNums (l : List Int) : (strOfNums l).size = l.length := by simp [strOfNums, ByteArray.size]
theorem strOfNums_extract (l : List Int) (i j : Nat) : (strOfNums l).extract i j = strOfNums ((l.drop i).take (j - i)) := by
  apply ByteArray.ext
  apply Array.toList_inj.1
  rw [ByteArray.data_extract, Array.toList_extract, strOfNums_data, strOfNums_data]
  show ((_ : List UInt8).drop i).take (j - i) = _
  rw [List.map_take, List.map_drop]
theorem strOfNums_take (l : List Int) (m : Nat) : (strOfNums l).extract 0 m = strOfNums (l.take m) := by
  rw [strOfNums_extract, List.drop_zero, Nat.sub_zero]
theorem strOfNums_drop (l : List Int) (m : Nat) : (strOfNums l).extract m (strOfNums l).size = strOfNums (l.drop m) := by
  rw [strOfNums_extract, size_strOfNums, List.take_of_length_le (by simp)]
theorem strOfNums_append (l m : List Int) : strOfNums l ++ strOfNums m = strOfNums (l ++ m) := by
  apply ByteArray.ext
  apply Array.toList_inj.1
  rw [ByteArray.data_append, Array.toList_append, strOfNums_data, strOfNums_data, strOfNums_data, List.map_append]
end Go.Proofs.Ytgmaiickfpgeoaa
