/- A splitter: Close. -/
import Derived.Test.YtnfekbmmnenbfaaSplB
namespace Go.Proofs.Ytnfekbmmnenbfaa
open Go Go.RowKit
set_option linter.unusedVariables false

theorem strOfNums_empty (l : List Int) : ((strOfNums l).toList == []) = decide (l.length = 0) := by
  rw [Lib.toList_data]
  have h : (strOfNums l).data.toList.length = l.length := by rw [strOfNums_data]; simp
  by_cases h0 : l.length = 0
  · rw [decide_eq_true h0]
    have : (strOfNums l).data.toList = [] := List.eq_nil_of_length_eq_zero (by omega)
    rw [this]; rfl
  · rw [decide_eq_false h0, beq_eq_false_iff_ne]
    intro e
    rw [e] at h
    exact h0 h.symm
theorem strOfNums_size (l : List Int) : (strOfNums l).size = l.length := by
  have h : (strOfNums l).data.toList.length = l.length := by rw [strOfNums_data]; simp
  rw [Array.length_toList] at h
  exact h

section
variable {w : World} {B g m n p : Nat} {V : Value} {cur : List Int} {over : Bool}
set_option maxHeartbeats 2000000 in
/-- Behind it nothing is held: the last record is told, if there is one. -/
theorem close_any (h : SplAt w B g m n p V cur over) (hc : cur.length ≤ 1000000) :
    Calls Try.prog 14 #[.pointer (some ⟨g, 0, none⟩)] w fun e w' => ∃ A c, e = .returned (.tuple #[.slice A (if 0 < cur.length ∧ cur.length ≤ m then 1 else 0) c, .int .i64 (if m < cur.length then 10 else 0)]) ∧
      w'.ownsRow w.heap.size 40 3 (.slice A (if 0 < cur.length ∧ cur.length ≤ m then 1 else 0) c) (if 0 < cur.length ∧ cur.length ≤ m then 1 else 0) (cellsR (if 0 < cur.length ∧ cur.length ≤ m then [⟨n, p, cur⟩] else [])) ∧
      SplAt w' B g m n p (.slice none 0 0) [] true ∧ Touch B g w w' := by
  obtain ⟨A, c, rfl, hrow, hcc, hcm⟩ := h.isSlice
  obtain ⟨W1, hW1⟩ : ∃ W1, W1 = (w.alloc (.cells #[.int .i64 (n : Int), .int .i64 (p : Int), .string (strOfNums cur)] 40)).drew := ⟨_, rfl⟩
  have hb1 : Below w.heap.size w W1 := by rw [hW1]; exact ((Below.refl _ _).alloc (Nat.le_refl _) _).drew
  have h1 := h.below hb1
  have ht1 : Touch B g w W1 := Touch.of_below hb1 h.leB
  have hq1 : W1.heap[w.heap.size]? = some (.cells #[.int .i64 (n : Int), .int .i64 (p : Int), .string (strOfNums cur)] 40 (0, 0)) := by rw [hW1]; exact heap_alloc_new w _
  have hne : g ≠ w.heap.size := by have := h.lt; omega
  have c1 := h.c1
  have c2 := h.c2
  have c3 := h.c3
  have c1a := fun o => (h.below ((Below.refl _ _).alloc (Nat.le_refl _) o)).c1
  have c2a := fun o => (h.below ((Below.refl _ _).alloc (Nat.le_refl _) o)).c2
  have c3a := fun o => (h.below ((Below.refl _ _).alloc (Nat.le_refl _) o)).c3
  have hcv := strRow w.drew A _ c _ hrow
  have hcv2 := fun o => strRow (w.alloc o).drew A _ c _ (hrow.alloc o)
  have HF := Lib.hid (finish_any h1)
  have hze := strOfNums_empty cur
  have hsz := strOfNums_size cur
  have HQ1 := Lib.hid hq1
  have HT1 := Lib.hid ht1
  have hlB := h.leB
  clear h hrow hb1 h1 ht1 hq1
  rcases Nat.eq_zero_or_pos cur.length with h0 | h0
  · rw [decide_eq_true h0] at hze
    rw [if_neg (by omega), if_neg (by omega), if_neg (by omega)]
    clear h0
    go_enter Try.func14, Try.ntmps14
    go_wp2_with fail
    go_region
    rw [← hW1]
    clear hW1 c1 c2 c3 c1a c2a c3a hcv hcv2
    go_wp2_with (go_at_call 17; refine HF.out.mono ?_; rintro e W2 ⟨rfl, h2, ht2⟩; have hq2 := ht2.keep _ _ _ _ HQ1.out (fun e => hne e.symm) (by decide); have z0 := cell_of_row _ w.heap.size 0 _ _ (0, 0) hq2; have z1 := cell_of_row _ w.heap.size 1 _ _ (0, 0) hq2; have z2 := cell_of_row _ w.heap.size 2 _ _ (0, 0) hq2; have d0 := h2.c0; have H2 := Lib.hid h2; have HW2 := Lib.hid (Nat.le_trans HT1.out.low.size ht2.low.size); have HT2 := Lib.hid (HT1.out.trans ht2); clear h2 ht2 hq2 HQ1 HF)
    go_ret2
    exact ⟨none, 0, rfl, World.ownsRow_nil _ _ _ _, H2.out, HT2.out⟩
  · rw [decide_eq_false (by omega)] at hze
    by_cases hlong : m < cur.length
    · have hd : decide ((m : Int) < (cur.length : Int)) = true := by simp; exact hlong
      rw [if_neg (by omega), if_pos hlong, if_neg (by omega)]
      go_enter Try.func14, Try.ntmps14
      go_wp2_with fail
      go_region
      rw [← hW1]
      clear hW1 c1 c2 c3 c1a c2a c3a hcv hcv2
      go_wp2_with (go_at_call 17; refine HF.out.mono ?_; rintro e W2 ⟨rfl, h2, ht2⟩; have hq2 := ht2.keep _ _ _ _ HQ1.out (fun e => hne e.symm) (by decide); have z0 := cell_of_row _ w.heap.size 0 _ _ (0, 0) hq2; have z1 := cell_of_row _ w.heap.size 1 _ _ (0, 0) hq2; have z2 := cell_of_row _ w.heap.size 2 _ _ (0, 0) hq2; have d0 := h2.c0; have H2 := Lib.hid h2; have HW2 := Lib.hid (Nat.le_trans HT1.out.low.size ht2.low.size); have HT2 := Lib.hid (HT1.out.trans ht2); clear h2 ht2 hq2 HQ1 HF)
      go_quiet (fail)
      go_wp2_with fail
      go_ret2
      exact ⟨none, 0, rfl, World.ownsRow_nil _ _ _ _, H2.out.drewN _, HT2.out.drewN _⟩
    · have hd : decide ((m : Int) < (cur.length : Int)) = false := by simp; omega
      rw [if_pos (by omega), if_neg hlong, if_pos (by omega)]
      go_enter Try.func14, Try.ntmps14
      go_wp2_with fail
      go_region
      rw [← hW1]
      clear hW1 c1 c2 c3 c1a c2a c3a hcv hcv2
      go_wp2_with (go_at_call 17; refine HF.out.mono ?_; rintro e W2 ⟨rfl, h2, ht2⟩; have hq2 := ht2.keep _ _ _ _ HQ1.out (fun e => hne e.symm) (by decide); have z0 := cell_of_row _ w.heap.size 0 _ _ (0, 0) hq2; have z1 := cell_of_row _ w.heap.size 1 _ _ (0, 0) hq2; have z2 := cell_of_row _ w.heap.size 2 _ _ (0, 0) hq2; have d0 := h2.c0; have H2 := Lib.hid h2; have HW2 := Lib.hid (Nat.le_trans HT1.out.low.size ht2.low.size); have HT2 := Lib.hid (HT1.out.trans ht2); clear h2 ht2 hq2 HQ1 HF)
      go_quiet (fail)
      go_wp2_with fail
      go_ret2
      refine ⟨some ⟨W2.heap.size, 0, none⟩, 1, rfl, ?_, (H2.out.drewN nq).below ((Below.refl _ _).alloc (Nat.le_refl _) _), (HT2.out.drewN nq).alloc hlB _⟩
      have hle : w.heap.size ≤ W2.heap.size := HW2.out
      exact ⟨rfl, .inr ⟨W2.heap.size, 1, _, rfl, hle, heap_alloc_new (W2.drewN nq) _, Nat.le_refl _, by unfold maxLen; omega, rfl, rfl⟩⟩
end
end Go.Proofs.Ytnfekbmmnenbfaa
