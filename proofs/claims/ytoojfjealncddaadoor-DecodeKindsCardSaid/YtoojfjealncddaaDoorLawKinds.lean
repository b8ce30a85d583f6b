/- DecodeKinds: the kind is told as soon as it is sure, and stays: the walk. -/
import Derived.Test.YtoojfjealncddaaDoorText
import Derived.Test.YtoojfjealncddaaDoorRefText
import Derived.Test.YtoojfjealncddaaDoorRefSure
namespace Go.Proofs.YtoojfjealncddaaDoor
open Go Go.RowKit
set_option linter.unusedVariables false

theorem lawKinds_out (k : Int) (A B : Option Addr) (len cap len2 cap2 : Nat) (w : World) (hM : Marks w) (hl : len ≤ maxLen) (hl2 : len2 ≤ maxLen) (h : k < 0 ∨ 3 < k ∨ 100 < len ∨ 100 < len2) :
    Calls Tryd.prog 5 #[.int .i64 k, .slice A len cap, .slice B len2 cap2] w fun e w' => e = .returned (.bool true) ∧ Below w.heap.size w w' := by
  unfold maxLen at hl hl2
  have hcase : (decide (k < 0) = true) ∨ (decide (k < 0) = false ∧ decide (3 < k) = true) ∨ (decide (k < 0) = false ∧ decide (3 < k) = false ∧ decide ((100 : Int) < (len : Int)) = true) ∨
      (decide (k < 0) = false ∧ decide (3 < k) = false ∧ decide ((100 : Int) < (len : Int)) = false ∧ decide ((100 : Int) < (len2 : Int)) = true) := by
    simp; omega
  have HM := Lib.hid hM; clear hM
  clear h
  rcases hcase with d1 | ⟨d1, d2⟩ | ⟨d1, d2, d3⟩ | ⟨d1, d2, d3, d4⟩
  all_goals
    go_enter Tryd.func5, Tryd.ntmps5
    go_wp2_with fail
    refine (awake3_any _ HM.out).mono ?_; rintro e w1 ⟨rfl, hbel⟩
    have HM1 := Lib.hid (HM.out.below hbel (Nat.le_refl _))
    go_wp2_with fail
    refine (awake3_any _ HM1.out).mono ?_; rintro e w2 ⟨rfl, hbel2⟩
    go_wp2_with fail
    go_ret
    exact ⟨rfl, hbel.trans (Below.mono hbel2 hbel.size)⟩

/-- What is told of the kind by what was written. -/
theorem TellR.told {k : Int} {xs out rest : List Int} {k' : Int} (h : TellR k false xs k' out rest) : k' = if k = 0 then (if sureI xs = true then kindI xs else 0) else k := by
  rcases h with ⟨h1, _, h2, h3, _⟩ | ⟨h1, h2, h3, _⟩ | ⟨h1, h2, _⟩
  · rw [if_pos h1, if_neg (by rw [h2]; decide), h3]
  · rw [if_pos h1, if_pos (by simpa using h2), h3]
  · rw [if_neg h1, h2]

set_option maxHeartbeats 4000000 in
theorem lawKinds_in (k : Int) (A B : Option Addr) (len cap len2 cap2 : Nat) (l l2 : List Int) (W : World) (hM : Marks W) (hk0 : 0 ≤ k) (hk3 : k ≤ 3) (hl : len ≤ 100) (hl2 : len2 ≤ 100)
    (hr : RowI .u8 W A len l) (hnil : A = none → len = 0 ∧ cap = 0) (hby : ∀ c ∈ l, 0 ≤ c ∧ c < 256) (hr2 : RowI .u8 W B len2 l2) (hnil2 : B = none → len2 = 0 ∧ cap2 = 0) (hby2 : ∀ c ∈ l2, 0 ≤ c ∧ c < 256) :
    Calls Tryd.prog 5 #[.int .i64 k, .slice A len cap, .slice B len2 cap2] W fun e w' => e = .returned (.bool true) ∧ Below W.heap.size W w' := by
  have d1 : decide (k < 0) = false := by simp; omega
  have d2 : decide (3 < k) = false := by simp; omega
  have d3 : decide ((100 : Int) < (len : Int)) = false := by simp; omega
  have d4 : decide ((100 : Int) < (len2 : Int)) = false := by simp; omega
  have haw := awake3_any W hM
  have HAW := Lib.hid haw; clear haw
  have HM := Lib.hid hM; clear hM
  have HR := Lib.hid hr; clear hr
  have HR2 := Lib.hid hr2; clear hr2
  have HNIL := Lib.hid hnil; clear hnil
  have HNIL2 := Lib.hid hnil2; clear hnil2
  have HBY := Lib.hid hby; clear hby
  have HBY2 := Lib.hid hby2; clear hby2
  have HLL := Lib.hid HR.out.1
  have HLL2 := Lib.hid HR2.out.1
  have HK0 := Lib.hid hk0; clear hk0
  have HK3 := Lib.hid hk3; clear hk3
  go_enter Tryd.func5, Tryd.ntmps5
  go_wp2_with fail
  refine HAW.out.mono ?_; rintro e w1 ⟨rfl, hb1⟩
  have hn := new_ok k w1 HK0.out HK3.out
  have HN := Lib.hid hn; clear hn
  go_wp2_with fail
  refine HN.out.mono ?_; rintro e w2 ⟨rfl, hd2, hb2⟩
  have hg0 : 0 < w1.heap.size := (HM.out.below hb1 (Nat.le_refl _)).1
  have hW2 : Below W.heap.size W w2 := hb1.trans (Below.mono hb2 hb1.size)
  have hw := write_any w1.heap.size k [] A len cap l w2 (HM.out.below hW2 (Nat.le_refl _)) hg0 hd2 (HR.out.below hW2 (Nat.le_refl _)) HNIL.out HBY.out (by simp; omega)
  have HW := Lib.hid hw; clear hw
  clear hd2
  go_wp2_with fail
  refine HW.out.mono ?_; rintro e w3 ⟨k', out, r3, rfl, ht, hd3, hb3⟩
  rw [List.nil_append] at ht
  have hW3 : Below W.heap.size W w3 := hW2.trans (Below.mono hb3 hb1.size)
  have hk' := ht.told
  have hkk := ht.kind HK0.out HK3.out
  have hsz := (ht.size HK0.out HK3.out).2
  have hkd := fun w (h : Dec w w1.heap.size k' false r3) => kind_any w1.heap.size k' false r3 w h
  have hw2 := write_any w1.heap.size k' r3 B len2 cap2 l2 w3 (HM.out.below hW3 (Nat.le_refl _)) hg0 hd3 (HR2.out.below hW3 (Nat.le_refl _)) HNIL2.out HBY2.out (by have := HLL.out; omega)
  have HKD := Lib.hid hkd; clear hkd
  have HW2 := Lib.hid hw2; clear hw2
  have HD3 := Lib.hid hd3; clear hd3
  clear ht hsz
  have hcv := strRow w3 A len cap l (HR.out.below hW3 (Nat.le_refl _))
  have hns : nums (strOfNums l) = l := nums_strOfNums l HBY.out
  have hsu := fun w => refSure_any (strOfNums l) w
  have hmk := fun w => refMark_any (strOfNums l) w (by rw [strOfNums_size, HLL.out]; omega)
  rw [hns] at hsu hmk
  have HSU := Lib.hid hsu; clear hsu
  have HMK := Lib.hid hmk; clear hmk
  have HKK := Lib.hid hkk; clear hkk
  clear hns hb3
  by_cases h0 : k = 0
  · subst h0
    rw [if_pos rfl] at hk'
    by_cases hs : sureI l = true
    · rw [if_pos hs] at hk'
      rw [hs] at HSU
      have hkor := kindI_or l
      obtain ⟨mk, hmk⟩ : ∃ mk, mk = (markI l).1 := ⟨_, rfl⟩
      have hki : k' = if mk = 0 then 1 else mk := by rw [hk', hmk]; rfl
      rw [← hmk] at HMK
      have HKI := Lib.hid hki; clear hki
      have hne : (k' == 0) = false := by rw [beq_eq_false_iff_ne]; omega
      have heq : (k' != k') = false := by simp
      clear hk' hkor hmk hs
      by_cases hm0 : mk = 0
      · have hm1 : (mk == 0) = true := by rw [beq_iff_eq]; exact hm0
        have HKI2 : k' = 1 := by have := HKI.out; rwa [if_pos hm0] at this
        subst HKI2
        clear hm0
        go_wp2_with fail
        refine (HSU.out _).mono ?_; rintro e w4 ⟨rfl, rfl⟩
        go_wp2_with fail
        refine (HMK.out _).mono ?_; rintro e w5 ⟨rfl, rfl⟩
        go_wp2_with fail
        refine (HKD.out _ HD3.out).mono ?_; rintro e w6 ⟨rfl, rfl⟩
        go_wp2_with fail
        refine HW2.out.mono ?_; rintro e w7 ⟨k2, out2, r4, rfl, ht2, hd4, hb4⟩
        have hk2 := ht2.told
        rw [if_neg (by decide)] at hk2
        subst hk2
        have hkd2 := kind_any w1.heap.size 1 false r4 w7 hd4
        have hW4 := hW3.trans (Below.mono hb4 hb1.size)
        have HKD2 := Lib.hid hkd2; clear hkd2
        clear ht2 hd4 hb4
        go_wp2_with fail
        refine HKD2.out.mono ?_; rintro e w8 ⟨rfl, rfl⟩
        go_wp2_with fail
        go_ret
        exact ⟨rfl, hW4⟩
      · have hm1 : (mk == 0) = false := by rw [beq_eq_false_iff_ne]; exact hm0
        have HKI2 : k' = mk := by have := HKI.out; rwa [if_neg hm0] at this
        subst HKI2
        go_wp2_with fail
        refine (HSU.out _).mono ?_; rintro e w4 ⟨rfl, rfl⟩
        go_wp2_with fail
        refine (HMK.out _).mono ?_; rintro e w5 ⟨rfl, rfl⟩
        go_wp2_with fail
        refine (HKD.out _ HD3.out).mono ?_; rintro e w6 ⟨rfl, rfl⟩
        go_wp2_with fail
        refine HW2.out.mono ?_; rintro e w7 ⟨k2, out2, r4, rfl, ht2, hd4, hb4⟩
        have hk2 := ht2.told
        rw [if_neg hm0] at hk2
        subst hk2
        have hkd2 := kind_any w1.heap.size _ false r4 w7 hd4
        have hW4 := hW3.trans (Below.mono hb4 hb1.size)
        have HKD2 := Lib.hid hkd2; clear hkd2
        clear ht2 hd4 hb4
        go_wp2_with fail
        refine HKD2.out.mono ?_; rintro e w8 ⟨rfl, rfl⟩
        go_wp2_with fail
        go_ret
        exact ⟨by simp, hW4⟩
    · rw [if_neg hs] at hk'
      have hs' : sureI l = false := by cases h : sureI l with | false => rfl | true => exact absurd h hs
      rw [hs'] at HSU
      subst hk'
      clear hs hs'
      go_wp2_with fail
      refine (HSU.out _).mono ?_; rintro e w4 ⟨rfl, rfl⟩
      go_wp2_with fail
      refine (HKD.out _ HD3.out).mono ?_; rintro e w6 ⟨rfl, rfl⟩
      go_wp2_with fail
      refine HW2.out.mono ?_; rintro e w7 ⟨k2, out2, r4, rfl, ht2, hd4, hb4⟩
      have hW4 := hW3.trans (Below.mono hb4 hb1.size)
      clear ht2 hd4 hb4
      go_wp2_with fail
      go_ret
      exact ⟨rfl, hW4⟩
  · rw [if_neg h0] at hk'
    subst hk'
    have h0' : (k' == 0) = false := by rw [beq_eq_false_iff_ne]; exact h0
    go_wp2_with fail
    refine (HKD.out _ HD3.out).mono ?_; rintro e w6 ⟨rfl, rfl⟩
    go_wp2_with fail
    refine HW2.out.mono ?_; rintro e w7 ⟨k2, out2, r4, rfl, ht2, hd4, hb4⟩
    have hk2 := ht2.told
    rw [if_neg h0] at hk2
    subst hk2
    have hkd2 := kind_any w1.heap.size _ false r4 w7 hd4
    have hW4 := hW3.trans (Below.mono hb4 hb1.size)
    have HKD2 := Lib.hid hkd2; clear hkd2
    clear ht2 hd4 hb4
    go_wp2_with fail
    refine HKD2.out.mono ?_; rintro e w8 ⟨rfl, rfl⟩
    go_wp2_with fail
    go_ret
    exact ⟨by simp, hW4⟩

theorem lawKinds (k : Int) (A : Option Addr) (len cap : Nat) (zs : List Int) (B : Option Addr) (len2 cap2 : Nat) (zs2 : List Int) (W : World) (hM : Marks W)
    (h : (A = none ∧ len = 0 ∧ cap = 0 ∧ zs = []) ∨
      ∃ x, A = some x ∧ len ≤ cap ∧ cap ≤ maxLen ∧ zs.length = cap ∧ (∀ i, i < zs.length → W.cell? (x.add i) = some (.int .u8 (zs.getD i 0))) ∧ ∀ n ∈ zs, (Lit.int .u8 n).wf = true)
    (h' : (B = none ∧ len2 = 0 ∧ cap2 = 0 ∧ zs2 = []) ∨
      ∃ x, B = some x ∧ len2 ≤ cap2 ∧ cap2 ≤ maxLen ∧ zs2.length = cap2 ∧ (∀ i, i < zs2.length → W.cell? (x.add i) = some (.int .u8 (zs2.getD i 0))) ∧ ∀ n ∈ zs2, (Lit.int .u8 n).wf = true) :
    Calls Tryd.prog 5 #[.int .i64 k, .slice A len cap, .slice B len2 cap2] W fun e w' => e = .returned (.bool true) ∧ Below W.heap.size W w' := by
  obtain ⟨hr, hcap, hcm, hnil, hwf⟩ := rowI_of_row h
  obtain ⟨hr', hcap', hcm', hnil', hwf'⟩ := rowI_of_row h'
  by_cases ho : k < 0 ∨ 3 < k ∨ 100 < len ∨ 100 < len2
  · exact lawKinds_out k A B len cap len2 cap2 W hM (Nat.le_trans hcap hcm) (Nat.le_trans hcap' hcm') ho
  · exact lawKinds_in k A B len cap len2 cap2 _ _ W hM (by omega) (by omega) (by omega) (by omega) hr hnil (fun c hc => byte_of_wf (hwf c hc)) hr' hnil' (fun c hc => byte_of_wf (hwf' c hc))
end Go.Proofs.YtoojfjealncddaaDoor
