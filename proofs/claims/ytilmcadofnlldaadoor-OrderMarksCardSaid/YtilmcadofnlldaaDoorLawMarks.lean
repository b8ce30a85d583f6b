/- OrderMarks: which mark stands at the beginning of any octets, and whether that is sure: the walk. -/
import Derived.Test.YtilmcadofnlldaaDoorAwake2
import Derived.Test.YtilmcadofnlldaaDoorRefMark
import Derived.Test.YtilmcadofnlldaaDoorRefSure
namespace Go.Proofs.YtilmcadofnlldaaDoor
open Go Go.RowKit
set_option linter.unusedVariables false

theorem lawMarks_long (A B : Option Addr) (len cap len2 cap2 : Nat) (w : World) (hM : Marks w) (hl : 100 < len) (hm : len ≤ maxLen) :
    Calls Tryd.prog 3 #[.slice A len cap, .slice B len2 cap2] w fun e w' => e = .returned (.bool true) ∧ Below w.heap.size w w' := by
  unfold maxLen at hm
  have hd : decide ((100 : Int) < (len : Int)) = true := by simp; omega
  go_enter Tryd.func3, Tryd.ntmps3
  go_wp2_with fail
  refine (awake2_any _ hM).mono ?_; rintro e w1 ⟨rfl, hbel⟩
  have hM1 := hM.below hbel (Nat.le_refl _)
  go_wp2_with fail
  refine (awake2_any _ hM1).mono ?_; rintro e w2 ⟨rfl, hbel2⟩
  go_wp2_with fail
  go_ret
  exact ⟨rfl, hbel.trans (Below.mono hbel2 hbel.size)⟩

theorem lawMarks_long2 (A B : Option Addr) (len cap len2 cap2 : Nat) (w : World) (hM : Marks w) (hl1 : len ≤ 100) (hl : 100 < len2) (hm : len2 ≤ maxLen) :
    Calls Tryd.prog 3 #[.slice A len cap, .slice B len2 cap2] w fun e w' => e = .returned (.bool true) ∧ Below w.heap.size w w' := by
  unfold maxLen at hm
  have hd : decide ((100 : Int) < (len : Int)) = false := by simp; omega
  have hd2 : decide ((100 : Int) < (len2 : Int)) = true := by simp; omega
  go_enter Tryd.func3, Tryd.ntmps3
  go_wp2_with fail
  refine (awake2_any _ hM).mono ?_; rintro e w1 ⟨rfl, hbel⟩
  have hM1 := hM.below hbel (Nat.le_refl _)
  go_wp2_with fail
  refine (awake2_any _ hM1).mono ?_; rintro e w2 ⟨rfl, hbel2⟩
  go_wp2_with fail
  go_ret
  exact ⟨rfl, hbel.trans (Below.mono hbel2 hbel.size)⟩

set_option maxHeartbeats 4000000 in
theorem lawMarks_short (A B : Option Addr) (len cap len2 cap2 : Nat) (l r : List Int) (W : World) (hM : Marks W) (hl : len ≤ 100) (hl2 : len2 ≤ 100)
    (hr : RowI .u8 W A len l) (hnil : A = none → len = 0 ∧ cap = 0) (hcap : len ≤ cap) (hcm : cap ≤ maxLen) (hby : ∀ c ∈ l, 0 ≤ c ∧ c < 256)
    (hrr : RowI .u8 W B len2 r) (hnil2 : B = none → len2 = 0 ∧ cap2 = 0) (hby2 : ∀ c ∈ r, 0 ≤ c ∧ c < 256) :
    Calls Tryd.prog 3 #[.slice A len cap, .slice B len2 cap2] W fun e w' => e = .returned (.bool true) ∧ Below W.heap.size W w' := by
  have hd : decide ((100 : Int) < (len : Int)) = false := by simp; omega
  have hd2 : decide ((100 : Int) < (len2 : Int)) = false := by simp; omega
  have hcm2 : cap ≤ 9223372036854775807 := by unfold maxLen at hcm; omega
  obtain ⟨S, hS⟩ : ∃ S, S = strOfNums l := ⟨_, rfl⟩
  have hnS : nums S = l := by rw [hS]; exact nums_strOfNums l hby
  have hSz : S.size ≤ 9223372036854775807 := by rw [hS, strOfNums_size, hr.1]; omega
  obtain ⟨k1, hk1⟩ : ∃ k, k = (markI l).1 := ⟨_, rfl⟩
  obtain ⟨n1, hn1⟩ : ∃ k, k = (markI l).2 := ⟨_, rfl⟩
  obtain ⟨k2, hk2⟩ : ∃ k, k = (markI (l ++ r)).1 := ⟨_, rfl⟩
  obtain ⟨n2, hn2⟩ : ∃ k, k = (markI (l ++ r)).2 := ⟨_, rfl⟩
  obtain ⟨sb, hsb⟩ : ∃ k, k = sureI l := ⟨_, rfl⟩
  have hstay : sb = true → k2 = k1 ∧ n2 = n1 := fun h => by rw [hk1, hk2, hn1, hn2, mark_stays l r (by rw [← hsb]; exact h)]; exact ⟨rfl, rfl⟩
  have hmk : ∀ w, Marks w → RowI .u8 w A len l → Calls Tryd.prog 8 #[.slice A len cap] w fun e w' => e = .returned (.tuple #[.int .i64 k1, .int .i64 n1]) ∧ Below w.heap.size w w' := fun w h1 h2 => by
    rw [hk1, hn1]; exact mark_any A len cap l w h1 h2 hby hcap hcm2
  have hmk2 : ∀ (A : Option Addr) (c : Nat) w, Marks w → RowI .u8 w A (len + len2) (l ++ r) → len + len2 ≤ c → c ≤ maxLen → Calls Tryd.prog 8 #[.slice A (len + len2) c] w fun e w' => e = .returned (.tuple #[.int .i64 k2, .int .i64 n2]) ∧ Below w.heap.size w w' := fun A c w h1 h2 h3 h4 => by
    rw [hk2, hn2]
    refine mark_any A (len + len2) c (l ++ r) w h1 h2 ?_ h3 (by unfold maxLen at h4; omega)
    intro x hx
    rcases List.mem_append.1 hx with h | h
    · exact hby x h
    · exact hby2 x h
  have hrm : ∀ w, Calls Tryd.prog 9 #[.string S] w fun e w' => e = .returned (.tuple #[.int .i64 k1, .int .i64 n1]) ∧ w = w' := fun w => by
    have := refMark_any S w hSz
    rw [hnS, ← hk1, ← hn1] at this
    exact this.mono fun e w' ⟨he, hw⟩ => ⟨he, hw.symm⟩
  have hsu : ∀ w, Marks w → RowI .u8 w A len l → Calls Tryd.prog 10 #[.slice A len cap] w fun e w' => e = .returned (.bool sb) ∧ Below w.heap.size w w' := fun w h1 h2 => by
    rw [hsb]; exact sure_any A len cap l w h1 h2 hby hcap hcm2
  have hrs : ∀ w, Calls Tryd.prog 11 #[.string S] w fun e w' => e = .returned (.bool sb) ∧ w = w' := fun w => by
    have := refSure_any S w
    rw [hnS, ← hsb] at this
    exact this.mono fun e w' ⟨he, hw⟩ => ⟨he, hw.symm⟩
  have hcv : ∀ w, RowI .u8 w A len l → (convert 22 9 (.slice A len cap)).run Tryd.prog w = .ok (.string S) w := fun w h => by rw [hS]; exact strRow w A len cap l h
  clear hk1 hn1 hk2 hn2 hsb hnS hSz hS
  have HMK := Lib.hid hmk; clear hmk
  have HMK2 := Lib.hid hmk2; clear hmk2
  have HRM := Lib.hid hrm; clear hrm
  have HSU := Lib.hid hsu; clear hsu
  have HRS := Lib.hid hrs; clear hrs
  have HCV := Lib.hid hcv; clear hcv
  have HST := Lib.hid hstay; clear hstay
  have HR := Lib.hid hr; clear hr
  have HRR := Lib.hid hrr; clear hrr
  have HN := Lib.hid hnil; clear hnil
  have HN2 := Lib.hid hnil2; clear hnil2
  have HB := Lib.hid hby; clear hby
  have HB2 := Lib.hid hby2; clear hby2
  have HM := Lib.hid hM; clear hM
  have HCM := Lib.hid hcm; clear hcm
  go_enter Tryd.func3, Tryd.ntmps3
  go_wp2_with fail
  refine (awake2_any _ HM.out).mono ?_; rintro e w1 ⟨rfl, hbel⟩
  go_wp2_with fail
  refine (HMK.out _ (HM.out.below hbel (Nat.le_refl _)) (HR.out.below hbel (Nat.le_refl _))).mono ?_; rintro e w2 ⟨rfl, hb2⟩
  have hW2 : Below W.heap.size W w2 := hbel.trans (Below.mono hb2 hbel.size)
  clear hbel hb2
  have hr2 := HR.out.below hW2 (Nat.le_refl _)
  have hM2 := HM.out.below hW2 (Nat.le_refl _)
  have cv := HCV.out w2 hr2
  have hcb : ∀ w, Below w2.heap.size w2 w → (convert 22 9 (.slice A len cap)).run Tryd.prog w = .ok (.string S) w := fun w h => HCV.out w (hr2.below h (Nat.le_refl _))
  have hs2 : ∀ w, Below w2.heap.size w2 w → Calls Tryd.prog 10 #[.slice A len cap] w fun e w' => e = .returned (.bool sb) ∧ Below w2.heap.size w2 w' := fun w h =>
    (HSU.out w (hM2.below h (Nat.le_refl _)) (hr2.below h (Nat.le_refl _))).mono fun e w' ⟨he, hb⟩ => ⟨he, h.trans (Below.mono hb h.size)⟩
  have HS2 := Lib.hid hs2; clear hs2
  have hr0 : Below w2.heap.size w2 w2.drew := (Below.refl _ _).drew
  have HM2 := Lib.hid hM2; clear hM2
  have HR2 := Lib.hid hr2; clear hr2
  have hkk : (k1 != k1) = false := by simp
  have hnn : (n1 != n1) = false := by simp
  have hss : (sb != sb) = false := by simp
  go_wp2_with fail
  refine (HRM.out _).mono ?_; rintro e w' ⟨rfl, rfl⟩
  go_wp2_with fail
  go_region_held (fun w' => Below w2.heap.size w2 w') (assumption) (first
    | (go_at_call 10; refine (HS2.out _ (by assumption)).mono ?_; rintro e w3 ⟨rfl, hb3⟩)
    | (go_at_call 11; refine (HRS.out _).mono ?_; rintro e w' ⟨rfl, rfl⟩))
  have hb3 : Below w2.heap.size w2 w3 := by assumption
  have hr3 := HR2.out.below hb3 (Nat.le_refl _)
  have hW3 : Below W.heap.size W w3 := hW2.trans (Below.mono hb3 hW2.size)
  have hrr3 := HRR.out.below hW3 (Nat.le_refl _)
  clear hb3 hcb hr0
  obtain ⟨v1, w4, happ1, hown1, hgrow1⟩ := app_run .u8 22 5 1 Tryd.underlying22 info_u8 (w3.alloc (.cells #[] 5)) w3.heap.size (.slice (some ⟨w3.heap.size, 0, none⟩) 0 0) 0 [] (World.ownsRow_made w3 #[] 0 (Nat.le_refl _) (Nat.zero_le _) rfl)
    A len cap l (hr3.alloc _) HN.out (by omega) (by unfold maxLen; omega) (by simp)
  have hb4 : Below w3.heap.size w3 w4 := ((Below.refl _ _).alloc (Nat.le_refl _) _).grown hgrow1 (by simp) (by intro k hk; simp [Value.ownBlock] at hk; omega)
  have hrr4 := hrr3.below hb4 (Nat.le_refl _)
  obtain ⟨v2, w5, happ2, hown2, hgrow2⟩ := app_run .u8 22 5 1 Tryd.underlying22 info_u8 w4 w3.heap.size v1 (0 + len) ([] ++ l) hown1
    B len2 cap2 r hrr4 HN2.out (by omega) (by unfold maxLen; omega) hb4.size
  have hb5 : Below w3.heap.size w3 w5 := hb4.grown hgrow2 hb4.size (by intro k hk; exact (hown1.lt k hk).1)
  rw [Nat.zero_add, List.nil_append] at hown2
  obtain ⟨A', cap', rfl, hrc, hcap', hcm'⟩ := row_of_own hown2
  have hW5 : Below W.heap.size W w5 := hW3.trans (Below.mono hb5 hW3.size)
  have hM5 := HM.out.below hW5 (Nat.le_refl _)
  have HA1 := Lib.hid happ1; clear happ1
  have HA2 := Lib.hid happ2; clear happ2
  have HM5 := Lib.hid hM5; clear hM5
  have HRC := Lib.hid hrc; clear hrc
  clear hr3 hrr3 hown1 hgrow1 hb4 hrr4 hown2 hgrow2 hb5
  go_wp2_with (first
    | (at_builtin; refine wpList_append_run rfl _ _ 22 rfl rfl _ _ _ _ rfl rfl HA1.out ?_)
    | (at_builtin; refine wpList_append_run rfl _ _ 22 rfl rfl _ _ _ _ rfl rfl HA2.out ?_))
  refine (HMK2.out _ _ _ HM5.out HRC.out hcap' hcm').mono ?_; rintro e w6 ⟨rfl, hb6⟩
  have hW6 : Below W.heap.size W w6 := hW5.trans (Below.mono hb6 hW5.size)
  have hr6 := HR.out.below hW6 (Nat.le_refl _)
  have hM6 := HM.out.below hW6 (Nat.le_refl _)
  clear hb6
  have HR6 := Lib.hid hr6; clear hr6
  have HM6 := Lib.hid hM6; clear hM6
  go_wp2_with fail
  refine (HSU.out _ HM6.out HR6.out).mono ?_; rintro e w7 ⟨rfl, hb7⟩
  have hW7 : Below W.heap.size W w7 := hW6.trans (Below.mono hb7 hW6.size)
  clear hb7
  rcases sb with _ | _
  · go_wp2_with fail
    go_ret
    exact ⟨rfl, hW7⟩
  · obtain ⟨rfl, rfl⟩ := HST.out rfl
    have e1 : (k2 == k2) = true := by simp
    have e2 : (n2 == n2) = true := by simp
    go_wp2_with fail
    go_ret
    exact ⟨by simp, hW7⟩

theorem lawMarks (A : Option Addr) (len cap : Nat) (zs : List Int) (B : Option Addr) (len2 cap2 : Nat) (zs2 : List Int) (W : World) (hM : Marks W)
    (h : (A = none ∧ len = 0 ∧ cap = 0 ∧ zs = []) ∨
      ∃ x, A = some x ∧ len ≤ cap ∧ cap ≤ maxLen ∧ zs.length = cap ∧ (∀ i, i < zs.length → W.cell? (x.add i) = some (.int .u8 (zs.getD i 0))) ∧ ∀ n ∈ zs, (Lit.int .u8 n).wf = true)
    (h' : (B = none ∧ len2 = 0 ∧ cap2 = 0 ∧ zs2 = []) ∨
      ∃ x, B = some x ∧ len2 ≤ cap2 ∧ cap2 ≤ maxLen ∧ zs2.length = cap2 ∧ (∀ i, i < zs2.length → W.cell? (x.add i) = some (.int .u8 (zs2.getD i 0))) ∧ ∀ n ∈ zs2, (Lit.int .u8 n).wf = true) :
    Calls Tryd.prog 3 #[.slice A len cap, .slice B len2 cap2] W fun e w' => e = .returned (.bool true) ∧ Below W.heap.size W w' := by
  obtain ⟨hr, hcap, hcm, hnil, hwf⟩ := rowI_of_row h
  obtain ⟨hr', hcap', hcm', hnil', hwf'⟩ := rowI_of_row h'
  rcases Nat.lt_or_ge 100 len with hl | hl
  · exact lawMarks_long A B len cap len2 cap2 W hM hl (Nat.le_trans hcap hcm)
  · rcases Nat.lt_or_ge 100 len2 with hl' | hl'
    · exact lawMarks_long2 A B len cap len2 cap2 W hM hl hl' (Nat.le_trans hcap' hcm')
    · exact lawMarks_short A B len cap len2 cap2 _ _ W hM hl hl' hr hnil hcap hcm (fun c hc => byte_of_wf (hwf c hc)) hr' hnil' (fun c hc => byte_of_wf (hwf' c hc))
end Go.Proofs.YtilmcadofnlldaaDoor
