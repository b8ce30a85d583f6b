/- DecodeTexts: the text of any octets is the document's; it is text: the walk. -/
import Derived.Test.YtoojfjealncddaaDoorText
import Derived.Test.YtoojfjealncddaaDoorRefText
import Derived.Test.YtoojfjealncddaaDoorBytes
namespace Go.Proofs.YtoojfjealncddaaDoor
open Go Go.RowKit
set_option linter.unusedVariables false

theorem TextR.again {k : Int} {xs o : List Int} (h : TextR k xs o) : TextR 1 o o := by
  refine .inr (.inl ⟨.inl rfl, ?_⟩)
  rcases h with ⟨_, h⟩ | ⟨_, h⟩ | ⟨_, h⟩
  · exact h.again
  · exact h.again
  · rw [h]; exact pour_nil (.inl rfl)

theorem lawTexts_long (k : Int) (A : Option Addr) (len cap : Nat) (w : World) (hM : Marks w) (hl : 400 < len) (hm : len ≤ maxLen) :
    Calls Tryd.prog 3 #[.int .i64 k, .slice A len cap] w fun e w' => e = .returned (.bool true) ∧ Below w.heap.size w w' := by
  unfold maxLen at hm
  have hd : decide ((400 : Int) < (len : Int)) = true := by simp; omega
  go_enter Tryd.func3, Tryd.ntmps3
  go_wp2_with fail
  refine (awake3_any _ hM).mono ?_; rintro e w1 ⟨rfl, hbel⟩
  have hM1 := hM.below hbel (Nat.le_refl _)
  go_wp2_with fail
  refine (awake3_any _ hM1).mono ?_; rintro e w2 ⟨rfl, hbel2⟩
  go_wp2_with fail
  go_ret
  exact ⟨rfl, hbel.trans (Below.mono hbel2 hbel.size)⟩

set_option maxHeartbeats 2000000 in
theorem lawTexts_short (k : Int) (A : Option Addr) (len cap : Nat) (l : List Int) (W : World) (hM : Marks W) (hl : len ≤ 400) (hr : RowI .u8 W A len l) (hnil : A = none → len = 0 ∧ cap = 0) (hby : ∀ c ∈ l, 0 ≤ c ∧ c < 256) :
    Calls Tryd.prog 3 #[.int .i64 k, .slice A len cap] W fun e w' => e = .returned (.bool true) ∧ Below W.heap.size W w' := by
  have hd : decide ((400 : Int) < (len : Int)) = false := by simp; omega
  have hll := hr.1
  have haw := awake3_any W hM
  have HAW := Lib.hid haw; clear haw
  have HM := Lib.hid hM; clear hM
  have HR := Lib.hid hr; clear hr
  have HNIL := Lib.hid hnil; clear hnil
  have HBY := Lib.hid hby; clear hby
  have HLL := Lib.hid hll; clear hll
  go_enter Tryd.func3, Tryd.ntmps3
  go_wp2_with fail
  refine HAW.out.mono ?_; rintro e w1 ⟨rfl, hb1⟩
  -- a copy of what came in
  obtain ⟨v', w3, happ, hown3, hgrow3⟩ := app_run .u8 22 5 1 Tryd.underlying22 info_u8 (w1.alloc (.cells #[] 5)) w1.heap.size (.slice (some ⟨w1.heap.size, 0, none⟩) 0 0) 0 [] (World.ownsRow_made w1 #[] 0 (Nat.le_refl _) (Nat.zero_le _) rfl) A len cap l ((HR.out.below hb1 (Nat.le_refl _)).alloc _) HNIL.out (by omega) (by unfold maxLen; omega) (by simp)
  rw [Nat.zero_add, List.nil_append] at hown3
  have hb3 : Below w1.heap.size w1 w3 := ((Below.refl _ w1).alloc (Nat.le_refl _) _).grown hgrow3 (by simp) (by intro j hj; simp [Value.ownBlock] at hj; omega)
  have hb3' : Below W.heap.size W w3 := hb1.trans (Below.mono hb3 hb1.size)
  rw [← HLL.out] at hown3
  obtain ⟨A', c', rfl, hr3, _, hnil3, hcap3, hcm3⟩ := own_shape hown3
  rw [HLL.out] at happ hr3 hnil3 hcap3
  have htx := text_any k A' len c' l w3 (HM.out.below hb3' (Nat.le_refl _)) hr3 hnil3 HBY.out (by omega)
  have HAPP := Lib.hid happ; clear happ
  have HTX := Lib.hid htx; clear htx
  have HR3 := Lib.hid hr3; clear hr3
  clear hown3 hgrow3 hb3 hnil3 hcap3 hcm3
  go_wp2_with (at_builtin; refine wpList_append_run rfl _ _ 22 rfl rfl _ _ _ _ rfl rfl HAPP.out ?_)
  -- its text
  refine HTX.out.mono ?_; rintro e w4 ⟨out, rfl, ht, hb4⟩
  have hb4' := hb3'.trans (Below.mono hb4 hb3'.size)
  have hcv4 := strRow w4 A len cap l (HR.out.below hb4' (Nat.le_refl _))
  have hns : nums (strOfNums l) = l := nums_strOfNums l HBY.out
  have hrt := refText_any k (strOfNums l) w4 (by rw [strOfNums_size, HLL.out]; omega)
  rw [hns] at hrt
  have hout : out.length ≤ 1600 := by have := ht.size; rw [HLL.out] at this; omega
  have hR4 := HR3.out.below hb4 (Nat.le_refl _)
  obtain ⟨S, hS⟩ : ∃ S, S = strOfNums out := ⟨_, rfl⟩
  have hSn : nums S = out := by rw [hS]; exact nums_strOfNums out ht.byte
  have hSs : S.size = out.length := by rw [hS, strOfNums_size]
  rw [← hS]
  have HT := Lib.hid ht; clear ht
  have HRT := Lib.hid hrt; clear hrt
  have HS := Lib.hid hS; clear hS
  have HSN := Lib.hid hSn; clear hSn
  have HR4 := Lib.hid hR4; clear hR4
  have HSS := Lib.hid hSs; clear hSs
  clear hns hb4
  go_wp2_with fail
  refine HRT.out.mono ?_; rintro e w5 ⟨out2, rfl, ht2, hb5⟩
  have hb5' := hb4'.trans (Below.mono hb5 hb4'.size)
  have hoo : out2 = out := ht2.one HT.out
  subst hoo
  rw [← HS.out]
  -- the text as octets
  obtain ⟨A6, c6, w6, hbr, hr6, hc6, hcm6, hb6⟩ := bytes_some S w5 (by have := HSS.out; unfold maxLen; omega)
  have hb6' := hb5'.trans (Below.mono hb6 hb5'.size)
  rw [HSN.out] at hr6
  have hr7 := (HR4.out.below hb5 (Nat.le_refl _)).below hb6 (Nat.le_refl _)
  have htx6 := text_any 1 (some A6) S.size c6 out2 w6 (HM.out.below hb6' (Nat.le_refl _)) hr6 (fun h => by cases h) HT.out.byte (by have := HSS.out; omega)
  have HTX6 := Lib.hid htx6; clear htx6
  have HR7 := Lib.hid hr7; clear hr7
  clear hcv4 ht2 hb5
  go_wp2_with fail
  refine HTX6.out.mono ?_; rintro e w7 ⟨out3, rfl, ht3, hb7⟩
  have hb7' := hb6'.trans (Below.mono hb7 hb6'.size)
  have hoo : out3 = out2 := ht3.one HT.out.again
  subst hoo
  rw [← HS.out]
  have hcv1 := strRow w7 A' len c' l (HR7.out.below hb7 (Nat.le_refl _))
  have hcv2 := strRow w7 A len cap l (HR.out.below hb7' (Nat.le_refl _))
  clear ht3 hb7
  go_wp2_with fail
  go_ret
  exact ⟨rfl, hb7'⟩

theorem lawTexts (k : Int) (A : Option Addr) (len cap : Nat) (zs : List Int) (W : World) (hM : Marks W)
    (h : (A = none ∧ len = 0 ∧ cap = 0 ∧ zs = []) ∨
      ∃ x, A = some x ∧ len ≤ cap ∧ cap ≤ maxLen ∧ zs.length = cap ∧ (∀ i, i < zs.length → W.cell? (x.add i) = some (.int .u8 (zs.getD i 0))) ∧ ∀ n ∈ zs, (Lit.int .u8 n).wf = true) :
    Calls Tryd.prog 3 #[.int .i64 k, .slice A len cap] W fun e w' => e = .returned (.bool true) ∧ Below W.heap.size W w' := by
  obtain ⟨hr, hcap, hcm, hnil, hwf⟩ := rowI_of_row h
  rcases Nat.lt_or_ge 400 len with hl | hl
  · exact lawTexts_long k A len cap W hM hl (Nat.le_trans hcap hcm)
  · exact lawTexts_short k A len cap _ W hM hl hr hnil (fun c hc => byte_of_wf (hwf c hc))
end Go.Proofs.YtoojfjealncddaaDoor
