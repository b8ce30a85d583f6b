/- DecodeBack: code points that were encoded are decoded as they were: the walk. -/
import Derived.Test.YtoojfjealncddaaDoorText
import Derived.Test.YtoojfjealncddaaDoorRefText
import Derived.Test.YtoojfjealncddaaDoorBytes
namespace Go.Proofs.YtoojfjealncddaaDoor
open Go Go.RowKit
set_option linter.unusedVariables false

theorem nums_append (a b : ByteArray) : nums (a ++ b) = nums a ++ nums b := by simp [nums]
theorem mark_ahead {k : Int} {mk : List Int} (X : List Int) (h : (k = 1 ∧ mk = [239, 187, 191]) ∨ (k = 2 ∧ mk = [255, 254]) ∨ (k = 3 ∧ mk = [254, 255])) : markI (mk ++ X) = (k, (mk.length : Int)) := by
  rcases h with ⟨rfl, rfl⟩ | ⟨rfl, rfl⟩ | ⟨rfl, rfl⟩ <;> simp [markI]
/-- With its mark ahead, told as Auto. -/
theorem text_marked {k : Int} {mk rs o : List Int} (h : (k = 1 ∧ mk = [239, 187, 191]) ∨ (k = 2 ∧ mk = [255, 254]) ∨ (k = 3 ∧ mk = [254, 255])) (ht : TextR 0 (mk ++ encL k rs) o) : o = putAll (rs.map sndI) := by
  have hm := mark_ahead (encL k rs) h
  have hk : k = 1 ∨ k = 2 ∨ k = 3 := by omega
  have hki : kindI (mk ++ encL k rs) = k := by unfold kindI; rw [hm]; simp only; rw [if_neg (by omega)]
  rcases ht with ⟨_, ht⟩ | ⟨h1, _⟩ | ⟨h1, _⟩
  · rw [hki, hm] at ht
    simp only [Int.toNat_natCast] at ht
    rw [List.drop_left] at ht
    exact (ht.one (pour_back hk rs)).1
  · omega
  · omega
/-- .. or told. -/
theorem text_told {k : Int} {rs o : List Int} (hk : k = 1 ∨ k = 2 ∨ k = 3) (ht : TextR k (encL k rs) o) : o = putAll (rs.map sndI) := by
  rcases ht with ⟨h1, _⟩ | ⟨_, ht⟩ | ⟨h1, _⟩
  · omega
  · exact (ht.one (pour_back hk rs)).1
  · omega

theorem lawBack_long (k : Int) (A : Option Addr) (len cap : Nat) (mark : Bool) (w : World) (hM : Marks w) (hl : 60 < len) (hm : len ≤ maxLen) :
    Calls Tryd.prog 4 #[.int .i64 k, .slice A len cap, .bool mark] w fun e w' => e = .returned (.bool true) ∧ Below w.heap.size w w' := by
  unfold maxLen at hm
  have hd : decide ((60 : Int) < (len : Int)) = true := by simp; omega
  go_enter Tryd.func4, Tryd.ntmps4
  go_wp2_with fail
  refine (awake3_any _ hM).mono ?_; rintro e w1 ⟨rfl, hbel⟩
  have hM1 := hM.below hbel (Nat.le_refl _)
  go_wp2_with fail
  refine (awake3_any _ hM1).mono ?_; rintro e w2 ⟨rfl, hbel2⟩
  go_wp2_with fail
  go_ret
  exact ⟨rfl, hbel.trans (Below.mono hbel2 hbel.size)⟩

set_option maxHeartbeats 4000000 in
theorem lawBack_in (kind r j : Int) (A : Option Addr) (len cap : Nat) (rs : List Int) (mark : Bool) (W : World) (hM : Marks W) (hl : len ≤ 60) (hr : RowI .i64 W A len rs)
    (ht1 : Int.tmod kind 3 = r) (hr0 : -2 ≤ r) (hr1 : r ≤ 2) (ht2 : Int.tmod (r + 3) 3 = j) (hj0 : 0 ≤ j) (hj1 : j ≤ 2) :
    Calls Tryd.prog 4 #[.int .i64 kind, .slice A len cap, .bool mark] W fun e w' => e = .returned (.bool true) ∧ Below W.heap.size W w' := by
  have hd : decide ((60 : Int) < (len : Int)) = false := by simp; omega
  have hll := hr.1
  have haw := awake3_any W hM
  have HAW := Lib.hid haw; clear haw
  have HM := Lib.hid hM; clear hM
  have HR := Lib.hid hr; clear hr
  have HLL := Lib.hid hll; clear hll
  go_enter Tryd.func4, Tryd.ntmps4
  go_wp2_with fail
  refine HAW.out.mono ?_; rintro e w1 ⟨rfl, hb1⟩
  go_wp2_with fail
  go_loopw [8, 9] (fun vs vi wr => ∃ (q : Nat) (es : List Int), q ≤ len ∧ vi = .int .i64 (q : Int) ∧ vs = .string (strOfNums es) ∧ Hid (es = putAll ((rs.take q).map sndI)) ∧ es.length ≤ 4 * q ∧ Below W.heap.size W wr) (fun _ vi _ => len - (intOf vi).toNat)
  case atStart => exact ⟨0, [], by omega, rfl, rfl, Lib.hid rfl, by simp, hb1⟩
  case round =>
    obtain ⟨q, es, hq, rfl, rfl, HES, hel, hb⟩ := hrel
    by_cases hlt : q < len
    · have hrM := HR.out.below hb (Nat.le_refl _)
      obtain ⟨b, o, rfl, hbl, hc⟩ := hrM.2 (by omega)
      obtain ⟨u, hu⟩ : ∃ u, u = rs.getD q 0 := ⟨_, rfl⟩
      have cu := hc q hlt
      rw [← hu] at cu
      clear hrM hc
      have HU := Lib.hid hu; clear hu
      have hp := fun w => refPut_any u w
      obtain ⟨p, hpe⟩ : ∃ p, p = putI (sndI u) := ⟨_, rfl⟩
      have hp4 := (putI_len4 (sndI u)).2
      rw [← hpe] at hp hp4
      have HPE := Lib.hid hpe; clear hpe
      have HP := Lib.hid hp; clear hp
      have hcat : ¬ 9223372036854775807 < (strOfNums es).size + (strOfNums p).size := by rw [strOfNums_size, strOfNums_size]; omega
      go_wp2_with fail
      refine (HP.out _).mono ?_; rintro e w' ⟨rfl, hb2⟩
      have hb3 := hb.trans (Below.mono hb2 hb.size)
      clear hb2
      go_wp2_with fail
      refine ⟨⟨q + 1, es ++ p, by omega, by go_num, by rw [str_append], Lib.hid ?_, by simp; omega, hb3⟩, by simp [intOf]; omega⟩
      rw [show rs.take (q + 1) = rs.take q ++ [u] by rw [List.take_succ_eq_append_getElem (by have := HLL.out; omega), HU.out]; simp [List.getD, show q < rs.length by have := HLL.out; omega], List.map_append, putAll_append, HES.out, HPE.out]
      simp [putAll]
    · obtain rfl : q = len := by omega
      have et : rs.take q = rs := List.take_of_length_le (by rw [HLL.out]; exact Nat.le_refl _)
      have hes := HES.out
      rw [et] at hes
      have hen := rencode_any (1 + j) A q cap rs wr (HR.out.below hb (Nat.le_refl _)) (by omega)
      have hxl : (encL (1 + j) rs).length ≤ 240 := by have := encL_len (1 + j) rs; have := HLL.out; omega
      obtain ⟨S, hS⟩ : ∃ S, S = strOfNums (encL (1 + j) rs) := ⟨_, rfl⟩
      have hxb : ∀ c ∈ encL (1 + j) rs, 0 ≤ c ∧ c < 256 := by
        intro c hc
        obtain ⟨u, _, hu⟩ := List.mem_flatMap.1 hc
        unfold enc1 at hu
        split at hu
        · exact putI_byte _ (sndI_is _) c hu
        · exact octL_byte _ _ c hu
      have hSn : nums S = encL (1 + j) rs := by rw [hS]; exact nums_strOfNums _ hxb
      have hSs : S.size ≤ 240 := by rw [hS, strOfNums_size]; exact hxl
      rw [← hS] at hen
      obtain ⟨P, hP⟩ : ∃ P, P = strOfNums es := ⟨_, rfl⟩
      have hfin : ∀ o, o = putAll (rs.map sndI) → strOfNums o = P := fun o ho => by rw [ho, hP, hes]
      have HFIN := Lib.hid hfin; clear hfin
      have HEN := Lib.hid hen; clear hen
      have HSN := Lib.hid hSn; clear hSn
      have HXB := Lib.hid hxb; clear hxb
      rw [← hP]
      clear hes et hS hxl hel hP HES
      cases mark
      · go_wp2_with fail
        refine HEN.out.mono ?_; rintro e w2 ⟨rfl, hb2⟩
        have hb2' := hb.trans (Below.mono hb2 hb.size)
        obtain ⟨A3, c3, w3, hbr, hr3, hc3, hcm3, hb3⟩ := bytes_some S w2 (by unfold maxLen; omega)
        have hb3' := hb2'.trans (Below.mono hb3 hb2'.size)
        have htx := text_any (1 + j) (some A3) S.size c3 (nums S) w3 (HM.out.below hb3' (Nat.le_refl _)) hr3 (fun h => by cases h) (nums_byte S) (by omega)
        rw [HSN.out] at htx
        have HTX := Lib.hid htx; clear htx
        clear hb2 hr3 hc3 hcm3 hb3
        go_wp2_with fail
        refine HTX.out.mono ?_; rintro e w4 ⟨o, rfl, ht, hb4⟩
        have hb4' := hb3'.trans (Below.mono hb4 hb3'.size)
        rw [HFIN.out o (text_told (by omega) ht)]
        clear ht hb4
        go_wp2_with fail
        go_ret
        exact ⟨by simp, hb4'⟩
      · have hj : j = 0 ∨ j = 1 ∨ j = 2 := by omega
        rcases hj with rfl | rfl | rfl
        · obtain ⟨T, hT⟩ : ∃ T, (⟨#[239, 187, 191]⟩ : ByteArray) ++ S = T := ⟨_, rfl⟩
          have hTn : nums T = [239, 187, 191] ++ encL 1 rs := by rw [← hT, nums_append, HSN.out]; rfl
          have hTs : T.size ≤ 243 := by rw [← hT, ByteArray.size_append]; show 3 + S.size ≤ 243; omega
          have HTN := Lib.hid hTn; clear hTn
          have hcat : ¬ 9223372036854775807 < 3 + S.size := by omega
          go_wp2_with fail
          refine HEN.out.mono ?_; rintro e w2 ⟨rfl, hb2⟩
          have hb2' := hb.trans (Below.mono hb2 hb.size)
          have hb2a : Below W.heap.size W (w2.alloc (.cells #[.string ⟨#[]⟩, .string ⟨#[239, 187, 191]⟩, .string ⟨#[255, 254]⟩, .string ⟨#[254, 255]⟩] 9)) := hb2'.alloc hb2'.size _
          obtain ⟨A3, c3, w3, hbr, hr3, hc3, hcm3, hb3⟩ := bytes_some T (w2.alloc (.cells #[.string ⟨#[]⟩, .string ⟨#[239, 187, 191]⟩, .string ⟨#[255, 254]⟩, .string ⟨#[254, 255]⟩] 9)) (by unfold maxLen; omega)
          have hb3' := hb2a.trans (Below.mono hb3 hb2a.size)
          have htx := text_any 0 (some A3) T.size c3 (nums T) w3 (HM.out.below hb3' (Nat.le_refl _)) hr3 (fun h => by cases h) (nums_byte T) (by omega)
          rw [HTN.out] at htx
          have HTX := Lib.hid htx; clear htx
          clear hb2 hr3 hc3 hcm3 hb3
          go_wp2_with fail
          refine HTX.out.mono ?_; rintro e w4 ⟨o, rfl, ht, hb4⟩
          have hb4' := hb3'.trans (Below.mono hb4 hb3'.size)
          rw [HFIN.out o (text_marked (k := 1) (.inl ⟨rfl, rfl⟩) ht)]
          clear ht hb4
          go_wp2_with fail
          go_ret
          exact ⟨by simp, hb4'⟩
        · obtain ⟨T, hT⟩ : ∃ T, (⟨#[255, 254]⟩ : ByteArray) ++ S = T := ⟨_, rfl⟩
          have hTn : nums T = [255, 254] ++ encL 2 rs := by rw [← hT, nums_append, HSN.out]; rfl
          have hTs : T.size ≤ 242 := by rw [← hT, ByteArray.size_append]; show 2 + S.size ≤ 242; omega
          have HTN := Lib.hid hTn; clear hTn
          have hcat : ¬ 9223372036854775807 < 2 + S.size := by omega
          go_wp2_with fail
          refine HEN.out.mono ?_; rintro e w2 ⟨rfl, hb2⟩
          have hb2' := hb.trans (Below.mono hb2 hb.size)
          have hb2a : Below W.heap.size W (w2.alloc (.cells #[.string ⟨#[]⟩, .string ⟨#[239, 187, 191]⟩, .string ⟨#[255, 254]⟩, .string ⟨#[254, 255]⟩] 9)) := hb2'.alloc hb2'.size _
          obtain ⟨A3, c3, w3, hbr, hr3, hc3, hcm3, hb3⟩ := bytes_some T (w2.alloc (.cells #[.string ⟨#[]⟩, .string ⟨#[239, 187, 191]⟩, .string ⟨#[255, 254]⟩, .string ⟨#[254, 255]⟩] 9)) (by unfold maxLen; omega)
          have hb3' := hb2a.trans (Below.mono hb3 hb2a.size)
          have htx := text_any 0 (some A3) T.size c3 (nums T) w3 (HM.out.below hb3' (Nat.le_refl _)) hr3 (fun h => by cases h) (nums_byte T) (by omega)
          rw [HTN.out] at htx
          have HTX := Lib.hid htx; clear htx
          clear hb2 hr3 hc3 hcm3 hb3
          go_wp2_with fail
          refine HTX.out.mono ?_; rintro e w4 ⟨o, rfl, ht, hb4⟩
          have hb4' := hb3'.trans (Below.mono hb4 hb3'.size)
          rw [HFIN.out o (text_marked (k := 2) (.inr (.inl ⟨rfl, rfl⟩)) ht)]
          clear ht hb4
          go_wp2_with fail
          go_ret
          exact ⟨by simp, hb4'⟩
        · obtain ⟨T, hT⟩ : ∃ T, (⟨#[254, 255]⟩ : ByteArray) ++ S = T := ⟨_, rfl⟩
          have hTn : nums T = [254, 255] ++ encL 3 rs := by rw [← hT, nums_append, HSN.out]; rfl
          have hTs : T.size ≤ 242 := by rw [← hT, ByteArray.size_append]; show 2 + S.size ≤ 242; omega
          have HTN := Lib.hid hTn; clear hTn
          have hcat : ¬ 9223372036854775807 < 2 + S.size := by omega
          go_wp2_with fail
          refine HEN.out.mono ?_; rintro e w2 ⟨rfl, hb2⟩
          have hb2' := hb.trans (Below.mono hb2 hb.size)
          have hb2a : Below W.heap.size W (w2.alloc (.cells #[.string ⟨#[]⟩, .string ⟨#[239, 187, 191]⟩, .string ⟨#[255, 254]⟩, .string ⟨#[254, 255]⟩] 9)) := hb2'.alloc hb2'.size _
          obtain ⟨A3, c3, w3, hbr, hr3, hc3, hcm3, hb3⟩ := bytes_some T (w2.alloc (.cells #[.string ⟨#[]⟩, .string ⟨#[239, 187, 191]⟩, .string ⟨#[255, 254]⟩, .string ⟨#[254, 255]⟩] 9)) (by unfold maxLen; omega)
          have hb3' := hb2a.trans (Below.mono hb3 hb2a.size)
          have htx := text_any 0 (some A3) T.size c3 (nums T) w3 (HM.out.below hb3' (Nat.le_refl _)) hr3 (fun h => by cases h) (nums_byte T) (by omega)
          rw [HTN.out] at htx
          have HTX := Lib.hid htx; clear htx
          clear hb2 hr3 hc3 hcm3 hb3
          go_wp2_with fail
          refine HTX.out.mono ?_; rintro e w4 ⟨o, rfl, ht, hb4⟩
          have hb4' := hb3'.trans (Below.mono hb4 hb3'.size)
          rw [HFIN.out o (text_marked (k := 3) (.inr (.inr ⟨rfl, rfl⟩)) ht)]
          clear ht hb4
          go_wp2_with fail
          go_ret
          exact ⟨by simp, hb4'⟩

theorem tmod3 (x : Int) : -2 ≤ Int.tmod x 3 ∧ Int.tmod x 3 ≤ 2 := by
  rcases Int.lt_or_le x 0 with h | h
  · have := Int.tmod_eq_emod_of_nonneg (a := -x) (b := 3) (by omega)
    rw [Int.neg_tmod] at this
    omega
  · have := Int.tmod_eq_emod_of_nonneg (b := 3) h
    omega

theorem lawBack (kind : Int) (A : Option Addr) (len cap : Nat) (zs : List Int) (mark : Bool) (W : World) (hM : Marks W)
    (h : (A = none ∧ len = 0 ∧ cap = 0 ∧ zs = []) ∨
      ∃ x, A = some x ∧ len ≤ cap ∧ cap ≤ maxLen ∧ zs.length = cap ∧ (∀ i, i < zs.length → W.cell? (x.add i) = some (.int .i64 (zs.getD i 0))) ∧ ∀ n ∈ zs, (Lit.int .i64 n).wf = true) :
    Calls Tryd.prog 4 #[.int .i64 kind, .slice A len cap, .bool mark] W fun e w' => e = .returned (.bool true) ∧ Below W.heap.size W w' := by
  obtain ⟨hr, hcap, hcm, hnil, hwf⟩ := rowI_of_row h
  rcases Nat.lt_or_ge 60 len with hl | hl
  · exact lawBack_long kind A len cap mark W hM hl (Nat.le_trans hcap hcm)
  · have h3 := tmod3 kind
    have h4 : 0 ≤ Int.tmod (Int.tmod kind 3 + 3) 3 ∧ Int.tmod (Int.tmod kind 3 + 3) 3 ≤ 2 := by
      have := Int.tmod_eq_emod_of_nonneg (a := Int.tmod kind 3 + 3) (b := 3) (by omega)
      omega
    exact lawBack_in kind _ _ A len cap _ mark W hM hl hr rfl h3.1 h3.2 rfl h4.1 h4.2
end Go.Proofs.YtoojfjealncddaaDoor
