/- The document's pool: View, Bytes, Turn. -/
import Derived.Test.YtgjmgbpphfccaaaRFun
namespace Go.Proofs.Ytgjmgbpphfccaaa
open Go Go.RowKit
set_option linter.unusedVariables false

theorem strOfNums_size (l : List Int) : (strOfNums l).size = l.length := by
  show (strOfNums l).data.size = _
  rw [← Array.length_toList, strOfNums_data]
  simp
theorem strOfNums_cut (l : List Int) (a b : Nat) : (strOfNums l).extract a b = strOfNums ((l.drop a).take (b - a)) := by
  apply ByteArray.ext
  apply Array.toList_inj.1
  rw [ByteArray.data_extract, Array.toList_extract, strOfNums_data, strOfNums_data]
  show ((l.map _).drop a).take (b - a) = _
  rw [← List.map_drop, ← List.map_take]

section
variable {w : World} {B g size : Nat} {F : Nat → Prop} {HV BV LV : Value} {os : List (List Int)} {hs ln : List Nat}
theorem rview_yes (h : RefC w B F g HV BV LV size os hs ln) (i a b : Nat) (hn : hs.length ≤ 64) (hi : i < hs.length) (h0 : 0 < hs.getD i 0) (hab : a ≤ b) (hb : b ≤ (os.getD i []).length) (hl : (os.getD i []).length ≤ 100000) :
    Calls Try.prog 17 #[.pointer (some ⟨g, 0, none⟩), .int .i64 (i : Int), .int .i64 (a : Int), .int .i64 (b : Int)] w fun e w' => e = .returned (.tuple #[.string (strOfNums (((os.getD i []).drop a).take (b - a))), .int .i64 0]) ∧ w = w' := by
  have HH := Lib.hid (is_yes h i hn hi h0)
  obtain ⟨gh, ch, gt, ct, rfl, rfl, h1, h2, h3, h4, hH, hT, f1, f2, hFh, hFt⟩ := h.rows (by omega)
  have c1 := h.c1
  have k4 := hT i hi
  have hsz := strOfNums_size (os.getD i [])
  have hcut := strOfNums_cut (os.getD i []) a b
  obtain ⟨S0, hS0⟩ : ∃ S0, S0 = strOfNums (os.getD i []) := ⟨_, rfl⟩
  obtain ⟨S1, hS1⟩ : ∃ S1, S1 = strOfNums (((os.getD i []).drop a).take (b - a)) := ⟨_, rfl⟩
  rw [← hS0] at k4 hsz hcut
  rw [← hS1] at hcut ⊢
  have hbs : b ≤ S0.size := by omega
  have hss : S0.size ≤ 100000 := by omega
  have d1 : decide ((a : Int) < 0) = false := by simp
  have d2 : decide ((b : Int) < (a : Int)) = false := by simp; omega
  have d3 : decide ((S0.size : Int) < (b : Int)) = false := by simp; omega
  have hrun : ∀ w : World, (Instr.slice 9 (.string S0) (some (.int .i64 (a : Int))) (some (.int .i64 (b : Int))) none).run Try.prog w = .ok (.string S1) w := by
    intro w
    have hr := run_slice_string (P := Try.prog) w 9 S0 .i64 .i64 (a : Int) (b : Int) Try.underlying9 (by omega) (by omega) (by omega)
    rw [Int.toNat_natCast, Int.toNat_natCast, hcut] at hr
    exact hr
  clear h hH hT f1 f2 hsz hS0 hS1 hFh hFt hcut
  go_enter Try.func17, Try.ntmps17
  go_wp2_with fail
  refine HH.out.mono ?_; rintro e w' ⟨rfl, rfl⟩
  go_wp2_with fail
  go_ret2
  exact ⟨rfl, rfl⟩
set_option maxHeartbeats 1000000 in
theorem rview_no (h : RefC w B F g HV BV LV size os hs ln) (i a b : Int) (hn : 0 < hs.length ∧ hs.length ≤ 64) (hno : ¬ viewOk os hs i a b) (hl : ∀ o ∈ os, o.length ≤ 100000) :
    Calls Try.prog 17 #[.pointer (some ⟨g, 0, none⟩), .int .i64 i, .int .i64 a, .int .i64 b] w fun e w' => e = .returned (.tuple #[.string ⟨#[]⟩, .int .i64 2]) ∧ w = w' := by
  have hh := is_any h i hn
  by_cases h0 : heldL hs i = 0
  · rw [h0, show decide (0 < 0) = false by decide] at hh
    have HH := Lib.hid hh
    clear h h0 hno hh hn
    go_enter Try.func17, Try.ntmps17
    go_wp2_with fail
    refine HH.out.mono ?_; rintro e w' ⟨rfl, rfl⟩
    go_wp2_with fail
    go_ret2
    exact ⟨rfl, rfl⟩
  · obtain ⟨k, rfl, hk, hx⟩ := heldL_pos (show 0 < heldL hs i by omega)
    rw [show decide (0 < heldL hs (k : Int)) = true by simp; omega] at hh
    have HH := Lib.hid hh
    obtain ⟨gh, ch, gt, ct, rfl, rfl, h1, h2, h3, h4, hH, hT, f1, f2, hFh, hFt⟩ := h.rows hn.1
    have c1 := h.c1
    have k4 := hT k hk
    have hsz := strOfNums_size (os.getD k [])
    have hlk : (os.getD k []).length ≤ 100000 := by
      have h5 : k < os.length := by have := h.lo; omega
      simp only [List.getD, List.getElem?_eq_getElem h5, Option.getD_some]
      exact hl _ (List.getElem_mem h5)
    have hno' : a < 0 ∨ b < a ∨ ((os.getD k []).length : Int) < b := by
      unfold viewOk at hno
      simp only [Int.toNat_natCast] at hno
      by_cases q1 : a < 0
      · exact .inl q1
      · by_cases q2 : b < a
        · exact .inr (.inl q2)
        · refine .inr (.inr ?_)
          rcases Int.lt_or_le ((os.getD k []).length : Int) b with q3 | q3
          · exact q3
          · exact absurd ⟨by omega, by omega, by omega, q3⟩ hno
    obtain ⟨S0, hS0⟩ : ∃ S0, S0 = strOfNums (os.getD k []) := ⟨_, rfl⟩
    rw [← hS0] at k4 hsz
    have hss : S0.size ≤ 100000 := by omega
    have hno2 : a < 0 ∨ b < a ∨ ((S0.size : Nat) : Int) < b := by omega
    clear h hH hT f1 f2 hS0 hFh hFt hx hno hno' hsz hl hlk h0 hn hh
    by_cases q1 : a < 0
    · have d1 : decide (a < 0) = true := by simpa using q1
      go_enter Try.func17, Try.ntmps17
      go_wp2_with fail
      refine HH.out.mono ?_; rintro e w' ⟨rfl, rfl⟩
      go_wp2_with fail
      go_ret2
      exact ⟨rfl, rfl⟩
    · have d1 : decide (a < 0) = false := by simpa using q1
      by_cases q2 : b < a
      · have d2 : decide (b < a) = true := by simpa using q2
        go_enter Try.func17, Try.ntmps17
        go_wp2_with fail
        refine HH.out.mono ?_; rintro e w' ⟨rfl, rfl⟩
        go_wp2_with fail
        go_ret2
        exact ⟨rfl, rfl⟩
      · have d2 : decide (b < a) = false := by simpa using q2
        have d3 : decide ((S0.size : Int) < b) = true := by simp; omega
        go_enter Try.func17, Try.ntmps17
        go_wp2_with fail
        refine HH.out.mono ?_; rintro e w' ⟨rfl, rfl⟩
        go_wp2_with fail
        go_ret2
        exact ⟨rfl, rfl⟩

set_option maxHeartbeats 1000000 in
theorem rbytes_any (h : RefC w B F g HV BV LV size os hs ln) (hn : 0 < hs.length ∧ hs.length ≤ 64) (hM : ∀ o ∈ os, o.length ≤ 10000) :
    Calls Try.prog 24 #[.pointer (some ⟨g, 0, none⟩)] w fun e w' => e = .returned (.int .i64 (allL os : Nat)) ∧ w = w' := by
  obtain ⟨gh, ch, gt, ct, rfl, rfl, h1, h2, h3, h4, hH, hT, f1, f2, hFh, hFt⟩ := h.rows hn.1
  have c1 := h.c1
  have hlo := h.lo
  obtain ⟨hn0, hn1⟩ := hn
  have HM := Lib.hid (sumL_le os 10000 hM)
  have HT := Lib.hid hT
  have HLO := Lib.hid hlo
  clear h hM hH hT f1 f2 hFh hFt hlo
  go_enter Try.func24, Try.ntmps24
  go_wp2_with fail
  go_loop [3, 4] (fun v3 v4 => ∃ i : Nat, i ≤ hs.length ∧ v4 = .int .i64 (i : Int) ∧ v3 = .int .i64 (sumL os i : Int)) (fun _ v4 => hs.length - (intOf v4).toNat)
  case atStart => exact ⟨0, by omega, rfl, rfl⟩
  case round =>
    obtain ⟨i, hi, rfl, rfl⟩ := hrel
    by_cases hlt : i < hs.length
    · have k4 := HT.out i hlt
      have hsz := strOfNums_size (os.getD i [])
      have hsum := HM.out i (by have := HLO.out; omega)
      have hsum1 := HM.out (i + 1) (by have := HLO.out; omega)
      have HS := Lib.hid (sumL_succ os i (by have := HLO.out; omega))
      have hpos := Int.natCast_nonneg (sumL os i)
      rw [HS.out, ← hsz] at hsum1
      obtain ⟨S0, hS0⟩ : ∃ S0, S0 = strOfNums (os.getD i []) := ⟨_, rfl⟩
      obtain ⟨m, hm⟩ : ∃ m, m = sumL os i := ⟨_, rfl⟩
      rw [← hS0] at k4 hsum1 hsz
      rw [← hm] at hsum1 hsum hpos HS ⊢
      rw [← hsz] at HS
      have hss : 0 ≤ (S0.size : Int) := Int.natCast_nonneg _
      have HMM := Lib.hid hm
      clear hS0 hm hsz
      go_wp2_with fail
      refine ⟨⟨i + 1, by omega, by go_num, ?_⟩, by simp [intOf]; omega⟩
      rw [HS.out]
      go_num
    · have hie : i = hs.length := by omega
      have HIE := Lib.hid hie; clear hie
      have HALL := Lib.hid (sumL_all os)
      go_wp2_with fail
      go_ret
      refine ⟨?_, rfl⟩
      have h1 := HIE.out
      rw [← HLO.out] at h1
      show Ending.returned (.int .i64 (sumL os i : Int)) = _
      rw [h1, HALL.out]
end
end Go.Proofs.Ytgjmgbpphfccaaa
