/- The document's own Encode. -/
import Derived.Test.YtoojfjealncddaaDoorROctets
import Derived.Test.YtoojfjealncddaaDoorRefA
import Derived.Test.YtoojfjealncddaaDoorUnits
namespace Go.Proofs.YtoojfjealncddaaDoor
open Go Go.RowKit
set_option linter.unusedVariables false

/-- The octets of one number, in an encoding. -/
def enc1 (k r : Int) : List Int := if k = 0 ∨ k = 1 then putI (sndI r) else octL k (unitsI (sndI r))
/-- .. of many. -/
def encL (k : Int) (rs : List Int) : List Int := rs.flatMap (enc1 k)
theorem encL_append (k : Int) (us vs : List Int) : encL k (us ++ vs) = encL k us ++ encL k vs := by simp [encL]
theorem encL_one (k u : Int) : encL k [u] = enc1 k u := by simp [encL]
theorem putI_len4 (r : Int) : 1 ≤ (putI r).length ∧ (putI r).length ≤ 4 := by unfold putI; (repeat' split) <;> simp
theorem unitsI_len (r : Int) : 1 ≤ (unitsI r).length ∧ (unitsI r).length ≤ 2 := by unfold unitsI; split <;> simp
theorem unitsI_room {r : Int} (h : isI r = true) : ∀ u ∈ unitsI r, 0 ≤ u ∧ u < 65536 := by
  have h0 := isI_cases h
  intro u hu
  unfold unitsI at hu
  split at hu
  · simp at hu; omega
  · simp at hu; omega
theorem enc1_len (k r : Int) : (enc1 k r).length ≤ 4 := by
  unfold enc1
  split
  · exact (putI_len4 _).2
  · have := octL_le k (unitsI (sndI r)); have := unitsI_len (sndI r); omega
theorem encL_len (k : Int) : ∀ rs : List Int, (encL k rs).length ≤ 4 * rs.length
  | [] => by simp [encL]
  | r :: rs => by
    have := encL_len k rs
    have := enc1_len k r
    rw [show r :: rs = [r] ++ rs from rfl, encL_append, encL_one]
    simp; omega

set_option maxHeartbeats 1000000 in
theorem rencodeA (k : Int) (hk : k = 0 ∨ k = 1) (A : Option Addr) (n c : Nat) (rs : List Int) (W : World) (hr : RowI .i64 W A n rs) (hn : n ≤ 400) :
    Calls Tryd.prog 11 #[.int .i64 k, .slice A n c] W fun e w' => e = .returned (.string (strOfNums (encL k rs))) ∧ Below W.heap.size W w' := by
  have hll := hr.1
  have HR := Lib.hid hr; clear hr
  have HLL := Lib.hid hll; clear hll
  have hen : ∀ r, enc1 k r = putI (sndI r) := fun r => by rw [enc1, if_pos hk]
  have HEN := Lib.hid hen; clear hen
  rcases hk with rfl | rfl
  all_goals
    go_enter Tryd.func11, Tryd.ntmps11
    go_wp2_with fail
    go_loopw [5, 6] (fun vs vi wr => ∃ (q : Nat) (es : List Int), q ≤ n ∧ vi = .int .i64 (q : Int) ∧ Hid (es = encL _ (rs.take q)) ∧ vs = .string (strOfNums es) ∧ es.length ≤ 4 * q ∧ Below W.heap.size W wr) (fun _ vi _ => n - (intOf vi).toNat)
    case atStart => exact ⟨0, [], by omega, rfl, Lib.hid rfl, rfl, by simp, Below.refl _ _⟩
    case round =>
      obtain ⟨q, es, hq, rfl, HES, rfl, hel, hb⟩ := hrel
      by_cases hlt : q < n
      · have hrM := HR.out.below hb (Nat.le_refl _)
        obtain ⟨b, o, rfl, hbl, hc⟩ := hrM.2 (by omega)
        obtain ⟨u, hu⟩ : ∃ u, u = rs.getD q 0 := ⟨_, rfl⟩
        have cu := hc q hlt
        rw [← hu] at cu
        clear hrM hc
        have HU := Lib.hid hu; clear hu
        have hp := fun w => refPut_any u w
        obtain ⟨p, hpe⟩ : ∃ p, p = putI (sndI u) := ⟨_, rfl⟩
        have hp4 := (putI_len4 (sndI u)).2
        rw [← hpe] at hp hp4
        have HPE := Lib.hid hpe; clear hpe
        have HP := Lib.hid hp; clear hp
        have hcat : ¬ 9223372036854775807 < (strOfNums es).size + (strOfNums p).size := by rw [strOfNums_size, strOfNums_size]; omega
        go_wp2_with fail
        refine (HP.out _).mono ?_; rintro e w' ⟨rfl, hb2⟩
        have hb3 := hb.trans (Below.mono hb2 hb.size)
        clear hb2
        go_wp2_with fail
        refine ⟨⟨q + 1, es ++ p, by omega, by go_num, Lib.hid ?_, by rw [str_append], by simp; omega, hb3⟩, by simp [intOf]; omega⟩
        rw [show rs.take (q + 1) = rs.take q ++ [u] by rw [List.take_succ_eq_append_getElem (by have := HLL.out; omega), HU.out]; simp [List.getD, show q < rs.length by have := HLL.out; omega], encL_append, encL_one, HEN.out, HES.out, HPE.out]
      · obtain rfl : q = n := by omega
        have et : rs.take q = rs := List.take_of_length_le (by rw [HLL.out]; exact Nat.le_refl _)
        go_wp2
        go_ret
        refine ⟨?_, hb⟩
        rw [HES.out, et]
        rfl

set_option maxHeartbeats 1000000 in
theorem rencodeB (k : Int) (h0 : k ≠ 0) (h1 : k ≠ 1) (A : Option Addr) (n c : Nat) (rs : List Int) (W : World) (hr : RowI .i64 W A n rs) (hn : n ≤ 400) :
    Calls Tryd.prog 11 #[.int .i64 k, .slice A n c] W fun e w' => e = .returned (.string (strOfNums (encL k rs))) ∧ Below W.heap.size W w' := by
  have hll := hr.1
  have HR := Lib.hid hr; clear hr
  have HLL := Lib.hid hll; clear hll
  have hen : ∀ r, enc1 k r = octL k (unitsI (sndI r)) := fun r => by rw [enc1, if_neg (fun h => h.elim h0 h1)]
  have HEN := Lib.hid hen; clear hen
  have e0 : (k == 0) = false := by simpa using h0
  have e1 : (k == 1) = false := by simpa using h1
  clear h0 h1
  go_enter Tryd.func11, Tryd.ntmps11
  go_wp2_with fail
  go_loopw [5, 6] (fun vs vi wr => ∃ (q : Nat) (es : List Int), q ≤ n ∧ vi = .int .i64 (q : Int) ∧ Hid (es = encL k (rs.take q)) ∧ vs = .string (strOfNums es) ∧ es.length ≤ 4 * q ∧ Below W.heap.size W wr) (fun _ vi _ => n - (intOf vi).toNat)
  case atStart => exact ⟨0, [], by omega, rfl, Lib.hid rfl, rfl, by simp, Below.refl _ _⟩
  case round =>
    obtain ⟨q, es, hq, rfl, HES, rfl, hel, hb⟩ := hrel
    by_cases hlt : q < n
    · have hrM := HR.out.below hb (Nat.le_refl _)
      obtain ⟨b, o, rfl, hbl, hc⟩ := hrM.2 (by omega)
      obtain ⟨u, hu⟩ : ∃ u, u = rs.getD q 0 := ⟨_, rfl⟩
      have cu := hc q hlt
      rw [← hu] at cu
      clear hrM hc
      have HU := Lib.hid hu; clear hu
      have hp := refUnits_any u wr
      have hul := unitsI_len (sndI u)
      have hur := unitsI_room (sndI_is u)
      have hnew := RowI.new .i64 wr (unitsI (sndI u)) 3
      have hoc := roctets_any k (some ⟨wr.heap.size, 0, none⟩) (unitsI (sndI u)).length (unitsI (sndI u)).length (unitsI (sndI u)) _ hnew (fun v hv => by have := hur v hv; omega) (by omega)
      obtain ⟨p, hpe⟩ : ∃ p, p = octL k (unitsI (sndI u)) := ⟨_, rfl⟩
      have hp4 : p.length ≤ 4 := by rw [hpe]; have := octL_le k (unitsI (sndI u)); omega
      rw [← hpe] at hoc
      have HPE := Lib.hid hpe; clear hpe
      obtain ⟨m, hm⟩ : ∃ m, m = (unitsI (sndI u)).length := ⟨_, rfl⟩
      rw [← hm] at hp hoc
      obtain ⟨w1, hw1⟩ : ∃ w1, w1 = wr.alloc (.cells ((unitsI (sndI u)).map (Value.int .i64)).toArray 3) := ⟨_, rfl⟩
      have hb1 : Below W.heap.size W w1 := by rw [hw1]; exact hb.alloc hb.size _
      rw [← hw1] at hp hoc
      clear hw1 hm hul hur hnew
      have HP := Lib.hid hp; clear hp
      have HOC := Lib.hid hoc; clear hoc
      have hcat : ¬ 9223372036854775807 < (strOfNums es).size + (strOfNums p).size := by rw [strOfNums_size, strOfNums_size]; omega
      go_wp2_with fail
      refine HP.out.mono ?_; rintro e w' ⟨rfl, rfl⟩
      go_wp2_with fail
      refine HOC.out.mono ?_; rintro e w' ⟨rfl, hb2⟩
      have hb3 := hb1.trans (Below.mono hb2 hb1.size)
      clear hb2
      go_wp2_with fail
      refine ⟨⟨q + 1, es ++ p, by omega, by go_num, Lib.hid ?_, by rw [str_append], by simp; omega, hb3⟩, by simp [intOf]; omega⟩
      rw [show rs.take (q + 1) = rs.take q ++ [u] by rw [List.take_succ_eq_append_getElem (by have := HLL.out; omega), HU.out]; simp [List.getD, show q < rs.length by have := HLL.out; omega], encL_append, encL_one, HEN.out, HES.out, HPE.out]
    · obtain rfl : q = n := by omega
      have et : rs.take q = rs := List.take_of_length_le (by rw [HLL.out]; exact Nat.le_refl _)
      go_wp2
      go_ret
      refine ⟨?_, hb⟩
      rw [HES.out, et]
      rfl

theorem rencode_any (k : Int) (A : Option Addr) (n c : Nat) (rs : List Int) (W : World) (hr : RowI .i64 W A n rs) (hn : n ≤ 400) :
    Calls Tryd.prog 11 #[.int .i64 k, .slice A n c] W fun e w' => e = .returned (.string (strOfNums (encL k rs))) ∧ Below W.heap.size W w' := by
  by_cases h : k = 0 ∨ k = 1
  · exact rencodeA k h A n c rs W hr hn
  · exact rencodeB k (fun e => h (.inl e)) (fun e => h (.inr e)) A n c rs W hr hn
end Go.Proofs.YtoojfjealncddaaDoor
