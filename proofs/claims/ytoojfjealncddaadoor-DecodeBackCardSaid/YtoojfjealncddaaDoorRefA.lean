/- Contracts of the document's own Put. -/
import Derived.Test.YtoojfjealncddaaDoorCodeB
namespace Go.Proofs.YtoojfjealncddaaDoor
open Go Go.RowKit

theorem str1 (g : Nat) (x : Int) (w : World) (hg : g = w.heap.size) : (convert 22 9 (.slice (some ⟨g, 0, none⟩) 1 1)).run Tryd.prog (w.alloc (.cells #[.int .u8 x] 5)) = .ok (.string (strOfNums [x])) (w.alloc (.cells #[.int .u8 x] 5)) := by
  subst hg
  exact run_convert_bytes_arg (P := Tryd.prog) _ 22 5 Tryd.underlying22 Tryd.underlying5 w.heap.size 0 1 1 [x] rfl (fun i hi => by
    obtain rfl : i = 0 := by omega
    simp) 9 Tryd.underlying9

theorem refPut1 (r : Int) (w : World) (h0 : 0 ≤ r) (h1 : r < 128)
    (hc : ∀ w, Calls Tryd.prog 21 #[.int .i64 r] w fun e w' => e = .returned (.bool true) ∧ w = w')
    (hz : ∀ w, Calls Tryd.prog 22 #[.int .i64 r] w fun e w' => e = .returned (.int .i64 1) ∧ w = w') :
    Calls Tryd.prog 10 #[.int .i64 r] w fun e w' => e = .returned (.string (strOfNums [r])) ∧ Below w.heap.size w w' := by
  have HC := Lib.hid hc; clear hc
  have HZ := Lib.hid hz; clear hz
  have hst := str1
  go_enter Tryd.func10, Tryd.ntmps10
  go_wp2_with fail
  refine (HC.out _).mono ?_; rintro e w' ⟨rfl, rfl⟩
  go_wp2_with fail
  refine (HZ.out _).mono ?_; rintro e w' ⟨rfl, rfl⟩
  go_wp2_with fail
  go_ret
  exact ⟨rfl, by go_grown⟩

theorem refPut2 (r : Int) (w : World) (h0 : 128 ≤ r) (h1 : r < 2048)
    (hc : ∀ w, Calls Tryd.prog 21 #[.int .i64 r] w fun e w' => e = .returned (.bool true) ∧ w = w')
    (hz : ∀ w, Calls Tryd.prog 22 #[.int .i64 r] w fun e w' => e = .returned (.int .i64 2) ∧ w = w') :
    Calls Tryd.prog 10 #[.int .i64 r] w fun e w' => e = .returned (.string (strOfNums [192 + r / 64, 128 + r % 64])) ∧ Below w.heap.size w w' := by
  have HC := Lib.hid hc; clear hc
  have HZ := Lib.hid hz; clear hz
  have hst := str1
  go_enter Tryd.func10, Tryd.ntmps10
  go_wp2_with fail
  refine (HC.out _).mono ?_; rintro e w' ⟨rfl, rfl⟩
  go_wp2_with fail
  refine (HZ.out _).mono ?_; rintro e w' ⟨rfl, rfl⟩
  go_wp2_with fail
  go_rounds 3
  go_ret
  exact ⟨rfl, by go_grown⟩

theorem refPut3 (r : Int) (w : World) (h0 : 2048 ≤ r) (h1 : r < 65536)
    (hc : ∀ w, Calls Tryd.prog 21 #[.int .i64 r] w fun e w' => e = .returned (.bool true) ∧ w = w')
    (hz : ∀ w, Calls Tryd.prog 22 #[.int .i64 r] w fun e w' => e = .returned (.int .i64 3) ∧ w = w') :
    Calls Tryd.prog 10 #[.int .i64 r] w fun e w' => e = .returned (.string (strOfNums [224 + r / 4096, 128 + r / 64 % 64, 128 + r % 64])) ∧ Below w.heap.size w w' := by
  have HC := Lib.hid hc; clear hc
  have HZ := Lib.hid hz; clear hz
  have hst := str1
  go_enter Tryd.func10, Tryd.ntmps10
  go_wp2_with fail
  refine (HC.out _).mono ?_; rintro e w' ⟨rfl, rfl⟩
  go_wp2_with fail
  refine (HZ.out _).mono ?_; rintro e w' ⟨rfl, rfl⟩
  go_wp2_with fail
  go_rounds 4
  go_ret
  exact ⟨by rw [show r / 4096 = r / 64 / 64 by omega]; rfl, by go_grown⟩

theorem refPut4 (r : Int) (w : World) (h0 : 65536 ≤ r) (h1 : r ≤ 1114111)
    (hc : ∀ w, Calls Tryd.prog 21 #[.int .i64 r] w fun e w' => e = .returned (.bool true) ∧ w = w')
    (hz : ∀ w, Calls Tryd.prog 22 #[.int .i64 r] w fun e w' => e = .returned (.int .i64 4) ∧ w = w') :
    Calls Tryd.prog 10 #[.int .i64 r] w fun e w' => e = .returned (.string (strOfNums [240 + r / 262144, 128 + r / 4096 % 64, 128 + r / 64 % 64, 128 + r % 64])) ∧ Below w.heap.size w w' := by
  have HC := Lib.hid hc; clear hc
  have HZ := Lib.hid hz; clear hz
  have hst := str1
  go_enter Tryd.func10, Tryd.ntmps10
  go_wp2_with fail
  refine (HC.out _).mono ?_; rintro e w' ⟨rfl, rfl⟩
  go_wp2_with fail
  refine (HZ.out _).mono ?_; rintro e w' ⟨rfl, rfl⟩
  go_wp2_with fail
  go_rounds 5
  go_ret
  exact ⟨by rw [show r / 262144 = r / 64 / 64 / 64 by omega, show r / 4096 = r / 64 / 64 by omega]; rfl, by go_grown⟩

theorem refPut_is (r : Int) (w : World) (hs : isI r = true) : Calls Tryd.prog 10 #[.int .i64 r] w fun e w' => e = .returned (.string (strOfNums (putI r))) ∧ Below w.heap.size w w' := by
  have hc := fun w => refIs_any r w
  have hz := fun w => refSize_any r w
  rw [hs] at hc
  have h0 := isI_cases hs
  rcases (show r < 128 ∨ (128 ≤ r ∧ r < 2048) ∨ (2048 ≤ r ∧ r < 65536) ∨ 65536 ≤ r by omega) with h1 | ⟨h1, h2⟩ | ⟨h1, h2⟩ | h1
  · have ez : szI r = 1 := by simp [szI, hs]; omega
    have e : putI r = [r] := by unfold putI; rw [if_pos h1]
    rw [ez] at hz; rw [e]
    exact refPut1 r w h0.1 h1 hc hz
  · have ez : szI r = 2 := by simp [szI, hs]; omega
    have e : putI r = [192 + r / 64, 128 + r % 64] := by unfold putI; rw [if_neg (by omega), if_pos h2]
    rw [ez] at hz; rw [e]
    exact refPut2 r w h1 h2 hc hz
  · have ez : szI r = 3 := by simp [szI, hs]; omega
    have e : putI r = [224 + r / 4096, 128 + r / 64 % 64, 128 + r % 64] := by unfold putI; rw [if_neg (by omega), if_neg (by omega), if_pos h2]
    rw [ez] at hz; rw [e]
    exact refPut3 r w h1 h2 hc hz
  · have ez : szI r = 4 := by simp [szI, hs]; omega
    have e : putI r = [240 + r / 262144, 128 + r / 4096 % 64, 128 + r / 64 % 64, 128 + r % 64] := by unfold putI; rw [if_neg (by omega), if_neg (by omega), if_neg (by omega)]
    rw [ez] at hz; rw [e]
    exact refPut4 r w h1 h0.2 hc hz

theorem refPut_no (r : Int) (w : World) (hs : isI r = false) : Calls Tryd.prog 10 #[.int .i64 r] w fun e w' => e = .returned (.string (strOfNums (putI 65533))) ∧ Below w.heap.size w w' := by
  have hc := fun w => refIs_any r w
  have hz := fun w => refSize_any 65533 w
  rw [hs] at hc
  rw [show szI 65533 = 3 by decide] at hz
  rw [show putI 65533 = [239, 191, 189] by decide]
  clear hs
  have HC := Lib.hid hc; clear hc
  have HZ := Lib.hid hz; clear hz
  have hst := str1
  go_enter Tryd.func10, Tryd.ntmps10
  go_wp2_with fail
  refine (HC.out _).mono ?_; rintro e w' ⟨rfl, rfl⟩
  go_wp2_with fail
  refine (HZ.out _).mono ?_; rintro e w' ⟨rfl, rfl⟩
  go_wp2_with fail
  go_rounds 4
  go_ret
  exact ⟨rfl, by go_grown⟩

/-- WHAT THE DOCUMENT's Put GIVES. -/
theorem refPut_any (r : Int) (w : World) : Calls Tryd.prog 10 #[.int .i64 r] w fun e w' => e = .returned (.string (strOfNums (putI (sndI r)))) ∧ Below w.heap.size w w' := by
  rcases hb : isI r with _ | _
  · rw [show sndI r = 65533 by simp [sndI, hb]]
    exact refPut_no r w hb
  · rw [show sndI r = r by simp [sndI, hb]]
    exact refPut_is r w hb
end Go.Proofs.YtoojfjealncddaaDoor
