/- The contract of Put of package code. -/
import Derived.Test.YtoojfjealncddaaDoorCodeA
import Derived.Below
namespace Go.Proofs.YtoojfjealncddaaDoor
open Go Go.RowKit

theorem u8_or0 {y : Int} (h₀ : 0 ≤ y) (h₁ : y < 256) : bits .or .u8 0 y = y := by
  rw [bits_join .u8 8 (by decide) wraps_u8 8 0 y (by decide) (by decide) (by decide) h₀ h₁ (by omega)]; omega

theorem mk1 (w : World) : (Instr.makeSlice 22 (.int .i64 1) (.int .i64 1)).run Tryd.prog w = .ok (.slice (some ⟨w.heap.size, 0, none⟩) 1 1) (w.alloc (.cells #[.int .u8 0] 5)) := by kernel_rfl
set_option maxHeartbeats 400000 in
theorem put1 (r s : Int) (w : World) (hs : isI s = true) (h1 : s < 128)
    (hc : ∀ w, Calls Tryd.prog 39 #[.int .i64 r] w fun e w' => e = .returned (.int .i64 s) ∧ w = w') :
    Calls Tryd.prog 30 #[.int .i64 r] w fun e w' => e = .returned (.slice (some ⟨w.heap.size, 0, none⟩) 1 1) ∧ w' = w.alloc (.cells #[.int .u8 s] 5) := by
  have h0 := isI_cases hs
  have hz := fun w => size_any s w
  have ez : szI s = 1 := by simp [szI, hs]; omega
  rw [ez] at hz
  clear ez
  have HS := Lib.hid hs; clear hs
  have HC := Lib.hid hc; clear hc
  have HZ := Lib.hid hz; clear hz
  obtain ⟨h0, h00⟩ := h0
  have hmk := mk1
  go_enter Tryd.func30, Tryd.ntmps30
  go_wp2_with fail
  refine (HC.out _).mono ?_; rintro e w' ⟨rfl, rfl⟩
  go_wp2_with fail
  refine (HZ.out _).mono ?_; rintro e w' ⟨rfl, rfl⟩
  go_wp2_with fail
  go_ret
  exact ⟨rfl, by rw [u8_or0 h0 (by omega)]⟩

theorem mk2 (w : World) : (Instr.makeSlice 22 (.int .i64 2) (.int .i64 2)).run Tryd.prog w = .ok (.slice (some ⟨w.heap.size, 0, none⟩) 2 2) (w.alloc (.cells #[.int .u8 0, .int .u8 0] 5)) := by kernel_rfl
set_option maxHeartbeats 400000 in
theorem put2 (r s : Int) (w : World) (hs : isI s = true) (h1 : 128 ≤ s) (h2 : s < 2048)
    (hc : ∀ w, Calls Tryd.prog 39 #[.int .i64 r] w fun e w' => e = .returned (.int .i64 s) ∧ w = w') :
    Calls Tryd.prog 30 #[.int .i64 r] w fun e w' => e = .returned (.slice (some ⟨w.heap.size, 0, none⟩) 2 2) ∧ w' = w.alloc (.cells #[.int .u8 (192 + s / 64), .int .u8 (128 + s % 64)] 5) := by
  have h0 := isI_cases hs
  have hz := fun w => size_any s w
  have ez : szI s = 2 := by simp [szI, hs]; omega
  rw [ez] at hz
  clear ez
  have HS := Lib.hid hs; clear hs
  have HC := Lib.hid hc; clear hc
  have HZ := Lib.hid hz; clear hz
  obtain ⟨h0, h00⟩ := h0
  have hmk := mk2
  go_enter Tryd.func30, Tryd.ntmps30
  go_wp2_with fail
  refine (HC.out _).mono ?_; rintro e w' ⟨rfl, rfl⟩
  go_wp2_with fail
  refine (HZ.out _).mono ?_; rintro e w' ⟨rfl, rfl⟩
  go_wp2_with fail
  refine (behind_any _ _ ?_ ?_).mono ?_
  · omega
  · omega
  rintro e w' ⟨rfl, rfl⟩
  go_wp2_with fail
  refine (ones2 _).mono ?_; rintro e w' ⟨rfl, rfl⟩
  go_wp2_with fail
  go_ret
  exact ⟨rfl, rfl⟩

theorem mk3 (w : World) : (Instr.makeSlice 22 (.int .i64 3) (.int .i64 3)).run Tryd.prog w = .ok (.slice (some ⟨w.heap.size, 0, none⟩) 3 3) (w.alloc (.cells #[.int .u8 0, .int .u8 0, .int .u8 0] 5)) := by kernel_rfl
set_option maxHeartbeats 400000 in
theorem put3 (r s : Int) (w : World) (hs : isI s = true) (h1 : 2048 ≤ s) (h2 : s < 65536)
    (hc : ∀ w, Calls Tryd.prog 39 #[.int .i64 r] w fun e w' => e = .returned (.int .i64 s) ∧ w = w') :
    Calls Tryd.prog 30 #[.int .i64 r] w fun e w' => e = .returned (.slice (some ⟨w.heap.size, 0, none⟩) 3 3) ∧ w' = w.alloc (.cells #[.int .u8 (224 + s / 4096), .int .u8 (128 + s / 64 % 64), .int .u8 (128 + s % 64)] 5) := by
  have h0 := isI_cases hs
  have hz := fun w => size_any s w
  have ez : szI s = 3 := by simp [szI, hs]; omega
  rw [ez] at hz
  clear ez
  have HS := Lib.hid hs; clear hs
  have HC := Lib.hid hc; clear hc
  have HZ := Lib.hid hz; clear hz
  obtain ⟨h0, h00⟩ := h0
  have hmk := mk3
  go_enter Tryd.func30, Tryd.ntmps30
  go_wp2_with fail
  refine (HC.out _).mono ?_; rintro e w' ⟨rfl, rfl⟩
  go_wp2_with fail
  refine (HZ.out _).mono ?_; rintro e w' ⟨rfl, rfl⟩
  go_wp2_with fail
  refine (behind_any _ _ ?_ ?_).mono ?_
  · omega
  · omega
  rintro e w' ⟨rfl, rfl⟩
  go_wp2_with fail
  refine (behind_any _ _ ?_ ?_).mono ?_
  · omega
  · omega
  rintro e w' ⟨rfl, rfl⟩
  go_wp2_with fail
  refine (ones3 _).mono ?_; rintro e w' ⟨rfl, rfl⟩
  go_wp2_with fail
  go_ret
  exact ⟨rfl, by rw [show s / 64 / 64 = s / 4096 by omega]⟩

theorem mk4 (w : World) : (Instr.makeSlice 22 (.int .i64 4) (.int .i64 4)).run Tryd.prog w = .ok (.slice (some ⟨w.heap.size, 0, none⟩) 4 4) (w.alloc (.cells #[.int .u8 0, .int .u8 0, .int .u8 0, .int .u8 0] 5)) := by kernel_rfl
set_option maxHeartbeats 400000 in
theorem put4 (r s : Int) (w : World) (hs : isI s = true) (h1 : 65536 ≤ s)
    (hc : ∀ w, Calls Tryd.prog 39 #[.int .i64 r] w fun e w' => e = .returned (.int .i64 s) ∧ w = w') :
    Calls Tryd.prog 30 #[.int .i64 r] w fun e w' => e = .returned (.slice (some ⟨w.heap.size, 0, none⟩) 4 4) ∧ w' = w.alloc (.cells #[.int .u8 (240 + s / 262144), .int .u8 (128 + s / 4096 % 64), .int .u8 (128 + s / 64 % 64), .int .u8 (128 + s % 64)] 5) := by
  have h0 := isI_cases hs
  have hz := fun w => size_any s w
  have ez : szI s = 4 := by simp [szI, hs]; omega
  rw [ez] at hz
  clear ez
  have HS := Lib.hid hs; clear hs
  have HC := Lib.hid hc; clear hc
  have HZ := Lib.hid hz; clear hz
  obtain ⟨h0, h00⟩ := h0
  have hmk := mk4
  go_enter Tryd.func30, Tryd.ntmps30
  go_wp2_with fail
  refine (HC.out _).mono ?_; rintro e w' ⟨rfl, rfl⟩
  go_wp2_with fail
  refine (HZ.out _).mono ?_; rintro e w' ⟨rfl, rfl⟩
  go_wp2_with fail
  refine (behind_any _ _ ?_ ?_).mono ?_
  · omega
  · omega
  rintro e w' ⟨rfl, rfl⟩
  go_wp2_with fail
  refine (behind_any _ _ ?_ ?_).mono ?_
  · omega
  · omega
  rintro e w' ⟨rfl, rfl⟩
  go_wp2_with fail
  refine (behind_any _ _ ?_ ?_).mono ?_
  · omega
  · omega
  rintro e w' ⟨rfl, rfl⟩
  go_wp2_with fail
  refine (ones4 _).mono ?_; rintro e w' ⟨rfl, rfl⟩
  go_wp2_with fail
  go_ret
  exact ⟨rfl, by rw [show s / 64 / 64 / 64 = s / 262144 by omega, show s / 64 / 64 = s / 4096 by omega]⟩

/-- WHAT Put GIVES: a new block that holds the octets of 'sndI r'. -/
def putN (r : Int) : Nat := (putI (sndI r)).length
theorem put_any (r : Int) (w : World) : Calls Tryd.prog 30 #[.int .i64 r] w fun e w' =>
    e = .returned (.slice (some ⟨w.heap.size, 0, none⟩) (putN r) (putN r)) ∧ w' = w.alloc (.cells ((putI (sndI r)).map (Value.int .u8)).toArray 5) := by
  have hc := fun w => sound_any r w
  have hs := sndI_is r
  unfold putN
  generalize sndI r = s at *
  have h0 := isI_cases hs
  rcases (show s < 128 ∨ (128 ≤ s ∧ s < 2048) ∨ (2048 ≤ s ∧ s < 65536) ∨ 65536 ≤ s by omega) with h1 | ⟨h1, h2⟩ | ⟨h1, h2⟩ | h1
  · have e : putI s = [s] := by unfold putI; rw [if_pos h1]
    rw [e]
    exact put1 r s w hs h1 hc
  · have e : putI s = [192 + s / 64, 128 + s % 64] := by unfold putI; rw [if_neg (by omega), if_pos h2]
    rw [e]
    exact put2 r s w hs h1 h2 hc
  · have e : putI s = [224 + s / 4096, 128 + s / 64 % 64, 128 + s % 64] := by unfold putI; rw [if_neg (by omega), if_neg (by omega), if_pos h2]
    rw [e]
    exact put3 r s w hs h1 h2 hc
  · have e : putI s = [240 + s / 262144, 128 + s / 4096 % 64, 128 + s / 64 % 64, 128 + s % 64] := by unfold putI; rw [if_neg (by omega), if_neg (by omega), if_neg (by omega)]
    rw [e]
    exact put4 r s w hs h1 hc
end Go.Proofs.YtoojfjealncddaaDoor
