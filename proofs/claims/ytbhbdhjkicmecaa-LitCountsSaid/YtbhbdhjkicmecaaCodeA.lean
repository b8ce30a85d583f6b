/- Contracts of the small functions of package code. -/
import Derived.Test.YtbhbdhjkicmecaaRows
import Derived.Test.YtbhbdhjkicmecaaPlain
import Derived.WalkKit
import Derived.ProofKit
import Derived.OpenShut
import Derived.Handy
import Derived.Lib.Hide
namespace Go.Proofs.Ytbhbdhjkicmecaa
open Go Go.RowKit

theorem is_any (r : Int) (w : World) : Calls Try.prog 27 #[.int .i64 r] w fun e w' => e = .returned (.bool (isI r)) ∧ w = w' := by
  by_cases h1 : 0 ≤ r <;> by_cases h2 : r ≤ 1114111 <;> by_cases h3 : 55296 ≤ r <;> by_cases h4 : r ≤ 57343
  all_goals
    go_enter Try.func27, Try.ntmps27
    go_wp2
    go_ret
    exact ⟨by first | (simp [isI, h1, h2, h3, h4]; done) | (simp [isI]; omega), rfl⟩

theorem refIs_any (r : Int) (w : World) : Calls Try.prog 35 #[.int .i64 r] w fun e w' => e = .returned (.bool (isI r)) ∧ w = w' := by
  by_cases h1 : 0 ≤ r <;> by_cases h2 : r ≤ 1114111 <;> by_cases h3 : 55296 ≤ r <;> by_cases h4 : r ≤ 57343
  all_goals
    go_enter Try.func35, Try.ntmps35
    go_wp2
    go_ret
    exact ⟨by first | (simp [isI, h1, h2, h3, h4]; done) | (simp [isI]; omega), rfl⟩

theorem isI_cases {r : Int} (h : isI r = true) : 0 ≤ r ∧ r ≤ 1114111 := by rw [isI_true] at h; omega

theorem size_no (r : Int) (w : World) (h : isI r = false) : Calls Try.prog 44 #[.int .i64 r] w fun e w' => e = .returned (.int .i64 0) ∧ w = w' := by
  have hc := is_any r w
  rw [h] at hc
  go_enter Try.func44, Try.ntmps44
  go_wp2_with (go_at_call 27; refine hc.mono ?_; rintro e w' ⟨rfl, rfl⟩)
  go_ret
  exact ⟨rfl, rfl⟩

theorem size_any (r : Int) (w : World) : Calls Try.prog 44 #[.int .i64 r] w fun e w' => e = .returned (.int .i64 (szI r)) ∧ w = w' := by
  rcases hb : isI r with _ | _
  · refine (size_no r w hb).mono ?_
    rintro e w' ⟨rfl, rfl⟩
    simp [szI, hb]
  · have hc := is_any r w
    rw [hb] at hc
    have HB := Lib.hid hb; clear hb
    rcases (show r < 128 ∨ (128 ≤ r ∧ r < 2048) ∨ (2048 ≤ r ∧ r < 65536) ∨ 65536 ≤ r by omega) with h1 | ⟨h1, h2⟩ | ⟨h1, h2⟩ | h1
    all_goals
      go_enter Try.func44, Try.ntmps44
      go_wp2_with (go_at_call 27; refine hc.mono ?_; rintro e w' ⟨rfl, rfl⟩)
      go_ret
      exact ⟨by simp [szI, HB.out]; omega, rfl⟩

theorem refSize_any (r : Int) (w : World) : Calls Try.prog 36 #[.int .i64 r] w fun e w' => e = .returned (.int .i64 (szI r)) ∧ w = w' := by
  have hc := refIs_any r w
  rcases hb : isI r with _ | _
  · rw [hb] at hc
    have HB := Lib.hid hb; clear hb
    go_enter Try.func36, Try.ntmps36
    go_wp2_with (go_at_call 35; refine hc.mono ?_; rintro e w' ⟨rfl, rfl⟩)
    go_ret
    exact ⟨by simp [szI, HB.out], rfl⟩
  · rw [hb] at hc
    have HB := Lib.hid hb; clear hb
    rcases (show r < 128 ∨ (128 ≤ r ∧ r < 2048) ∨ (2048 ≤ r ∧ r < 65536) ∨ 65536 ≤ r by omega) with h1 | ⟨h1, h2⟩ | ⟨h1, h2⟩ | h1
    all_goals
      go_enter Try.func36, Try.ntmps36
      go_wp2_with (go_at_call 35; refine hc.mono ?_; rintro e w' ⟨rfl, rfl⟩)
      go_ret
      exact ⟨by simp [szI, HB.out]; omega, rfl⟩

theorem sound_any (r : Int) (w : World) : Calls Try.prog 43 #[.int .i64 r] w fun e w' => e = .returned (.int .i64 (sndI r)) ∧ w = w' := by
  have hc := is_any r w
  rcases hb : isI r with _ | _
  all_goals
    rw [hb] at hc
    have HB := Lib.hid hb; clear hb
    go_enter Try.func43, Try.ntmps43
    go_wp2_with (go_at_call 27; refine hc.mono ?_; rintro e w' ⟨rfl, rfl⟩)
    go_ret
    exact ⟨by simp [sndI, HB.out], rfl⟩



theorem behind_any (r : Int) (w : World) (h0 : 0 ≤ r) (h1 : r ≤ 1114111) : Calls Try.prog 45 #[.int .i64 r] w fun e w' => e = .returned (.int .u8 (128 + r % 64)) ∧ w = w' := by
  have e1 := i64_and63 h0 (by omega)
  have e2 := i64_or128 (y := r % 64) (by omega) (by omega)
  have h2 : 0 ≤ r % 64 := by omega
  have h3 : r % 64 < 64 := by omega
  go_enter Try.func45, Try.ntmps45
  go_wp2
  go_ret
  exact ⟨by simp, rfl⟩
theorem ones2 (w : World) : Calls Try.prog 46 #[.int .i64 2] w fun e w' => e = .returned (.int .u8 192) ∧ w = w' := by
  go_enter Try.func46, Try.ntmps46
  go_wp2
  go_ret
  exact ⟨rfl, rfl⟩
theorem ones3 (w : World) : Calls Try.prog 46 #[.int .i64 3] w fun e w' => e = .returned (.int .u8 224) ∧ w = w' := by
  go_enter Try.func46, Try.ntmps46
  go_wp2
  go_ret
  exact ⟨rfl, rfl⟩
theorem ones4 (w : World) : Calls Try.prog 46 #[.int .i64 4] w fun e w' => e = .returned (.int .u8 240) ∧ w = w' := by
  go_enter Try.func46, Try.ntmps46
  go_wp2
  go_ret
  exact ⟨rfl, rfl⟩
end Go.Proofs.Ytbhbdhjkicmecaa
