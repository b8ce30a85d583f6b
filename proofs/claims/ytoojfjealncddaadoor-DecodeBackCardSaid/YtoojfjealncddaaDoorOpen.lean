/- The contract of Open of package code. -/
import Derived.Test.YtoojfjealncddaaDoorGetB
namespace Go.Proofs.YtoojfjealncddaaDoor
open Go Go.RowKit

theorem copen_nil (A : Option Addr) (cap : Nat) (w : World) : Calls Tryd.prog 37 #[.slice A 0 cap] w fun e w' => e = .returned (.bool true) ∧ ∃ q, w' = w.drewN q := by
  go_enter Tryd.func37, Tryd.ntmps37
  go_wp2
  go_ret
  exact ⟨rfl, 0, rfl⟩

theorem copen_whole (b o m cap : Nat) (x n : Int) (w : World) (hm : (m : Int) ≤ 4611686018427387904) (hc : w.cell? ⟨b, o, none⟩ = some (.int .u8 x)) (hn : n ≤ (m : Int) + 1)
    (hl : ∀ w, Calls Tryd.prog 49 #[.int .u8 x] w fun e w' => e = .returned (.int .i64 n) ∧ w = w') :
    Calls Tryd.prog 37 #[.slice (some ⟨b, o, none⟩) ((m + 1 : Nat) : Nat) cap] w fun e w' => e = .returned (.bool false) ∧ ∃ q, w' = w.drewN q := by
  have HL := Lib.hid hl; clear hl
  have hz : (((m + 1 : Nat) : Int) == 0) = false := by simp; omega
  have hd : decide (n ≤ (m : Int) + 1) = true := by simpa using hn
  go_enter Tryd.func37, Tryd.ntmps37
  go_wp2_with fail
  refine (HL.out _).mono ?_; rintro e w' ⟨rfl, rfl⟩
  go_wp2_with fail
  go_ret
  exact ⟨rfl, 0, rfl⟩

theorem copen_bad (b o m cap : Nat) (x n r : Int) (w : World) (hm : (m : Int) ≤ 2) (hc : w.cell? ⟨b, o, none⟩ = some (.int .u8 x)) (hn : ¬ n ≤ (m : Int) + 1)
    (hl : ∀ w, Calls Tryd.prog 49 #[.int .u8 x] w fun e w' => e = .returned (.int .i64 n) ∧ w = w')
    (hg : Calls Tryd.prog 50 #[.slice (some ⟨b, o, none⟩) ((m + 1 : Nat) : Nat) cap, .int .i64 n] w fun e w' => e = .returned (.tuple #[.int .i64 r, .bool false]) ∧ ∃ q, w' = w.drewN q) :
    Calls Tryd.prog 37 #[.slice (some ⟨b, o, none⟩) ((m + 1 : Nat) : Nat) cap] w fun e w' => e = .returned (.bool false) ∧ ∃ q, w' = w.drewN q := by
  have HL := Lib.hid hl; clear hl
  have HG := Lib.hid hg; clear hg
  have hz : (((m + 1 : Nat) : Int) == 0) = false := by simp; omega
  have hd : decide (n ≤ (m : Int) + 1) = false := by simp; omega
  go_enter Tryd.func37, Tryd.ntmps37
  go_wp2_with fail
  refine (HL.out _).mono ?_; rintro e w' ⟨rfl, rfl⟩
  go_wp2_with fail
  refine HG.out.mono ?_; rintro e w' ⟨rfl, q, rfl⟩
  go_wp2_with fail
  go_ret
  exact ⟨rfl, q, rfl⟩

set_option maxHeartbeats 1000000 in
theorem copen_in (b o m cap : Nat) (x n r K : Int) (w : World) (hc : w.cell? ⟨b, o, none⟩ = some (.int .u8 x)) (hr0 : 0 ≤ r) (hr1 : r < 33554432)
    (hcase : (m = 0 ∧ n = 2 ∧ K = 64) ∨ (m = 0 ∧ n = 3 ∧ K = 4096) ∨ (m = 0 ∧ n = 4 ∧ K = 262144) ∨ (m = 1 ∧ n = 3 ∧ K = 64) ∨ (m = 1 ∧ n = 4 ∧ K = 4096) ∨ (m = 2 ∧ n = 4 ∧ K = 64))
    (hl : ∀ w, Calls Tryd.prog 49 #[.int .u8 x] w fun e w' => e = .returned (.int .i64 n) ∧ w = w')
    (hg : Calls Tryd.prog 50 #[.slice (some ⟨b, o, none⟩) ((m + 1 : Nat) : Nat) cap, .int .i64 n] w fun e w' => e = .returned (.tuple #[.int .i64 r, .bool true]) ∧ ∃ q, w' = w.drewN q) :
    Calls Tryd.prog 37 #[.slice (some ⟨b, o, none⟩) ((m + 1 : Nat) : Nat) cap] w fun e w' => e = .returned (.bool (decide (szI (r * K) = n) || decide (szI (r * K + (K - 1)) = n))) ∧ ∃ q, w' = w.drewN q := by
  have HL := Lib.hid hl; clear hl
  have HG := Lib.hid hg; clear hg
  have hs1 := fun w => size_any (r * K) w
  have hs2 := fun w => size_any (r * K + (K - 1)) w
  have j6 := i64_or6 (x := r * 64) (y := 63) (by omega) (by omega) (by omega) (by omega) (by omega)
  have j12 := i64_or12 (x := r * 4096) (y := 4095) (by omega) (by omega) (by omega) (by omega) (by omega)
  have j18 := i64_or18 (x := r * 262144) (y := 262143) (by omega) (by omega) (by omega) (by omega) (by omega)
  obtain ⟨z1, hz1⟩ : ∃ z, z = szI (r * K) := ⟨_, rfl⟩
  obtain ⟨z2, hz2⟩ : ∃ z, z = szI (r * K + (K - 1)) := ⟨_, rfl⟩
  rw [← hz1] at hs1 ⊢
  rw [← hz2] at hs2 ⊢
  clear hz1 hz2
  have HS1 := Lib.hid hs1; clear hs1
  have HS2 := Lib.hid hs2; clear hs2
  by_cases h1 : z1 = n
  · have hb1 : (z1 == n) = true := by rw [beq_iff_eq]; exact h1
    rw [decide_eq_true h1]
    clear h1
    rcases hcase with ⟨rfl, rfl, rfl⟩ | ⟨rfl, rfl, rfl⟩ | ⟨rfl, rfl, rfl⟩ | ⟨rfl, rfl, rfl⟩ | ⟨rfl, rfl, rfl⟩ | ⟨rfl, rfl, rfl⟩
    all_goals
      go_enter Tryd.func37, Tryd.ntmps37
      go_wp2_with fail
      refine (HL.out _).mono ?_; rintro e w' ⟨rfl, rfl⟩
      go_wp2_with fail
      refine HG.out.mono ?_; rintro e w' ⟨rfl, q, rfl⟩
      go_wp2_with fail
      refine (HS1.out _).mono ?_; rintro e w' ⟨rfl, rfl⟩
      go_wp2_with fail
      go_ret
      exact ⟨rfl, q, rfl⟩
  · have hb1 : (z1 == n) = false := by rw [beq_eq_false_iff_ne]; exact h1
    rw [decide_eq_false h1, Bool.false_or]
    clear h1
    have hb2 : (z2 == n) = decide (z2 = n) := by rw [Bool.eq_iff_iff, beq_iff_eq, decide_eq_true_iff]
    rw [← hb2]
    clear hb2
    rcases hcase with ⟨rfl, rfl, rfl⟩ | ⟨rfl, rfl, rfl⟩ | ⟨rfl, rfl, rfl⟩ | ⟨rfl, rfl, rfl⟩ | ⟨rfl, rfl, rfl⟩ | ⟨rfl, rfl, rfl⟩
    all_goals
      go_enter Tryd.func37, Tryd.ntmps37
      go_wp2_with fail
      refine (HL.out _).mono ?_; rintro e w' ⟨rfl, rfl⟩
      go_wp2_with fail
      refine HG.out.mono ?_; rintro e w' ⟨rfl, q, rfl⟩
      go_wp2_with fail
      refine (HS1.out _).mono ?_; rintro e w' ⟨rfl, rfl⟩
      go_wp2_with fail
      refine (HS2.out _).mono ?_; rintro e w' ⟨rfl, rfl⟩
      go_wp2_with fail
      go_ret
      exact ⟨rfl, q, rfl⟩
end Go.Proofs.YtoojfjealncddaaDoor
