/- The contracts of Join, and of the document's Join. -/
import Derived.Test.YtoojfjealncddaaDoorUnits
namespace Go.Proofs.YtoojfjealncddaaDoor
open Go Go.RowKit
set_option linter.unusedVariables false

/-- What Join gives, of units as numbers. -/
def joinI : List Int → Int × Int
  | [] => (65533, 0)
  | a :: t => if a < 65536 ∧ isI a = true then (a, 1) else
    match t with
    | [] => (65533, 1)
    | b :: _ => if (55296 ≤ a ∧ a < 56320) ∧ (56320 ≤ b ∧ b ≤ 57343) then (65536 + (a - 55296) * 1024 + b - 56320, 2) else (65533, 1)

theorem join_nil (A : Option Addr) (cap : Nat) (w : World) : Calls Tryd.prog 35 #[.slice A 0 cap] w fun e w' => e = .returned (.tuple #[.int .i64 65533, .int .i64 0]) ∧ ∃ q, w' = w.drewN q := by
  go_enter Tryd.func35, Tryd.ntmps35
  go_wp2
  go_ret2
  exact ⟨rfl, 0, rfl⟩
theorem rjoin_nil (A : Option Addr) (cap : Nat) (w : World) : Calls Tryd.prog 20 #[.slice A 0 cap] w fun e w' => e = .returned (.tuple #[.int .i64 65533, .int .i64 0]) ∧ ∃ q, w' = w.drewN q := by
  go_enter Tryd.func20, Tryd.ntmps20
  go_wp2
  go_ret2
  exact ⟨rfl, 0, rfl⟩

theorem join_bmp (b o m cap : Nat) (a : Int) (w : World) (hm : (m : Int) ≤ 4611686018427387904) (hc : w.cell? ⟨b, o, none⟩ = some (.int .i64 a)) (ha : a < 65536) (hi : isI a = true) :
    Calls Tryd.prog 35 #[.slice (some ⟨b, o, none⟩) ((m + 1 : Nat) : Nat) cap] w fun e w' => e = .returned (.tuple #[.int .i64 a, .int .i64 1]) ∧ ∃ q, w' = w.drewN q := by
  have ia := fun w => is_any a w
  rw [hi] at ia
  clear hi
  have IA := Lib.hid ia; clear ia
  have hz : (((m + 1 : Nat) : Int) == 0) = false := by simp; omega
  have hp : (0 : Int) < (m : Int) + 1 := by omega
  go_enter Tryd.func35, Tryd.ntmps35
  go_wp2_with fail
  refine (IA.out _).mono ?_; rintro e w' ⟨rfl, rfl⟩
  go_wp2_with fail
  go_ret2
  exact ⟨rfl, 0, rfl⟩
theorem rjoin_bmp (b o m cap : Nat) (a : Int) (w : World) (hm : (m : Int) ≤ 4611686018427387904) (hc : w.cell? ⟨b, o, none⟩ = some (.int .i64 a)) (ha : a < 65536) (hi : isI a = true) :
    Calls Tryd.prog 20 #[.slice (some ⟨b, o, none⟩) ((m + 1 : Nat) : Nat) cap] w fun e w' => e = .returned (.tuple #[.int .i64 a, .int .i64 1]) ∧ ∃ q, w' = w.drewN q := by
  have ia := fun w => refIs_any a w
  rw [hi] at ia
  clear hi
  have IA := Lib.hid ia; clear ia
  have hz : (((m + 1 : Nat) : Int) == 0) = false := by simp; omega
  have hp : (0 : Int) < (m : Int) + 1 := by omega
  go_enter Tryd.func20, Tryd.ntmps20
  go_wp2_with fail
  refine (IA.out _).mono ?_; rintro e w' ⟨rfl, rfl⟩
  go_wp2_with fail
  go_ret2
  exact ⟨rfl, 0, rfl⟩

set_option maxHeartbeats 1000000 in
/-- One unit alone that is no code point; or a second one behind it that makes no pair. -/
theorem join_out (b o m cap : Nat) (a c : Int) (w : World) (hm : (m : Int) ≤ 4611686018427387904) (hc : w.cell? ⟨b, o, none⟩ = some (.int .i64 a)) (hc1 : 1 ≤ m → w.cell? ⟨b, o + 1, none⟩ = some (.int .i64 c)) (hi : ¬ (a < 65536 ∧ isI a = true))
    (hno : m = 0 ∨ ¬ ((55296 ≤ a ∧ a < 56320) ∧ (56320 ≤ c ∧ c ≤ 57343))) :
    Calls Tryd.prog 35 #[.slice (some ⟨b, o, none⟩) ((m + 1 : Nat) : Nat) cap] w fun e w' => e = .returned (.tuple #[.int .i64 65533, .int .i64 1]) ∧ ∃ q, w' = w.drewN q := by
  have ia := fun w => is_any a w
  have hu := fun w => upper_any a w
  have hl := fun w => lower_any c w
  have IU := Lib.hid hu; clear hu
  have IL := Lib.hid hl; clear hl
  have hz : (((m + 1 : Nat) : Int) == 0) = false := by simp; omega
  have hp : (0 : Int) < (m : Int) + 1 := by omega
  rcases Nat.eq_zero_or_pos m with h0 | h0
  · subst h0
    clear hc1 hno
    by_cases ha : a < 65536
    · have hif : isI a = false := by cases h : isI a with | false => rfl | true => exact absurd ⟨ha, h⟩ hi
      rw [hif] at ia
      clear hi hif
      have IA := Lib.hid ia; clear ia
      go_enter Tryd.func35, Tryd.ntmps35
      go_wp2_with fail
      refine (IA.out _).mono ?_; rintro e w' ⟨rfl, rfl⟩
      go_wp2_with fail
      go_ret2
      exact ⟨rfl, 0, rfl⟩
    · clear hi ia
      go_enter Tryd.func35, Tryd.ntmps35
      go_wp2_with fail
      go_ret2
      exact ⟨rfl, 0, rfl⟩
  · have hcc := hc1 h0
    have hp1 : (1 : Int) < (m : Int) + 1 := by omega
    have hp2 : decide ((1 : Int) < (m : Int) + 1) = true := by simp; omega
    clear hc1
    have hno2 : ¬ ((55296 ≤ a ∧ a < 56320) ∧ (56320 ≤ c ∧ c ≤ 57343)) := by omega
    clear hno
    by_cases hup : 55296 ≤ a ∧ a < 56320
    · have hlo : ¬ (56320 ≤ c ∧ c ≤ 57343) := fun h => hno2 ⟨hup, h⟩
      have ha : a < 65536 := by omega
      have hif : isI a = false := by cases h : isI a with | false => rfl | true => exact absurd ⟨ha, h⟩ hi
      have hub : (decide (55296 ≤ a) && decide (a < 56320)) = true := by simp; omega
      have hlb : (decide (56320 ≤ c) && decide (c ≤ 57343)) = false := by simp; omega
      have iu := IU.out; clear IU
      have il := IL.out; clear IL
      rw [hif] at ia
      rw [hub] at iu
      rw [hlb] at il
      clear hi hif hup hlo hno2 hub hlb
      have IA := Lib.hid ia; clear ia
      have IU := Lib.hid iu; clear iu
      have IL := Lib.hid il; clear il
      go_enter Tryd.func35, Tryd.ntmps35
      go_wp2_with fail
      refine (IA.out _).mono ?_; rintro e w' ⟨rfl, rfl⟩
      go_wp2_with fail
      refine (IU.out _).mono ?_; rintro e w' ⟨rfl, rfl⟩
      go_wp2_with fail
      refine (IL.out _).mono ?_; rintro e w' ⟨rfl, rfl⟩
      go_wp2_with fail
      go_ret2
      exact ⟨rfl, 0, rfl⟩
    · have hub : (decide (55296 ≤ a) && decide (a < 56320)) = false := by simp; omega
      have iu := IU.out; clear IU
      rw [hub] at iu
      have IU := Lib.hid iu; clear iu
      clear hno2 hub
      by_cases ha : a < 65536
      · have hif : isI a = false := by cases h : isI a with | false => rfl | true => exact absurd ⟨ha, h⟩ hi
        rw [hif] at ia
        clear hi hif
        have IA := Lib.hid ia; clear ia
        go_enter Tryd.func35, Tryd.ntmps35
        go_wp2_with fail
        refine (IA.out _).mono ?_; rintro e w' ⟨rfl, rfl⟩
        go_wp2_with fail
        refine (IU.out _).mono ?_; rintro e w' ⟨rfl, rfl⟩
        go_wp2_with fail
        go_ret2
        exact ⟨rfl, 0, rfl⟩
      · clear hi ia
        go_enter Tryd.func35, Tryd.ntmps35
        go_wp2_with fail
        refine (IU.out _).mono ?_; rintro e w' ⟨rfl, rfl⟩
        go_wp2_with fail
        go_ret2
        exact ⟨rfl, 0, rfl⟩

theorem join_pair (b o m cap : Nat) (a c : Int) (w : World) (hm : (m : Int) ≤ 4611686018427387904) (hm1 : 1 ≤ m) (hc : w.cell? ⟨b, o, none⟩ = some (.int .i64 a)) (hcc : w.cell? ⟨b, o + 1, none⟩ = some (.int .i64 c))
    (ha : 55296 ≤ a) (ha2 : a < 56320) (hl : 56320 ≤ c) (hl2 : c ≤ 57343) :
    Calls Tryd.prog 35 #[.slice (some ⟨b, o, none⟩) ((m + 1 : Nat) : Nat) cap] w fun e w' => e = .returned (.tuple #[.int .i64 (65536 + (a - 55296) * 1024 + c - 56320), .int .i64 2]) ∧ ∃ q, w' = w.drewN q := by
  have ia := fun w => is_any a w
  have iu := fun w => upper_any a w
  have il := fun w => lower_any c w
  rw [show isI a = false by rw [isI_false]; omega] at ia
  rw [show (decide (55296 ≤ a) && decide (a < 56320)) = true by simp; omega] at iu
  rw [show (decide (56320 ≤ c) && decide (c ≤ 57343)) = true by simp; omega] at il
  have IA := Lib.hid ia; clear ia
  have IU := Lib.hid iu; clear iu
  have IL := Lib.hid il; clear il
  have hz : (((m + 1 : Nat) : Int) == 0) = false := by simp; omega
  have hp : (0 : Int) < (m : Int) + 1 := by omega
  have hp1 : (1 : Int) < (m : Int) + 1 := by omega
  have hp2 : decide ((1 : Int) < (m : Int) + 1) = true := by simp; omega
  go_enter Tryd.func35, Tryd.ntmps35
  go_wp2_with fail
  refine (IA.out _).mono ?_; rintro e w' ⟨rfl, rfl⟩
  go_wp2_with fail
  refine (IU.out _).mono ?_; rintro e w' ⟨rfl, rfl⟩
  go_wp2_with fail
  refine (IL.out _).mono ?_; rintro e w' ⟨rfl, rfl⟩
  go_wp2_with fail
  go_quiet (fail)
  go_wp2
  go_ret2
  exact ⟨rfl, nq, rfl⟩
end Go.Proofs.YtoojfjealncddaaDoor
