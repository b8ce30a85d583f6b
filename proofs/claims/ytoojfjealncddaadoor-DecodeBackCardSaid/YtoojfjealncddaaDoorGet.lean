/- Contracts of length and gather of package code. -/
import Derived.Test.YtoojfjealncddaaDoorCodeA
import Derived.Test.YtoojfjealncddaaDoorMem
import Derived.Test.YtoojfjealncddaaDoorShelf
import Derived.Deep.QuietTactic
import Derived.BigQuiet
import Derived.Laws.BitsAllLaws
namespace Go.Proofs.YtoojfjealncddaaDoor
open Go Go.RowKit

/-- How many octets a first one announces; 0 if it can't be one. -/
def lenI (c : Int) : Int := if c < 128 then 1 else if c < 192 then 0 else if c < 224 then 2 else if c < 240 then 3 else if c < 248 then 4 else 0

theorem lz_all : ∀ c : Fin 256, (Lib.bitLen (255 - c.val) : Int) = if c.val < 128 then 8 else if c.val < 192 then 7 else if c.val < 224 then 6 else if c.val < 240 then 5 else if c.val < 248 then 4 else (Lib.bitLen (255 - c.val) : Int) := by decide +kernel
theorem lz_top : ∀ c : Fin 8, Lib.bitLen c.val ≤ 3 := by decide +kernel

theorem xor255 : ∀ c : Fin 256, (255 ^^^ c.val : Nat) = 255 - c.val := by decide +kernel
theorem u8_not {c : Int} (h0 : 0 ≤ c) (h1 : c ≤ 255) : bits BinOp.xor IntKind.u8 IntKind.u8.max c = 255 - c := by
  rw [show IntKind.u8.max = 255 from rfl, u8_xor 255 c (by omega) (by omega) h0 (by omega)]
  have := xor255 ⟨c.toNat, by omega⟩
  simp only at this
  rw [show (255 : Int).toNat = 255 from rfl, this]
  omega
theorem length_lo (c m : Int) (w : World) (h0 : 0 ≤ c) (h1 : c ≤ 255) (hm : m = 0 ∨ m = 2 ∨ m = 3 ∨ m = 4)
    (hb : 8 - (Lib.bitLen (255 - c).toNat : Int) = m) : Calls Tryd.prog 49 #[.int .u8 c] w fun e w' => e = .returned (.int .i64 (if m = 0 then 1 else m)) ∧ w = w' := by
  have hl := fun w => Tryd.bits_LeadingZeros8 (255 - c) w (by omega) (by omega)
  rw [hb] at hl
  clear hb
  have HL := Lib.hid hl; clear hl
  have e1 := u8_not h0 h1
  rcases hm with rfl | rfl | rfl | rfl
  all_goals
    go_enter Tryd.func49, Tryd.ntmps49
    go_wp2_with fail
    refine (HL.out _).mono ?_; rintro e w' ⟨rfl, rfl⟩
    go_wp2_with fail
    go_ret
    exact ⟨by simp, rfl⟩

theorem length_hi (c m : Int) (w : World) (h0 : 0 ≤ c) (h1 : c ≤ 255) (hm : m = 1 ∨ 5 ≤ m)
    (hb : 8 - (Lib.bitLen (255 - c).toNat : Int) = m) : Calls Tryd.prog 49 #[.int .u8 c] w fun e w' => e = .returned (.int .i64 0) ∧ w = w' := by
  have hl := fun w => Tryd.bits_LeadingZeros8 (255 - c) w (by omega) (by omega)
  rw [hb] at hl
  clear hb
  have HL := Lib.hid hl; clear hl
  have e1 := u8_not h0 h1
  have b1 : (m == 0) = false := by simp; omega
  have b2 : (m == 2) = false := by simp; omega
  have b3 : (m == 3) = false := by simp; omega
  have b4 : (m == 4) = false := by simp; omega
  clear hm
  go_enter Tryd.func49, Tryd.ntmps49
  go_wp2_with fail
  refine (HL.out _).mono ?_; rintro e w' ⟨rfl, rfl⟩
  go_wp2_with fail
  go_ret
  exact ⟨rfl, rfl⟩

theorem length_any (c : Int) (w : World) (h0 : 0 ≤ c) (h1 : c < 256) : Calls Tryd.prog 49 #[.int .u8 c] w fun e w' => e = .returned (.int .i64 (lenI c)) ∧ w = w' := by
  have ha := lz_all ⟨c.toNat, by omega⟩
  simp only at ha
  rw [show 255 - c.toNat = (255 - c).toNat by omega] at ha
  have ht : 248 ≤ c → Lib.bitLen (255 - c).toNat ≤ 3 := fun h => lz_top ⟨(255 - c).toNat, by omega⟩
  rcases (show c < 128 ∨ (128 ≤ c ∧ c < 192) ∨ (192 ≤ c ∧ c < 224) ∨ (224 ≤ c ∧ c < 240) ∨ (240 ≤ c ∧ c < 248) ∨ 248 ≤ c by omega) with h | h | h | h | h | h
  · rw [if_pos (by omega)] at ha
    have := length_lo c 0 w h0 (by omega) (by omega) (by omega)
    rw [show lenI c = 1 by unfold lenI; rw [if_pos (by omega)]]
    exact this
  · rw [if_neg (by omega), if_pos (by omega)] at ha
    rw [show lenI c = 0 by unfold lenI; rw [if_neg (by omega), if_pos (by omega)]]
    exact length_hi c 1 w h0 (by omega) (by omega) (by omega)
  · rw [if_neg (by omega), if_neg (by omega), if_pos (by omega)] at ha
    rw [show lenI c = 2 by unfold lenI; rw [if_neg (by omega), if_neg (by omega), if_pos (by omega)]]
    exact length_lo c 2 w h0 (by omega) (by omega) (by omega)
  · rw [if_neg (by omega), if_neg (by omega), if_neg (by omega), if_pos (by omega)] at ha
    rw [show lenI c = 3 by unfold lenI; rw [if_neg (by omega), if_neg (by omega), if_neg (by omega), if_pos (by omega)]]
    exact length_lo c 3 w h0 (by omega) (by omega) (by omega)
  · rw [if_neg (by omega), if_neg (by omega), if_neg (by omega), if_neg (by omega), if_pos (by omega)] at ha
    rw [show lenI c = 4 by unfold lenI; rw [if_neg (by omega), if_neg (by omega), if_neg (by omega), if_neg (by omega), if_pos (by omega)]]
    exact length_lo c 4 w h0 (by omega) (by omega) (by omega)
  · have h3 := ht h
    rw [show lenI c = 0 by unfold lenI; rw [if_neg (by omega), if_neg (by omega), if_neg (by omega), if_neg (by omega), if_neg (by omega)]]
    exact length_hi c (8 - (Lib.bitLen (255 - c).toNat : Int)) w h0 (by omega) (by omega) rfl
end Go.Proofs.YtoojfjealncddaaDoor
