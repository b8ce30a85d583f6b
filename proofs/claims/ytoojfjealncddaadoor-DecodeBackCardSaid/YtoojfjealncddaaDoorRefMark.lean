/- The document's own Mark and Sure. -/
import Derived.Test.YtoojfjealncddaaDoorMarkAny
namespace Go.Proofs.YtoojfjealncddaaDoor
open Go Go.RowKit
set_option linter.unusedVariables false

set_option maxHeartbeats 1000000 in
theorem refMark3 (s : ByteArray) (x y z : Int) (w : World) (h3 : 3 ≤ s.size) (hs : s.size ≤ 9223372036854775807)
    (i0 : ∀ w, (Instr.index 9 (.string s) (.int .i64 0)).run Tryd.prog w = .ok (.int .u8 x) w)
    (i1 : ∀ w, (Instr.index 9 (.string s) (.int .i64 1)).run Tryd.prog w = .ok (.int .u8 y) w)
    (i2 : ∀ w, (Instr.index 9 (.string s) (.int .i64 2)).run Tryd.prog w = .ok (.int .u8 z) w) (t : List Int) :
    Calls Tryd.prog 15 #[.string s] w fun e w' => e = .returned (.tuple #[.int .i64 (markI (x :: y :: z :: t)).1, .int .i64 (markI (x :: y :: z :: t)).2]) ∧ w' = w := by
  have g3 : decide ((3 : Int) ≤ (s.size : Int)) = true := by simp; omega
  have g2 : decide ((2 : Int) ≤ (s.size : Int)) = true := by simp; omega
  rcases (show (x = 239 ∧ y = 187 ∧ z = 191) ∨ (x = 239 ∧ y = 187 ∧ z ≠ 191) ∨ (x = 239 ∧ y ≠ 187) ∨ (x = 255 ∧ y = 254) ∨ (x = 255 ∧ y ≠ 254) ∨ (x = 254 ∧ y = 255) ∨ (x = 254 ∧ y ≠ 255) ∨ (x ≠ 239 ∧ x ≠ 255 ∧ x ≠ 254) by omega) with
    ⟨rfl, rfl, rfl⟩ | ⟨rfl, rfl, h⟩ | ⟨rfl, h⟩ | ⟨rfl, rfl⟩ | ⟨rfl, h⟩ | ⟨rfl, rfl⟩ | ⟨rfl, h⟩ | ⟨ha, hb, hc⟩
  · rw [show markI (239 :: 187 :: 191 :: t) = (1, 3) by simp [markI]]
    go_enter Tryd.func15, Tryd.ntmps15
    go_wp2
    go_ret2
    exact ⟨rfl, rfl⟩
  · rw [show markI (239 :: 187 :: z :: t) = (0, 0) by simp [markI, h]]
    have e : (z == 191) = false := by simpa using h
    clear h
    go_enter Tryd.func15, Tryd.ntmps15
    go_wp2
    go_ret2
    exact ⟨rfl, rfl⟩
  · rw [show markI (239 :: y :: z :: t) = (0, 0) by simp [markI, h]]
    have e : (y == 187) = false := by simpa using h
    clear h
    go_enter Tryd.func15, Tryd.ntmps15
    go_wp2
    go_ret2
    exact ⟨rfl, rfl⟩
  · rw [show markI (255 :: 254 :: z :: t) = (2, 2) by simp [markI]]
    go_enter Tryd.func15, Tryd.ntmps15
    go_wp2
    go_ret2
    exact ⟨rfl, rfl⟩
  · rw [show markI (255 :: y :: z :: t) = (0, 0) by simp [markI, h]]
    have e : (y == 254) = false := by simpa using h
    clear h
    go_enter Tryd.func15, Tryd.ntmps15
    go_wp2
    go_ret2
    exact ⟨rfl, rfl⟩
  · rw [show markI (254 :: 255 :: z :: t) = (3, 2) by simp [markI]]
    go_enter Tryd.func15, Tryd.ntmps15
    go_wp2
    go_ret2
    exact ⟨rfl, rfl⟩
  · rw [show markI (254 :: y :: z :: t) = (0, 0) by simp [markI, h]]
    have e : (y == 255) = false := by simpa using h
    clear h
    go_enter Tryd.func15, Tryd.ntmps15
    go_wp2
    go_ret2
    exact ⟨rfl, rfl⟩
  · rw [show markI (x :: y :: z :: t) = (0, 0) by simp [markI, ha, hb, hc]]
    have e1 : (x == 239) = false := by simpa using ha
    have e2 : (x == 255) = false := by simpa using hb
    have e3 : (x == 254) = false := by simpa using hc
    clear ha hb hc
    go_enter Tryd.func15, Tryd.ntmps15
    go_wp2
    go_ret2
    exact ⟨rfl, rfl⟩

set_option maxHeartbeats 1000000 in
theorem refMark2 (s : ByteArray) (x y : Int) (w : World) (h3 : s.size = 2)
    (i0 : ∀ w, (Instr.index 9 (.string s) (.int .i64 0)).run Tryd.prog w = .ok (.int .u8 x) w)
    (i1 : ∀ w, (Instr.index 9 (.string s) (.int .i64 1)).run Tryd.prog w = .ok (.int .u8 y) w) :
    Calls Tryd.prog 15 #[.string s] w fun e w' => e = .returned (.tuple #[.int .i64 (markI [x, y]).1, .int .i64 (markI [x, y]).2]) ∧ w' = w := by
  rcases (show (x = 255 ∧ y = 254) ∨ (x = 255 ∧ y ≠ 254) ∨ (x = 254 ∧ y = 255) ∨ (x = 254 ∧ y ≠ 255) ∨ (x ≠ 255 ∧ x ≠ 254) by omega) with
    ⟨rfl, rfl⟩ | ⟨rfl, h⟩ | ⟨rfl, rfl⟩ | ⟨rfl, h⟩ | ⟨hb, hc⟩
  · rw [show markI [255, 254] = (2, 2) by simp [markI]]
    go_enter Tryd.func15, Tryd.ntmps15
    go_wp2
    go_ret2
    exact ⟨rfl, rfl⟩
  · rw [show markI [255, y] = (0, 0) by simp [markI, h]]
    have e : (y == 254) = false := by simpa using h
    clear h
    go_enter Tryd.func15, Tryd.ntmps15
    go_wp2
    go_ret2
    exact ⟨rfl, rfl⟩
  · rw [show markI [254, 255] = (3, 2) by simp [markI]]
    go_enter Tryd.func15, Tryd.ntmps15
    go_wp2
    go_ret2
    exact ⟨rfl, rfl⟩
  · rw [show markI [254, y] = (0, 0) by simp [markI, h]]
    have e : (y == 255) = false := by simpa using h
    clear h
    go_enter Tryd.func15, Tryd.ntmps15
    go_wp2
    go_ret2
    exact ⟨rfl, rfl⟩
  · rw [show markI [x, y] = (0, 0) by simp [markI, hb, hc]]
    have e2 : (x == 255) = false := by simpa using hb
    have e3 : (x == 254) = false := by simpa using hc
    clear hb hc
    go_enter Tryd.func15, Tryd.ntmps15
    go_wp2
    go_ret2
    exact ⟨rfl, rfl⟩

theorem refMark1 (s : ByteArray) (w : World) (h3 : s.size < 2) :
    Calls Tryd.prog 15 #[.string s] w fun e w' => e = .returned (.tuple #[.int .i64 0, .int .i64 0]) ∧ w' = w := by
  have g3 : decide ((3 : Int) ≤ (s.size : Int)) = false := by simp; omega
  have g2 : decide ((2 : Int) ≤ (s.size : Int)) = false := by simp; omega
  go_enter Tryd.func15, Tryd.ntmps15
  go_wp2
  go_ret2
  exact ⟨rfl, rfl⟩

theorem refMark_any (s : ByteArray) (w : World) (hs : s.size ≤ 9223372036854775807) :
    Calls Tryd.prog 15 #[.string s] w fun e w' => e = .returned (.tuple #[.int .i64 (markI (nums s)).1, .int .i64 (markI (nums s)).2]) ∧ w' = w := by
  have hidx := idx_at s
  have hl := nums_length s
  match hn : nums s, hl, hidx with
  | [], hl, hidx => exact refMark1 s w (by simp at hl; omega)
  | [x], hl, hidx =>
    rw [show markI [x] = (0, 0) by simp [markI]]
    exact refMark1 s w (by simp at hl; omega)
  | [x, y], hl, hidx =>
    simp at hl
    have i0 := hidx 0 (by omega)
    have i1 := hidx 1 (by omega)
    exact refMark2 s x y w (by omega) i0 i1
  | x :: y :: z :: t, hl, hidx =>
    simp at hl
    have i0 := hidx 0 (by omega)
    have i1 := hidx 1 (by omega)
    have i2 := hidx 2 (by omega)
    exact refMark3 s x y z w (by omega) hs i0 i1 i2 t
end Go.Proofs.YtoojfjealncddaaDoor
