/- Sure, way by way. -/
import Derived.Test.YtoojfjealncddaaDoorMarks
namespace Go.Proofs.YtoojfjealncddaaDoor
open Go Go.RowKit
set_option linter.unusedVariables false


set_option maxHeartbeats 1000000 in
theorem sure0T (A : Option Addr) (c : Nat) (w : World) (hm : Marks w) (s : ByteArray) (hcv : ∀ w', Below w.heap.size w w' → (convert 22 9 (.slice A 0 c)).run Tryd.prog w' = .ok (.string s) w') (e0 : s.toList = []) :
    Calls Tryd.prog 32 #[.slice A 0 c] w fun e w' => e = .returned (.bool false) ∧ Below w.heap.size w w' := by
  obtain ⟨m0, m1, m2, m3, m4, m5, m6⟩ := hm
  have i0 := ix0
  go_enter Tryd.func32, Tryd.ntmps32
  go_wp2
  go_rounds 4
  have b0 : Below w.heap.size w (w.alloc (.cells #[.int .i64 1, .string ⟨#[239, 187, 191]⟩] 61)) := (Below.refl w.heap.size w).alloc (by go_size) _
  have c0 := fun q => hcv ((w.alloc (.cells #[.int .i64 1, .string ⟨#[239, 187, 191]⟩] 61)).drewN q) (below_drewN b0 q)
  go_quiet (fail)
  go_wp2
  go_ret
  exact ⟨rfl, below_drewN b0 nq⟩

set_option maxHeartbeats 1000000 in
theorem sure1T (A : Option Addr) (c : Nat) (w : World) (hm : Marks w) (s : ByteArray) (hcv : ∀ w', Below w.heap.size w w' → (convert 22 9 (.slice A 1 c)).run Tryd.prog w' = .ok (.string s) w') (e0 : (s.toList == (ByteArray.extract ⟨#[239, 187, 191]⟩ 0 1).toList) = true) :
    Calls Tryd.prog 32 #[.slice A 1 c] w fun e w' => e = .returned (.bool false) ∧ Below w.heap.size w w' := by
  obtain ⟨m0, m1, m2, m3, m4, m5, m6⟩ := hm
  have i0 := ix0
  go_enter Tryd.func32, Tryd.ntmps32
  go_wp2
  go_rounds 4
  have b0 : Below w.heap.size w (w.alloc (.cells #[.int .i64 1, .string ⟨#[239, 187, 191]⟩] 61)) := (Below.refl w.heap.size w).alloc (by go_size) _
  have c0 := fun q => hcv ((w.alloc (.cells #[.int .i64 1, .string ⟨#[239, 187, 191]⟩] 61)).drewN q) (below_drewN b0 q)
  go_quiet (fail)
  go_wp2
  go_ret
  exact ⟨rfl, below_drewN b0 nq⟩

set_option maxHeartbeats 1000000 in
theorem sure1FT (A : Option Addr) (c : Nat) (w : World) (hm : Marks w) (s : ByteArray) (hcv : ∀ w', Below w.heap.size w w' → (convert 22 9 (.slice A 1 c)).run Tryd.prog w' = .ok (.string s) w') (e0 : (s.toList == (ByteArray.extract ⟨#[239, 187, 191]⟩ 0 1).toList) = false) (e1 : (s.toList == (ByteArray.extract ⟨#[255, 254]⟩ 0 1).toList) = true) :
    Calls Tryd.prog 32 #[.slice A 1 c] w fun e w' => e = .returned (.bool false) ∧ Below w.heap.size w w' := by
  obtain ⟨m0, m1, m2, m3, m4, m5, m6⟩ := hm
  have i0 := ix0
  have i1 := ix1
  go_enter Tryd.func32, Tryd.ntmps32
  go_wp2
  go_rounds 4
  have b0 : Below w.heap.size w (w.alloc (.cells #[.int .i64 1, .string ⟨#[239, 187, 191]⟩] 61)) := (Below.refl w.heap.size w).alloc (by go_size) _
  have c0 := fun q => hcv ((w.alloc (.cells #[.int .i64 1, .string ⟨#[239, 187, 191]⟩] 61)).drewN q) (below_drewN b0 q)
  go_quiet (fail)
  obtain ⟨nq0, hq0⟩ : ∃ q, q = nq := ⟨_, rfl⟩
  rw [← hq0]
  clear hq0 nq
  have b0d : Below w.heap.size w ((w.alloc (.cells #[.int .i64 1, .string ⟨#[239, 187, 191]⟩] 61)).drewN nq0) := below_drewN b0 nq0
  go_wp2
  rw [rounds_succ]
  go_wp2
  have b1 : Below w.heap.size w (((w.alloc (.cells #[.int .i64 1, .string ⟨#[239, 187, 191]⟩] 61)).drewN nq0).alloc (.cells #[.int .i64 2, .string ⟨#[255, 254]⟩] 61)) := b0d.alloc (by go_size) _
  have c1 := fun q => hcv ((((w.alloc (.cells #[.int .i64 1, .string ⟨#[239, 187, 191]⟩] 61)).drewN nq0).alloc (.cells #[.int .i64 2, .string ⟨#[255, 254]⟩] 61)).drewN q) (below_drewN b1 q)
  go_quiet (fail)
  go_wp2
  go_ret
  exact ⟨rfl, below_drewN b1 nq⟩

set_option maxHeartbeats 1000000 in
theorem sure1FFT (A : Option Addr) (c : Nat) (w : World) (hm : Marks w) (s : ByteArray) (hcv : ∀ w', Below w.heap.size w w' → (convert 22 9 (.slice A 1 c)).run Tryd.prog w' = .ok (.string s) w') (e0 : (s.toList == (ByteArray.extract ⟨#[239, 187, 191]⟩ 0 1).toList) = false) (e1 : (s.toList == (ByteArray.extract ⟨#[255, 254]⟩ 0 1).toList) = false) (e2 : (s.toList == (ByteArray.extract ⟨#[254, 255]⟩ 0 1).toList) = true) :
    Calls Tryd.prog 32 #[.slice A 1 c] w fun e w' => e = .returned (.bool false) ∧ Below w.heap.size w w' := by
  obtain ⟨m0, m1, m2, m3, m4, m5, m6⟩ := hm
  have i0 := ix0
  have i1 := ix1
  have i2 := ix2
  go_enter Tryd.func32, Tryd.ntmps32
  go_wp2
  go_rounds 4
  have b0 : Below w.heap.size w (w.alloc (.cells #[.int .i64 1, .string ⟨#[239, 187, 191]⟩] 61)) := (Below.refl w.heap.size w).alloc (by go_size) _
  have c0 := fun q => hcv ((w.alloc (.cells #[.int .i64 1, .string ⟨#[239, 187, 191]⟩] 61)).drewN q) (below_drewN b0 q)
  go_quiet (fail)
  obtain ⟨nq0, hq0⟩ : ∃ q, q = nq := ⟨_, rfl⟩
  rw [← hq0]
  clear hq0 nq
  have b0d : Below w.heap.size w ((w.alloc (.cells #[.int .i64 1, .string ⟨#[239, 187, 191]⟩] 61)).drewN nq0) := below_drewN b0 nq0
  go_wp2
  rw [rounds_succ]
  go_wp2
  have b1 : Below w.heap.size w (((w.alloc (.cells #[.int .i64 1, .string ⟨#[239, 187, 191]⟩] 61)).drewN nq0).alloc (.cells #[.int .i64 2, .string ⟨#[255, 254]⟩] 61)) := b0d.alloc (by go_size) _
  have c1 := fun q => hcv ((((w.alloc (.cells #[.int .i64 1, .string ⟨#[239, 187, 191]⟩] 61)).drewN nq0).alloc (.cells #[.int .i64 2, .string ⟨#[255, 254]⟩] 61)).drewN q) (below_drewN b1 q)
  go_quiet (fail)
  obtain ⟨nq1, hq1⟩ : ∃ q, q = nq := ⟨_, rfl⟩
  rw [← hq1]
  clear hq1 nq
  have b1d : Below w.heap.size w ((((w.alloc (.cells #[.int .i64 1, .string ⟨#[239, 187, 191]⟩] 61)).drewN nq0).alloc (.cells #[.int .i64 2, .string ⟨#[255, 254]⟩] 61)).drewN nq1) := below_drewN b1 nq1
  go_wp2
  rw [rounds_succ]
  go_wp2
  have b2 : Below w.heap.size w (((((w.alloc (.cells #[.int .i64 1, .string ⟨#[239, 187, 191]⟩] 61)).drewN nq0).alloc (.cells #[.int .i64 2, .string ⟨#[255, 254]⟩] 61)).drewN nq1).alloc (.cells #[.int .i64 3, .string ⟨#[254, 255]⟩] 61)) := b1d.alloc (by go_size) _
  have c2 := fun q => hcv ((((((w.alloc (.cells #[.int .i64 1, .string ⟨#[239, 187, 191]⟩] 61)).drewN nq0).alloc (.cells #[.int .i64 2, .string ⟨#[255, 254]⟩] 61)).drewN nq1).alloc (.cells #[.int .i64 3, .string ⟨#[254, 255]⟩] 61)).drewN q) (below_drewN b2 q)
  go_quiet (fail)
  go_wp2
  go_ret
  exact ⟨rfl, below_drewN b2 nq⟩

set_option maxHeartbeats 1000000 in
theorem sure1FFF (A : Option Addr) (c : Nat) (w : World) (hm : Marks w) (s : ByteArray) (hcv : ∀ w', Below w.heap.size w w' → (convert 22 9 (.slice A 1 c)).run Tryd.prog w' = .ok (.string s) w') (e0 : (s.toList == (ByteArray.extract ⟨#[239, 187, 191]⟩ 0 1).toList) = false) (e1 : (s.toList == (ByteArray.extract ⟨#[255, 254]⟩ 0 1).toList) = false) (e2 : (s.toList == (ByteArray.extract ⟨#[254, 255]⟩ 0 1).toList) = false) :
    Calls Tryd.prog 32 #[.slice A 1 c] w fun e w' => e = .returned (.bool true) ∧ Below w.heap.size w w' := by
  obtain ⟨m0, m1, m2, m3, m4, m5, m6⟩ := hm
  have i0 := ix0
  have i1 := ix1
  have i2 := ix2
  go_enter Tryd.func32, Tryd.ntmps32
  go_wp2
  go_rounds 4
  have b0 : Below w.heap.size w (w.alloc (.cells #[.int .i64 1, .string ⟨#[239, 187, 191]⟩] 61)) := (Below.refl w.heap.size w).alloc (by go_size) _
  have c0 := fun q => hcv ((w.alloc (.cells #[.int .i64 1, .string ⟨#[239, 187, 191]⟩] 61)).drewN q) (below_drewN b0 q)
  go_quiet (fail)
  obtain ⟨nq0, hq0⟩ : ∃ q, q = nq := ⟨_, rfl⟩
  rw [← hq0]
  clear hq0 nq
  have b0d : Below w.heap.size w ((w.alloc (.cells #[.int .i64 1, .string ⟨#[239, 187, 191]⟩] 61)).drewN nq0) := below_drewN b0 nq0
  go_wp2
  rw [rounds_succ]
  go_wp2
  have b1 : Below w.heap.size w (((w.alloc (.cells #[.int .i64 1, .string ⟨#[239, 187, 191]⟩] 61)).drewN nq0).alloc (.cells #[.int .i64 2, .string ⟨#[255, 254]⟩] 61)) := b0d.alloc (by go_size) _
  have c1 := fun q => hcv ((((w.alloc (.cells #[.int .i64 1, .string ⟨#[239, 187, 191]⟩] 61)).drewN nq0).alloc (.cells #[.int .i64 2, .string ⟨#[255, 254]⟩] 61)).drewN q) (below_drewN b1 q)
  go_quiet (fail)
  obtain ⟨nq1, hq1⟩ : ∃ q, q = nq := ⟨_, rfl⟩
  rw [← hq1]
  clear hq1 nq
  have b1d : Below w.heap.size w ((((w.alloc (.cells #[.int .i64 1, .string ⟨#[239, 187, 191]⟩] 61)).drewN nq0).alloc (.cells #[.int .i64 2, .string ⟨#[255, 254]⟩] 61)).drewN nq1) := below_drewN b1 nq1
  go_wp2
  rw [rounds_succ]
  go_wp2
  have b2 : Below w.heap.size w (((((w.alloc (.cells #[.int .i64 1, .string ⟨#[239, 187, 191]⟩] 61)).drewN nq0).alloc (.cells #[.int .i64 2, .string ⟨#[255, 254]⟩] 61)).drewN nq1).alloc (.cells #[.int .i64 3, .string ⟨#[254, 255]⟩] 61)) := b1d.alloc (by go_size) _
  have c2 := fun q => hcv ((((((w.alloc (.cells #[.int .i64 1, .string ⟨#[239, 187, 191]⟩] 61)).drewN nq0).alloc (.cells #[.int .i64 2, .string ⟨#[255, 254]⟩] 61)).drewN nq1).alloc (.cells #[.int .i64 3, .string ⟨#[254, 255]⟩] 61)).drewN q) (below_drewN b2 q)
  go_quiet (fail)
  obtain ⟨nq2, hq2⟩ : ∃ q, q = nq := ⟨_, rfl⟩
  rw [← hq2]
  clear hq2 nq
  have b2d : Below w.heap.size w ((((((w.alloc (.cells #[.int .i64 1, .string ⟨#[239, 187, 191]⟩] 61)).drewN nq0).alloc (.cells #[.int .i64 2, .string ⟨#[255, 254]⟩] 61)).drewN nq1).alloc (.cells #[.int .i64 3, .string ⟨#[254, 255]⟩] 61)).drewN nq2) := below_drewN b2 nq2
  go_wp2
  rw [rounds_succ]
  go_wp2
  go_ret
  exact ⟨rfl, b2d⟩

set_option maxHeartbeats 1000000 in
theorem sure2T (A : Option Addr) (c : Nat) (w : World) (hm : Marks w) (s : ByteArray) (hcv : ∀ w', Below w.heap.size w w' → (convert 22 9 (.slice A 2 c)).run Tryd.prog w' = .ok (.string s) w') (e0 : (s.toList == (ByteArray.extract ⟨#[239, 187, 191]⟩ 0 2).toList) = true) :
    Calls Tryd.prog 32 #[.slice A 2 c] w fun e w' => e = .returned (.bool false) ∧ Below w.heap.size w w' := by
  obtain ⟨m0, m1, m2, m3, m4, m5, m6⟩ := hm
  have i0 := ix0
  go_enter Tryd.func32, Tryd.ntmps32
  go_wp2
  go_rounds 4
  have b0 : Below w.heap.size w (w.alloc (.cells #[.int .i64 1, .string ⟨#[239, 187, 191]⟩] 61)) := (Below.refl w.heap.size w).alloc (by go_size) _
  have c0 := fun q => hcv ((w.alloc (.cells #[.int .i64 1, .string ⟨#[239, 187, 191]⟩] 61)).drewN q) (below_drewN b0 q)
  go_quiet (fail)
  go_wp2
  go_ret
  exact ⟨rfl, below_drewN b0 nq⟩

set_option maxHeartbeats 1000000 in
theorem sure2FGG (A : Option Addr) (c : Nat) (w : World) (hm : Marks w) (s : ByteArray) (hcv : ∀ w', Below w.heap.size w w' → (convert 22 9 (.slice A 2 c)).run Tryd.prog w' = .ok (.string s) w') (e0 : (s.toList == (ByteArray.extract ⟨#[239, 187, 191]⟩ 0 2).toList) = false) :
    Calls Tryd.prog 32 #[.slice A 2 c] w fun e w' => e = .returned (.bool true) ∧ Below w.heap.size w w' := by
  obtain ⟨m0, m1, m2, m3, m4, m5, m6⟩ := hm
  have i0 := ix0
  have i1 := ix1
  have i2 := ix2
  go_enter Tryd.func32, Tryd.ntmps32
  go_wp2
  go_rounds 4
  have b0 : Below w.heap.size w (w.alloc (.cells #[.int .i64 1, .string ⟨#[239, 187, 191]⟩] 61)) := (Below.refl w.heap.size w).alloc (by go_size) _
  have c0 := fun q => hcv ((w.alloc (.cells #[.int .i64 1, .string ⟨#[239, 187, 191]⟩] 61)).drewN q) (below_drewN b0 q)
  go_quiet (fail)
  obtain ⟨nq0, hq0⟩ : ∃ q, q = nq := ⟨_, rfl⟩
  rw [← hq0]
  clear hq0 nq
  have b0d : Below w.heap.size w ((w.alloc (.cells #[.int .i64 1, .string ⟨#[239, 187, 191]⟩] 61)).drewN nq0) := below_drewN b0 nq0
  go_wp2
  rw [rounds_succ]
  go_wp2
  have b1 : Below w.heap.size w (((w.alloc (.cells #[.int .i64 1, .string ⟨#[239, 187, 191]⟩] 61)).drewN nq0).alloc (.cells #[.int .i64 2, .string ⟨#[255, 254]⟩] 61)) := b0d.alloc (by go_size) _
  go_quiet (fail)
  obtain ⟨nq1, hq1⟩ : ∃ q, q = nq := ⟨_, rfl⟩
  rw [← hq1]
  clear hq1 nq
  have b1d : Below w.heap.size w ((((w.alloc (.cells #[.int .i64 1, .string ⟨#[239, 187, 191]⟩] 61)).drewN nq0).alloc (.cells #[.int .i64 2, .string ⟨#[255, 254]⟩] 61)).drewN nq1) := below_drewN b1 nq1
  go_wp2
  rw [rounds_succ]
  go_wp2
  have b2 : Below w.heap.size w (((((w.alloc (.cells #[.int .i64 1, .string ⟨#[239, 187, 191]⟩] 61)).drewN nq0).alloc (.cells #[.int .i64 2, .string ⟨#[255, 254]⟩] 61)).drewN nq1).alloc (.cells #[.int .i64 3, .string ⟨#[254, 255]⟩] 61)) := b1d.alloc (by go_size) _
  go_quiet (fail)
  obtain ⟨nq2, hq2⟩ : ∃ q, q = nq := ⟨_, rfl⟩
  rw [← hq2]
  clear hq2 nq
  have b2d : Below w.heap.size w ((((((w.alloc (.cells #[.int .i64 1, .string ⟨#[239, 187, 191]⟩] 61)).drewN nq0).alloc (.cells #[.int .i64 2, .string ⟨#[255, 254]⟩] 61)).drewN nq1).alloc (.cells #[.int .i64 3, .string ⟨#[254, 255]⟩] 61)).drewN nq2) := below_drewN b2 nq2
  go_wp2
  rw [rounds_succ]
  go_wp2
  go_ret
  exact ⟨rfl, b2d⟩

set_option maxHeartbeats 1000000 in
theorem sure3GGG (A : Option Addr) (c : Nat) (w : World) (hm : Marks w) (n : Nat) (hn : 3 ≤ n) (hnm : n ≤ 9223372036854775807)  :
    Calls Tryd.prog 32 #[.slice A n c] w fun e w' => e = .returned (.bool true) ∧ Below w.heap.size w w' := by
  obtain ⟨m0, m1, m2, m3, m4, m5, m6⟩ := hm
  have i0 := ix0
  have i1 := ix1
  have i2 := ix2
  have hd3 : decide ((n : Int) < (3 : Int)) = false := by simp; omega
  have hd2 : decide ((n : Int) < (2 : Int)) = false := by simp; omega
  go_enter Tryd.func32, Tryd.ntmps32
  go_wp2
  go_rounds 4
  have b0 : Below w.heap.size w (w.alloc (.cells #[.int .i64 1, .string ⟨#[239, 187, 191]⟩] 61)) := (Below.refl w.heap.size w).alloc (by go_size) _
  go_quiet (fail)
  obtain ⟨nq0, hq0⟩ : ∃ q, q = nq := ⟨_, rfl⟩
  rw [← hq0]
  clear hq0 nq
  have b0d : Below w.heap.size w ((w.alloc (.cells #[.int .i64 1, .string ⟨#[239, 187, 191]⟩] 61)).drewN nq0) := below_drewN b0 nq0
  go_wp2
  rw [rounds_succ]
  go_wp2
  have b1 : Below w.heap.size w (((w.alloc (.cells #[.int .i64 1, .string ⟨#[239, 187, 191]⟩] 61)).drewN nq0).alloc (.cells #[.int .i64 2, .string ⟨#[255, 254]⟩] 61)) := b0d.alloc (by go_size) _
  go_quiet (fail)
  obtain ⟨nq1, hq1⟩ : ∃ q, q = nq := ⟨_, rfl⟩
  rw [← hq1]
  clear hq1 nq
  have b1d : Below w.heap.size w ((((w.alloc (.cells #[.int .i64 1, .string ⟨#[239, 187, 191]⟩] 61)).drewN nq0).alloc (.cells #[.int .i64 2, .string ⟨#[255, 254]⟩] 61)).drewN nq1) := below_drewN b1 nq1
  go_wp2
  rw [rounds_succ]
  go_wp2
  have b2 : Below w.heap.size w (((((w.alloc (.cells #[.int .i64 1, .string ⟨#[239, 187, 191]⟩] 61)).drewN nq0).alloc (.cells #[.int .i64 2, .string ⟨#[255, 254]⟩] 61)).drewN nq1).alloc (.cells #[.int .i64 3, .string ⟨#[254, 255]⟩] 61)) := b1d.alloc (by go_size) _
  go_quiet (fail)
  obtain ⟨nq2, hq2⟩ : ∃ q, q = nq := ⟨_, rfl⟩
  rw [← hq2]
  clear hq2 nq
  have b2d : Below w.heap.size w ((((((w.alloc (.cells #[.int .i64 1, .string ⟨#[239, 187, 191]⟩] 61)).drewN nq0).alloc (.cells #[.int .i64 2, .string ⟨#[255, 254]⟩] 61)).drewN nq1).alloc (.cells #[.int .i64 3, .string ⟨#[254, 255]⟩] 61)).drewN nq2) := below_drewN b2 nq2
  go_wp2
  rw [rounds_succ]
  go_wp2
  go_ret
  exact ⟨rfl, b2d⟩
end Go.Proofs.YtoojfjealncddaaDoor
