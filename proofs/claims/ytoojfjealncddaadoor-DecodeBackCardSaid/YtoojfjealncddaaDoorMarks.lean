/- The marks as they are laid; Mark, way by way. -/
import Derived.Test.YtoojfjealncddaaDoorNums
import Derived.Test.YtoojfjealncddaaDoorStr
import Derived.Deep.QuietTactic
import Derived.BigQuiet
namespace Go.Proofs.YtoojfjealncddaaDoor
open Go Go.RowKit
set_option linter.unusedVariables false

/-- The package-level marks, cell by cell. -/
def Marks (w : World) : Prop :=
  0 < w.heap.size ∧ w.cell? ⟨0, 0, none⟩ = some (.int .i64 1) ∧ w.cell? ⟨0, 1, none⟩ = some (.string ⟨#[239, 187, 191]⟩) ∧
  w.cell? ⟨0, 2, none⟩ = some (.int .i64 2) ∧ w.cell? ⟨0, 3, none⟩ = some (.string ⟨#[255, 254]⟩) ∧
  w.cell? ⟨0, 4, none⟩ = some (.int .i64 3) ∧ w.cell? ⟨0, 5, none⟩ = some (.string ⟨#[254, 255]⟩)
theorem Marks.below {w w' : World} (h : Marks w) {B : Nat} (hb : Below B w w') (hB : w.heap.size ≤ B) : Marks w' := by
  obtain ⟨h0, h1, h2, h3, h4, h5, h6⟩ := h
  have h0' : 0 < B := Nat.lt_of_lt_of_le h0 hB
  have e : ∀ j, w'.cell? ⟨0, j, none⟩ = w.cell? ⟨0, j, none⟩ := fun j => hb.cell (p := ⟨0, j, none⟩) h0'
  exact ⟨Nat.lt_of_lt_of_le h0 hb.size, by rw [e, h1], by rw [e, h2], by rw [e, h3], by rw [e, h4], by rw [e, h5], by rw [e, h6]⟩


theorem ix0 (w : World) : (Instr.index 62 (.agg #[.int .i64 1, .string ⟨#[239, 187, 191]⟩, .int .i64 2, .string ⟨#[255, 254]⟩, .int .i64 3, .string ⟨#[254, 255]⟩]) (.int .i64 0)).run Tryd.prog w = .ok (.agg #[.int .i64 1, .string ⟨#[239, 187, 191]⟩]) w := by kernel_rfl
theorem ix1 (w : World) : (Instr.index 62 (.agg #[.int .i64 1, .string ⟨#[239, 187, 191]⟩, .int .i64 2, .string ⟨#[255, 254]⟩, .int .i64 3, .string ⟨#[254, 255]⟩]) (.int .i64 1)).run Tryd.prog w = .ok (.agg #[.int .i64 2, .string ⟨#[255, 254]⟩]) w := by kernel_rfl
theorem ix2 (w : World) : (Instr.index 62 (.agg #[.int .i64 1, .string ⟨#[239, 187, 191]⟩, .int .i64 2, .string ⟨#[255, 254]⟩, .int .i64 3, .string ⟨#[254, 255]⟩]) (.int .i64 2)).run Tryd.prog w = .ok (.agg #[.int .i64 3, .string ⟨#[254, 255]⟩]) w := by kernel_rfl

set_option maxHeartbeats 1000000 in
theorem markT (b o : Nat) (n c : Nat) (w : World) (hm : Marks w) (hc : n ≤ c) (hcm : c ≤ 9223372036854775807) (hn : 3 ≤ n) 
    (s3 : ByteArray) (hcv3 : ∀ w', Below w.heap.size w w' → (convert 22 9 (.slice (some ⟨b, o, none⟩) 3 c)).run Tryd.prog w' = .ok (.string s3) w') (e0 : (s3.toList == [239, 187, 191]) = true) :
    Calls Tryd.prog 33 #[.slice (some ⟨b, o, none⟩) n c] w fun e w' => e = .returned (.tuple #[.int .i64 1, .int .i64 3]) ∧ Below w.heap.size w w' := by
  obtain ⟨m0, m1, m2, m3, m4, m5, m6⟩ := hm
  have i0 := ix0
  have hg3 : (3 : Int) ≤ (n : Int) := by omega
  have hg3c : (3 : Int) ≤ (c : Int) := by omega
  have hg2 : (2 : Int) ≤ (n : Int) := by omega
  have hg2c : (2 : Int) ≤ (c : Int) := by omega
  go_enter Tryd.func33, Tryd.ntmps33
  go_wp2
  go_rounds 1
  have b0 : Below w.heap.size w (w.alloc (.cells #[.int .i64 1, .string ⟨#[239, 187, 191]⟩] 61)) := (Below.refl w.heap.size w).alloc (by go_size) _
  have c0 := fun q => hcv3 ((w.alloc (.cells #[.int .i64 1, .string ⟨#[239, 187, 191]⟩] 61)).drewN q) (below_drewN b0 q)
  go_quiet (fail)
  go_wp2
  go_ret2
  exact ⟨rfl, below_drewN b0 nq⟩

set_option maxHeartbeats 1000000 in
theorem markFT (b o : Nat) (n c : Nat) (w : World) (hm : Marks w) (hc : n ≤ c) (hcm : c ≤ 9223372036854775807) (hn : 3 ≤ n) 
    (s3 : ByteArray) (hcv3 : ∀ w', Below w.heap.size w w' → (convert 22 9 (.slice (some ⟨b, o, none⟩) 3 c)).run Tryd.prog w' = .ok (.string s3) w') (e0 : (s3.toList == [239, 187, 191]) = false)
    (s2 : ByteArray) (hcv2 : ∀ w', Below w.heap.size w w' → (convert 22 9 (.slice (some ⟨b, o, none⟩) 2 c)).run Tryd.prog w' = .ok (.string s2) w') (e1 : (s2.toList == [255, 254]) = true) :
    Calls Tryd.prog 33 #[.slice (some ⟨b, o, none⟩) n c] w fun e w' => e = .returned (.tuple #[.int .i64 2, .int .i64 2]) ∧ Below w.heap.size w w' := by
  obtain ⟨m0, m1, m2, m3, m4, m5, m6⟩ := hm
  have i0 := ix0
  have i1 := ix1
  have hg3 : (3 : Int) ≤ (n : Int) := by omega
  have hg3c : (3 : Int) ≤ (c : Int) := by omega
  have hg2 : (2 : Int) ≤ (n : Int) := by omega
  have hg2c : (2 : Int) ≤ (c : Int) := by omega
  go_enter Tryd.func33, Tryd.ntmps33
  go_wp2
  go_rounds 2
  have b0 : Below w.heap.size w (w.alloc (.cells #[.int .i64 1, .string ⟨#[239, 187, 191]⟩] 61)) := (Below.refl w.heap.size w).alloc (by go_size) _
  have c0 := fun q => hcv3 ((w.alloc (.cells #[.int .i64 1, .string ⟨#[239, 187, 191]⟩] 61)).drewN q) (below_drewN b0 q)
  go_quiet (fail)
  obtain ⟨nq0, hq0⟩ : ∃ q, q = nq := ⟨_, rfl⟩
  rw [← hq0]
  clear hq0 nq
  have b0d : Below w.heap.size w ((w.alloc (.cells #[.int .i64 1, .string ⟨#[239, 187, 191]⟩] 61)).drewN nq0) := below_drewN b0 nq0
  go_wp2
  rw [rounds_succ]
  go_wp2
  have b1 : Below w.heap.size w (((w.alloc (.cells #[.int .i64 1, .string ⟨#[239, 187, 191]⟩] 61)).drewN nq0).alloc (.cells #[.int .i64 2, .string ⟨#[255, 254]⟩] 61)) := b0d.alloc (by go_size) _
  have c1 := fun q => hcv2 ((((w.alloc (.cells #[.int .i64 1, .string ⟨#[239, 187, 191]⟩] 61)).drewN nq0).alloc (.cells #[.int .i64 2, .string ⟨#[255, 254]⟩] 61)).drewN q) (below_drewN b1 q)
  go_quiet (fail)
  go_wp2
  go_ret2
  exact ⟨rfl, below_drewN b1 nq⟩

set_option maxHeartbeats 1000000 in
theorem markFFT (b o : Nat) (n c : Nat) (w : World) (hm : Marks w) (hc : n ≤ c) (hcm : c ≤ 9223372036854775807) (hn : 3 ≤ n) 
    (s3 : ByteArray) (hcv3 : ∀ w', Below w.heap.size w w' → (convert 22 9 (.slice (some ⟨b, o, none⟩) 3 c)).run Tryd.prog w' = .ok (.string s3) w') (e0 : (s3.toList == [239, 187, 191]) = false)
    (s2 : ByteArray) (hcv2 : ∀ w', Below w.heap.size w w' → (convert 22 9 (.slice (some ⟨b, o, none⟩) 2 c)).run Tryd.prog w' = .ok (.string s2) w') (e1 : (s2.toList == [255, 254]) = false) (e2 : (s2.toList == [254, 255]) = true) :
    Calls Tryd.prog 33 #[.slice (some ⟨b, o, none⟩) n c] w fun e w' => e = .returned (.tuple #[.int .i64 3, .int .i64 2]) ∧ Below w.heap.size w w' := by
  obtain ⟨m0, m1, m2, m3, m4, m5, m6⟩ := hm
  have i0 := ix0
  have i1 := ix1
  have i2 := ix2
  have hg3 : (3 : Int) ≤ (n : Int) := by omega
  have hg3c : (3 : Int) ≤ (c : Int) := by omega
  have hg2 : (2 : Int) ≤ (n : Int) := by omega
  have hg2c : (2 : Int) ≤ (c : Int) := by omega
  go_enter Tryd.func33, Tryd.ntmps33
  go_wp2
  go_rounds 3
  have b0 : Below w.heap.size w (w.alloc (.cells #[.int .i64 1, .string ⟨#[239, 187, 191]⟩] 61)) := (Below.refl w.heap.size w).alloc (by go_size) _
  have c0 := fun q => hcv3 ((w.alloc (.cells #[.int .i64 1, .string ⟨#[239, 187, 191]⟩] 61)).drewN q) (below_drewN b0 q)
  go_quiet (fail)
  obtain ⟨nq0, hq0⟩ : ∃ q, q = nq := ⟨_, rfl⟩
  rw [← hq0]
  clear hq0 nq
  have b0d : Below w.heap.size w ((w.alloc (.cells #[.int .i64 1, .string ⟨#[239, 187, 191]⟩] 61)).drewN nq0) := below_drewN b0 nq0
  go_wp2
  rw [rounds_succ]
  go_wp2
  have b1 : Below w.heap.size w (((w.alloc (.cells #[.int .i64 1, .string ⟨#[239, 187, 191]⟩] 61)).drewN nq0).alloc (.cells #[.int .i64 2, .string ⟨#[255, 254]⟩] 61)) := b0d.alloc (by go_size) _
  have c1 := fun q => hcv2 ((((w.alloc (.cells #[.int .i64 1, .string ⟨#[239, 187, 191]⟩] 61)).drewN nq0).alloc (.cells #[.int .i64 2, .string ⟨#[255, 254]⟩] 61)).drewN q) (below_drewN b1 q)
  go_quiet (fail)
  obtain ⟨nq1, hq1⟩ : ∃ q, q = nq := ⟨_, rfl⟩
  rw [← hq1]
  clear hq1 nq
  have b1d : Below w.heap.size w ((((w.alloc (.cells #[.int .i64 1, .string ⟨#[239, 187, 191]⟩] 61)).drewN nq0).alloc (.cells #[.int .i64 2, .string ⟨#[255, 254]⟩] 61)).drewN nq1) := below_drewN b1 nq1
  go_wp2
  rw [rounds_succ]
  go_wp2
  have b2 : Below w.heap.size w (((((w.alloc (.cells #[.int .i64 1, .string ⟨#[239, 187, 191]⟩] 61)).drewN nq0).alloc (.cells #[.int .i64 2, .string ⟨#[255, 254]⟩] 61)).drewN nq1).alloc (.cells #[.int .i64 3, .string ⟨#[254, 255]⟩] 61)) := b1d.alloc (by go_size) _
  have c2 := fun q => hcv2 ((((((w.alloc (.cells #[.int .i64 1, .string ⟨#[239, 187, 191]⟩] 61)).drewN nq0).alloc (.cells #[.int .i64 2, .string ⟨#[255, 254]⟩] 61)).drewN nq1).alloc (.cells #[.int .i64 3, .string ⟨#[254, 255]⟩] 61)).drewN q) (below_drewN b2 q)
  go_quiet (fail)
  go_wp2
  go_ret2
  exact ⟨rfl, below_drewN b2 nq⟩

set_option maxHeartbeats 1000000 in
theorem markFFF (b o : Nat) (n c : Nat) (w : World) (hm : Marks w) (hc : n ≤ c) (hcm : c ≤ 9223372036854775807) (hn : 3 ≤ n) 
    (s3 : ByteArray) (hcv3 : ∀ w', Below w.heap.size w w' → (convert 22 9 (.slice (some ⟨b, o, none⟩) 3 c)).run Tryd.prog w' = .ok (.string s3) w') (e0 : (s3.toList == [239, 187, 191]) = false)
    (s2 : ByteArray) (hcv2 : ∀ w', Below w.heap.size w w' → (convert 22 9 (.slice (some ⟨b, o, none⟩) 2 c)).run Tryd.prog w' = .ok (.string s2) w') (e1 : (s2.toList == [255, 254]) = false) (e2 : (s2.toList == [254, 255]) = false) :
    Calls Tryd.prog 33 #[.slice (some ⟨b, o, none⟩) n c] w fun e w' => e = .returned (.tuple #[.int .i64 0, .int .i64 0]) ∧ Below w.heap.size w w' := by
  obtain ⟨m0, m1, m2, m3, m4, m5, m6⟩ := hm
  have i0 := ix0
  have i1 := ix1
  have i2 := ix2
  have hg3 : (3 : Int) ≤ (n : Int) := by omega
  have hg3c : (3 : Int) ≤ (c : Int) := by omega
  have hg2 : (2 : Int) ≤ (n : Int) := by omega
  have hg2c : (2 : Int) ≤ (c : Int) := by omega
  go_enter Tryd.func33, Tryd.ntmps33
  go_wp2
  go_rounds 4
  have b0 : Below w.heap.size w (w.alloc (.cells #[.int .i64 1, .string ⟨#[239, 187, 191]⟩] 61)) := (Below.refl w.heap.size w).alloc (by go_size) _
  have c0 := fun q => hcv3 ((w.alloc (.cells #[.int .i64 1, .string ⟨#[239, 187, 191]⟩] 61)).drewN q) (below_drewN b0 q)
  go_quiet (fail)
  obtain ⟨nq0, hq0⟩ : ∃ q, q = nq := ⟨_, rfl⟩
  rw [← hq0]
  clear hq0 nq
  have b0d : Below w.heap.size w ((w.alloc (.cells #[.int .i64 1, .string ⟨#[239, 187, 191]⟩] 61)).drewN nq0) := below_drewN b0 nq0
  go_wp2
  rw [rounds_succ]
  go_wp2
  have b1 : Below w.heap.size w (((w.alloc (.cells #[.int .i64 1, .string ⟨#[239, 187, 191]⟩] 61)).drewN nq0).alloc (.cells #[.int .i64 2, .string ⟨#[255, 254]⟩] 61)) := b0d.alloc (by go_size) _
  have c1 := fun q => hcv2 ((((w.alloc (.cells #[.int .i64 1, .string ⟨#[239, 187, 191]⟩] 61)).drewN nq0).alloc (.cells #[.int .i64 2, .string ⟨#[255, 254]⟩] 61)).drewN q) (below_drewN b1 q)
  go_quiet (fail)
  obtain ⟨nq1, hq1⟩ : ∃ q, q = nq := ⟨_, rfl⟩
  rw [← hq1]
  clear hq1 nq
  have b1d : Below w.heap.size w ((((w.alloc (.cells #[.int .i64 1, .string ⟨#[239, 187, 191]⟩] 61)).drewN nq0).alloc (.cells #[.int .i64 2, .string ⟨#[255, 254]⟩] 61)).drewN nq1) := below_drewN b1 nq1
  go_wp2
  rw [rounds_succ]
  go_wp2
  have b2 : Below w.heap.size w (((((w.alloc (.cells #[.int .i64 1, .string ⟨#[239, 187, 191]⟩] 61)).drewN nq0).alloc (.cells #[.int .i64 2, .string ⟨#[255, 254]⟩] 61)).drewN nq1).alloc (.cells #[.int .i64 3, .string ⟨#[254, 255]⟩] 61)) := b1d.alloc (by go_size) _
  have c2 := fun q => hcv2 ((((((w.alloc (.cells #[.int .i64 1, .string ⟨#[239, 187, 191]⟩] 61)).drewN nq0).alloc (.cells #[.int .i64 2, .string ⟨#[255, 254]⟩] 61)).drewN nq1).alloc (.cells #[.int .i64 3, .string ⟨#[254, 255]⟩] 61)).drewN q) (below_drewN b2 q)
  go_quiet (fail)
  obtain ⟨nq2, hq2⟩ : ∃ q, q = nq := ⟨_, rfl⟩
  rw [← hq2]
  clear hq2 nq
  have b2d : Below w.heap.size w ((((((w.alloc (.cells #[.int .i64 1, .string ⟨#[239, 187, 191]⟩] 61)).drewN nq0).alloc (.cells #[.int .i64 2, .string ⟨#[255, 254]⟩] 61)).drewN nq1).alloc (.cells #[.int .i64 3, .string ⟨#[254, 255]⟩] 61)).drewN nq2) := below_drewN b2 nq2
  go_wp2
  rw [rounds_succ]
  go_wp2
  go_ret2
  exact ⟨rfl, b2d⟩

set_option maxHeartbeats 1000000 in
theorem markGT (b o : Nat) (n c : Nat) (w : World) (hm : Marks w) (hc : n ≤ c) (hcm : c ≤ 9223372036854775807) (hn : n = 2) 
    (s2 : ByteArray) (hcv2 : ∀ w', Below w.heap.size w w' → (convert 22 9 (.slice (some ⟨b, o, none⟩) 2 c)).run Tryd.prog w' = .ok (.string s2) w') (e1 : (s2.toList == [255, 254]) = true) :
    Calls Tryd.prog 33 #[.slice (some ⟨b, o, none⟩) n c] w fun e w' => e = .returned (.tuple #[.int .i64 2, .int .i64 2]) ∧ Below w.heap.size w w' := by
  obtain ⟨m0, m1, m2, m3, m4, m5, m6⟩ := hm
  have i0 := ix0
  have i1 := ix1
  subst hn
  have hg2c : (2 : Int) ≤ (c : Int) := by omega
  go_enter Tryd.func33, Tryd.ntmps33
  go_wp2
  go_rounds 2
  have b0 : Below w.heap.size w (w.alloc (.cells #[.int .i64 1, .string ⟨#[239, 187, 191]⟩] 61)) := (Below.refl w.heap.size w).alloc (by go_size) _
  go_quiet (fail)
  obtain ⟨nq0, hq0⟩ : ∃ q, q = nq := ⟨_, rfl⟩
  rw [← hq0]
  clear hq0 nq
  have b0d : Below w.heap.size w ((w.alloc (.cells #[.int .i64 1, .string ⟨#[239, 187, 191]⟩] 61)).drewN nq0) := below_drewN b0 nq0
  go_wp2
  rw [rounds_succ]
  go_wp2
  have b1 : Below w.heap.size w (((w.alloc (.cells #[.int .i64 1, .string ⟨#[239, 187, 191]⟩] 61)).drewN nq0).alloc (.cells #[.int .i64 2, .string ⟨#[255, 254]⟩] 61)) := b0d.alloc (by go_size) _
  have c1 := fun q => hcv2 ((((w.alloc (.cells #[.int .i64 1, .string ⟨#[239, 187, 191]⟩] 61)).drewN nq0).alloc (.cells #[.int .i64 2, .string ⟨#[255, 254]⟩] 61)).drewN q) (below_drewN b1 q)
  go_quiet (fail)
  go_wp2
  go_ret2
  exact ⟨rfl, below_drewN b1 nq⟩

set_option maxHeartbeats 1000000 in
theorem markGFT (b o : Nat) (n c : Nat) (w : World) (hm : Marks w) (hc : n ≤ c) (hcm : c ≤ 9223372036854775807) (hn : n = 2) 
    (s2 : ByteArray) (hcv2 : ∀ w', Below w.heap.size w w' → (convert 22 9 (.slice (some ⟨b, o, none⟩) 2 c)).run Tryd.prog w' = .ok (.string s2) w') (e1 : (s2.toList == [255, 254]) = false) (e2 : (s2.toList == [254, 255]) = true) :
    Calls Tryd.prog 33 #[.slice (some ⟨b, o, none⟩) n c] w fun e w' => e = .returned (.tuple #[.int .i64 3, .int .i64 2]) ∧ Below w.heap.size w w' := by
  obtain ⟨m0, m1, m2, m3, m4, m5, m6⟩ := hm
  have i0 := ix0
  have i1 := ix1
  have i2 := ix2
  subst hn
  have hg2c : (2 : Int) ≤ (c : Int) := by omega
  go_enter Tryd.func33, Tryd.ntmps33
  go_wp2
  go_rounds 3
  have b0 : Below w.heap.size w (w.alloc (.cells #[.int .i64 1, .string ⟨#[239, 187, 191]⟩] 61)) := (Below.refl w.heap.size w).alloc (by go_size) _
  go_quiet (fail)
  obtain ⟨nq0, hq0⟩ : ∃ q, q = nq := ⟨_, rfl⟩
  rw [← hq0]
  clear hq0 nq
  have b0d : Below w.heap.size w ((w.alloc (.cells #[.int .i64 1, .string ⟨#[239, 187, 191]⟩] 61)).drewN nq0) := below_drewN b0 nq0
  go_wp2
  rw [rounds_succ]
  go_wp2
  have b1 : Below w.heap.size w (((w.alloc (.cells #[.int .i64 1, .string ⟨#[239, 187, 191]⟩] 61)).drewN nq0).alloc (.cells #[.int .i64 2, .string ⟨#[255, 254]⟩] 61)) := b0d.alloc (by go_size) _
  have c1 := fun q => hcv2 ((((w.alloc (.cells #[.int .i64 1, .string ⟨#[239, 187, 191]⟩] 61)).drewN nq0).alloc (.cells #[.int .i64 2, .string ⟨#[255, 254]⟩] 61)).drewN q) (below_drewN b1 q)
  go_quiet (fail)
  obtain ⟨nq1, hq1⟩ : ∃ q, q = nq := ⟨_, rfl⟩
  rw [← hq1]
  clear hq1 nq
  have b1d : Below w.heap.size w ((((w.alloc (.cells #[.int .i64 1, .string ⟨#[239, 187, 191]⟩] 61)).drewN nq0).alloc (.cells #[.int .i64 2, .string ⟨#[255, 254]⟩] 61)).drewN nq1) := below_drewN b1 nq1
  go_wp2
  rw [rounds_succ]
  go_wp2
  have b2 : Below w.heap.size w (((((w.alloc (.cells #[.int .i64 1, .string ⟨#[239, 187, 191]⟩] 61)).drewN nq0).alloc (.cells #[.int .i64 2, .string ⟨#[255, 254]⟩] 61)).drewN nq1).alloc (.cells #[.int .i64 3, .string ⟨#[254, 255]⟩] 61)) := b1d.alloc (by go_size) _
  have c2 := fun q => hcv2 ((((((w.alloc (.cells #[.int .i64 1, .string ⟨#[239, 187, 191]⟩] 61)).drewN nq0).alloc (.cells #[.int .i64 2, .string ⟨#[255, 254]⟩] 61)).drewN nq1).alloc (.cells #[.int .i64 3, .string ⟨#[254, 255]⟩] 61)).drewN q) (below_drewN b2 q)
  go_quiet (fail)
  go_wp2
  go_ret2
  exact ⟨rfl, below_drewN b2 nq⟩

set_option maxHeartbeats 1000000 in
theorem markGFF (b o : Nat) (n c : Nat) (w : World) (hm : Marks w) (hc : n ≤ c) (hcm : c ≤ 9223372036854775807) (hn : n = 2) 
    (s2 : ByteArray) (hcv2 : ∀ w', Below w.heap.size w w' → (convert 22 9 (.slice (some ⟨b, o, none⟩) 2 c)).run Tryd.prog w' = .ok (.string s2) w') (e1 : (s2.toList == [255, 254]) = false) (e2 : (s2.toList == [254, 255]) = false) :
    Calls Tryd.prog 33 #[.slice (some ⟨b, o, none⟩) n c] w fun e w' => e = .returned (.tuple #[.int .i64 0, .int .i64 0]) ∧ Below w.heap.size w w' := by
  obtain ⟨m0, m1, m2, m3, m4, m5, m6⟩ := hm
  have i0 := ix0
  have i1 := ix1
  have i2 := ix2
  subst hn
  have hg2c : (2 : Int) ≤ (c : Int) := by omega
  go_enter Tryd.func33, Tryd.ntmps33
  go_wp2
  go_rounds 4
  have b0 : Below w.heap.size w (w.alloc (.cells #[.int .i64 1, .string ⟨#[239, 187, 191]⟩] 61)) := (Below.refl w.heap.size w).alloc (by go_size) _
  go_quiet (fail)
  obtain ⟨nq0, hq0⟩ : ∃ q, q = nq := ⟨_, rfl⟩
  rw [← hq0]
  clear hq0 nq
  have b0d : Below w.heap.size w ((w.alloc (.cells #[.int .i64 1, .string ⟨#[239, 187, 191]⟩] 61)).drewN nq0) := below_drewN b0 nq0
  go_wp2
  rw [rounds_succ]
  go_wp2
  have b1 : Below w.heap.size w (((w.alloc (.cells #[.int .i64 1, .string ⟨#[239, 187, 191]⟩] 61)).drewN nq0).alloc (.cells #[.int .i64 2, .string ⟨#[255, 254]⟩] 61)) := b0d.alloc (by go_size) _
  have c1 := fun q => hcv2 ((((w.alloc (.cells #[.int .i64 1, .string ⟨#[239, 187, 191]⟩] 61)).drewN nq0).alloc (.cells #[.int .i64 2, .string ⟨#[255, 254]⟩] 61)).drewN q) (below_drewN b1 q)
  go_quiet (fail)
  obtain ⟨nq1, hq1⟩ : ∃ q, q = nq := ⟨_, rfl⟩
  rw [← hq1]
  clear hq1 nq
  have b1d : Below w.heap.size w ((((w.alloc (.cells #[.int .i64 1, .string ⟨#[239, 187, 191]⟩] 61)).drewN nq0).alloc (.cells #[.int .i64 2, .string ⟨#[255, 254]⟩] 61)).drewN nq1) := below_drewN b1 nq1
  go_wp2
  rw [rounds_succ]
  go_wp2
  have b2 : Below w.heap.size w (((((w.alloc (.cells #[.int .i64 1, .string ⟨#[239, 187, 191]⟩] 61)).drewN nq0).alloc (.cells #[.int .i64 2, .string ⟨#[255, 254]⟩] 61)).drewN nq1).alloc (.cells #[.int .i64 3, .string ⟨#[254, 255]⟩] 61)) := b1d.alloc (by go_size) _
  have c2 := fun q => hcv2 ((((((w.alloc (.cells #[.int .i64 1, .string ⟨#[239, 187, 191]⟩] 61)).drewN nq0).alloc (.cells #[.int .i64 2, .string ⟨#[255, 254]⟩] 61)).drewN nq1).alloc (.cells #[.int .i64 3, .string ⟨#[254, 255]⟩] 61)).drewN q) (below_drewN b2 q)
  go_quiet (fail)
  obtain ⟨nq2, hq2⟩ : ∃ q, q = nq := ⟨_, rfl⟩
  rw [← hq2]
  clear hq2 nq
  have b2d : Below w.heap.size w ((((((w.alloc (.cells #[.int .i64 1, .string ⟨#[239, 187, 191]⟩] 61)).drewN nq0).alloc (.cells #[.int .i64 2, .string ⟨#[255, 254]⟩] 61)).drewN nq1).alloc (.cells #[.int .i64 3, .string ⟨#[254, 255]⟩] 61)).drewN nq2) := below_drewN b2 nq2
  go_wp2
  rw [rounds_succ]
  go_wp2
  go_ret2
  exact ⟨rfl, b2d⟩

set_option maxHeartbeats 1000000 in
theorem markGGG (A : Option Addr) (n c : Nat) (w : World) (hm : Marks w) (hc : n ≤ c) (hcm : c ≤ 9223372036854775807) (hn : n < 2)  :
    Calls Tryd.prog 33 #[.slice A n c] w fun e w' => e = .returned (.tuple #[.int .i64 0, .int .i64 0]) ∧ Below w.heap.size w w' := by
  obtain ⟨m0, m1, m2, m3, m4, m5, m6⟩ := hm
  have i0 := ix0
  have i1 := ix1
  have i2 := ix2
  have hd3 : decide ((3 : Int) ≤ (n : Int)) = false := by simp; omega
  have hd2 : decide ((2 : Int) ≤ (n : Int)) = false := by simp; omega
  go_enter Tryd.func33, Tryd.ntmps33
  go_wp2
  go_rounds 4
  have b0 : Below w.heap.size w (w.alloc (.cells #[.int .i64 1, .string ⟨#[239, 187, 191]⟩] 61)) := (Below.refl w.heap.size w).alloc (by go_size) _
  go_quiet (fail)
  obtain ⟨nq0, hq0⟩ : ∃ q, q = nq := ⟨_, rfl⟩
  rw [← hq0]
  clear hq0 nq
  have b0d : Below w.heap.size w ((w.alloc (.cells #[.int .i64 1, .string ⟨#[239, 187, 191]⟩] 61)).drewN nq0) := below_drewN b0 nq0
  go_wp2
  rw [rounds_succ]
  go_wp2
  have b1 : Below w.heap.size w (((w.alloc (.cells #[.int .i64 1, .string ⟨#[239, 187, 191]⟩] 61)).drewN nq0).alloc (.cells #[.int .i64 2, .string ⟨#[255, 254]⟩] 61)) := b0d.alloc (by go_size) _
  go_quiet (fail)
  obtain ⟨nq1, hq1⟩ : ∃ q, q = nq := ⟨_, rfl⟩
  rw [← hq1]
  clear hq1 nq
  have b1d : Below w.heap.size w ((((w.alloc (.cells #[.int .i64 1, .string ⟨#[239, 187, 191]⟩] 61)).drewN nq0).alloc (.cells #[.int .i64 2, .string ⟨#[255, 254]⟩] 61)).drewN nq1) := below_drewN b1 nq1
  go_wp2
  rw [rounds_succ]
  go_wp2
  have b2 : Below w.heap.size w (((((w.alloc (.cells #[.int .i64 1, .string ⟨#[239, 187, 191]⟩] 61)).drewN nq0).alloc (.cells #[.int .i64 2, .string ⟨#[255, 254]⟩] 61)).drewN nq1).alloc (.cells #[.int .i64 3, .string ⟨#[254, 255]⟩] 61)) := b1d.alloc (by go_size) _
  go_quiet (fail)
  obtain ⟨nq2, hq2⟩ : ∃ q, q = nq := ⟨_, rfl⟩
  rw [← hq2]
  clear hq2 nq
  have b2d : Below w.heap.size w ((((((w.alloc (.cells #[.int .i64 1, .string ⟨#[239, 187, 191]⟩] 61)).drewN nq0).alloc (.cells #[.int .i64 2, .string ⟨#[255, 254]⟩] 61)).drewN nq1).alloc (.cells #[.int .i64 3, .string ⟨#[254, 255]⟩] 61)).drewN nq2) := below_drewN b2 nq2
  go_wp2
  rw [rounds_succ]
  go_wp2
  go_ret2
  exact ⟨rfl, b2d⟩
end Go.Proofs.YtoojfjealncddaaDoor
