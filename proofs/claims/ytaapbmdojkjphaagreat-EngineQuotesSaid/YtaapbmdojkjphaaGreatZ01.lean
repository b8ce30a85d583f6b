/- Texts. -/
import Derived.Laws.BytesArg
import Derived.IntWalk
import Derived.Laws.BitsLemmas
import Derived.Test.YtaapbmdojkjphaaGreatRows
import Derived.WalkKit
import Derived.ProofKit
import Derived.OpenShut
import Derived.Handy
import Derived.Lib.Hide
import Derived.Below
import Derived.Laws.OwnMore
import Derived.Deep.AppendLies
import Derived.Deep.Draws
import Derived.WalkSpells
import Derived.Maps.AppendAt
import Derived.Tactics
namespace Go.Proofs.YtaapbmdojkjphaaGreat
open Go
def isI (r : Int) : Bool := decide (0 ≤ r) && decide (r ≤ 1114111) && !(decide (55296 ≤ r) && decide (r ≤ 57343))
def szI (r : Int) : Int := if isI r = false then 0 else if r < 128 then 1 else if r < 2048 then 2 else if r < 65536 then 3 else 4
def sndI (r : Int) : Int := if isI r = true then r else 65533
theorem isI_true {r : Int} : isI r = true ↔ 0 ≤ r ∧ r ≤ 1114111 ∧ ¬ (55296 ≤ r ∧ r ≤ 57343) := by
  unfold isI; simp; omega
theorem sndI_is (r : Int) : isI (sndI r) = true := by
  unfold sndI; split
  · assumption
  · decide
theorem wraps_i64 (n : Int) (h₀ : 0 ≤ n) (h₁ : n < 2 ^ 62) : IntKind.i64.wrap n = n := by rw [IntKind.wrap_i64]; omega
theorem bits_or_comm (k : IntKind) (a b : Int) : bits .or k a b = bits .or k b a := by
  simp only [bits, BitVec.or_comm]
theorem i64_and63 {x : Int} (h₀ : 0 ≤ x) (h₁ : x < 4611686018427387904) : bits .and .i64 x 63 = x % 64 := bits_mask .i64 62 (by decide) wraps_i64 6 (by decide) x h₀ h₁
theorem i64_or128 {y : Int} (h₀ : 0 ≤ y) (h₁ : y < 64) : bits .or .i64 y 128 = 128 + y := by
  rw [bits_or_comm]
  exact bits_join .i64 62 (by decide) wraps_i64 6 128 y (by decide) (by decide) (by decide) h₀ h₁ (by omega)
theorem i64_or6 {x y : Int} (hx₀ : 0 ≤ x) (hx : x % 64 = 0) (hx₁ : x < 4611686018427387904) (h₀ : 0 ≤ y) (h₁ : y < 64) : bits .or .i64 x y = x + y :=
  bits_join .i64 62 (by decide) wraps_i64 6 x y hx₀ hx hx₁ h₀ h₁ (by omega)
def putI (r : Int) : List Int :=
  if r < 128 then [r] else
  if r < 2048 then [192 + r / 64, 128 + r % 64] else
  if r < 65536 then [224 + r / 4096, 128 + r / 64 % 64, 128 + r % 64] else
  [240 + r / 262144, 128 + r / 4096 % 64, 128 + r / 64 % 64, 128 + r % 64]
end Go.Proofs.YtaapbmdojkjphaaGreat
namespace Go.Proofs.YtaapbmdojkjphaaGreat
open Go Go.RowKit
theorem is_any (r : Int) (w : World) : Calls Tryz.prog 54 #[.int .i64 r] w fun e w' => e = .returned (.bool (isI r)) ∧ w = w' := by
  by_cases h1 : 0 ≤ r <;> by_cases h2 : r ≤ 1114111 <;> by_cases h3 : 55296 ≤ r <;> by_cases h4 : r ≤ 57343
  all_goals
    go_enter Tryz.func54, Tryz.ntmps54
    go_wp2
    go_ret
    exact ⟨by first | (simp [isI, h1, h2, h3, h4]; done) | (simp [isI]; omega), rfl⟩
theorem refIs_any (r : Int) (w : World) : Calls Tryz.prog 30 #[.int .i64 r] w fun e w' => e = .returned (.bool (isI r)) ∧ w = w' := by
  by_cases h1 : 0 ≤ r <;> by_cases h2 : r ≤ 1114111 <;> by_cases h3 : 55296 ≤ r <;> by_cases h4 : r ≤ 57343
  all_goals
    go_enter Tryz.func30, Tryz.ntmps30
    go_wp2
    go_ret
    exact ⟨by first | (simp [isI, h1, h2, h3, h4]; done) | (simp [isI]; omega), rfl⟩
theorem isI_cases {r : Int} (h : isI r = true) : 0 ≤ r ∧ r ≤ 1114111 := by rw [isI_true] at h; omega
theorem size_no (r : Int) (w : World) (h : isI r = false) : Calls Tryz.prog 28 #[.int .i64 r] w fun e w' => e = .returned (.int .i64 0) ∧ w = w' := by
  have hc := is_any r w
  rw [h] at hc
  go_enter Tryz.func28, Tryz.ntmps28
  go_wp2_with (go_at_call 54; refine hc.mono ?_; rintro e w' ⟨rfl, rfl⟩)
  go_ret
  exact ⟨rfl, rfl⟩
theorem size_any (r : Int) (w : World) : Calls Tryz.prog 28 #[.int .i64 r] w fun e w' => e = .returned (.int .i64 (szI r)) ∧ w = w' := by
  rcases hb : isI r with _ | _
  · refine (size_no r w hb).mono ?_
    rintro e w' ⟨rfl, rfl⟩
    simp [szI, hb]
  · have hc := is_any r w
    rw [hb] at hc
    have HB := Lib.hid hb; clear hb
    rcases (show r < 128 ∨ (128 ≤ r ∧ r < 2048) ∨ (2048 ≤ r ∧ r < 65536) ∨ 65536 ≤ r by omega) with h1 | ⟨h1, h2⟩ | ⟨h1, h2⟩ | h1
    all_goals
      go_enter Tryz.func28, Tryz.ntmps28
      go_wp2_with (go_at_call 54; refine hc.mono ?_; rintro e w' ⟨rfl, rfl⟩)
      go_ret
      exact ⟨by simp [szI, HB.out]; omega, rfl⟩
theorem refSize_any (r : Int) (w : World) : Calls Tryz.prog 31 #[.int .i64 r] w fun e w' => e = .returned (.int .i64 (szI r)) ∧ w = w' := by
  have hc := refIs_any r w
  rcases hb : isI r with _ | _
  · rw [hb] at hc
    have HB := Lib.hid hb; clear hb
    go_enter Tryz.func31, Tryz.ntmps31
    go_wp2_with (go_at_call 30; refine hc.mono ?_; rintro e w' ⟨rfl, rfl⟩)
    go_ret
    exact ⟨by simp [szI, HB.out], rfl⟩
  · rw [hb] at hc
    have HB := Lib.hid hb; clear hb
    rcases (show r < 128 ∨ (128 ≤ r ∧ r < 2048) ∨ (2048 ≤ r ∧ r < 65536) ∨ 65536 ≤ r by omega) with h1 | ⟨h1, h2⟩ | ⟨h1, h2⟩ | h1
    all_goals
      go_enter Tryz.func31, Tryz.ntmps31
      go_wp2_with (go_at_call 30; refine hc.mono ?_; rintro e w' ⟨rfl, rfl⟩)
      go_ret
      exact ⟨by simp [szI, HB.out]; omega, rfl⟩
theorem sound_any (r : Int) (w : World) : Calls Tryz.prog 76 #[.int .i64 r] w fun e w' => e = .returned (.int .i64 (sndI r)) ∧ w = w' := by
  have hc := is_any r w
  rcases hb : isI r with _ | _
  all_goals
    rw [hb] at hc
    have HB := Lib.hid hb; clear hb
    go_enter Tryz.func76, Tryz.ntmps76
    go_wp2_with (go_at_call 54; refine hc.mono ?_; rintro e w' ⟨rfl, rfl⟩)
    go_ret
    exact ⟨by simp [sndI, HB.out], rfl⟩
theorem behind_any (r : Int) (w : World) (h0 : 0 ≤ r) (h1 : r ≤ 1114111) : Calls Tryz.prog 77 #[.int .i64 r] w fun e w' => e = .returned (.int .u8 (128 + r % 64)) ∧ w = w' := by
  have e1 := i64_and63 h0 (by omega)
  have e2 := i64_or128 (y := r % 64) (by omega) (by omega)
  have h2 : 0 ≤ r % 64 := by omega
  have h3 : r % 64 < 64 := by omega
  go_enter Tryz.func77, Tryz.ntmps77
  go_wp2
  go_ret
  exact ⟨by simp, rfl⟩
theorem ones2 (w : World) : Calls Tryz.prog 78 #[.int .i64 2] w fun e w' => e = .returned (.int .u8 192) ∧ w = w' := by
  go_enter Tryz.func78, Tryz.ntmps78
  go_wp2
  go_ret
  exact ⟨rfl, rfl⟩
theorem ones3 (w : World) : Calls Tryz.prog 78 #[.int .i64 3] w fun e w' => e = .returned (.int .u8 224) ∧ w = w' := by
  go_enter Tryz.func78, Tryz.ntmps78
  go_wp2
  go_ret
  exact ⟨rfl, rfl⟩
theorem ones4 (w : World) : Calls Tryz.prog 78 #[.int .i64 4] w fun e w' => e = .returned (.int .u8 240) ∧ w = w' := by
  go_enter Tryz.func78, Tryz.ntmps78
  go_wp2
  go_ret
  exact ⟨rfl, rfl⟩
end Go.Proofs.YtaapbmdojkjphaaGreat
namespace Go.Proofs.YtaapbmdojkjphaaGreat
open Go Go.RowKit
theorem u8_or0 {y : Int} (h₀ : 0 ≤ y) (h₁ : y < 256) : bits .or .u8 0 y = y := by
  rw [bits_join .u8 8 (by decide) wraps_u8 8 0 y (by decide) (by decide) (by decide) h₀ h₁ (by omega)]; omega
theorem mk1 (w : World) : (Instr.makeSlice 41 (.int .i64 1) (.int .i64 1)).run Tryz.prog w = .ok (.slice (some ⟨w.heap.size, 0, none⟩) 1 1) (w.alloc (.cells #[.int .u8 0] 5)) := by kernel_rfl
set_option maxHeartbeats 400000 in
theorem put1 (r s : Int) (w : World) (hs : isI s = true) (h1 : s < 128)
    (hc : ∀ w, Calls Tryz.prog 76 #[.int .i64 r] w fun e w' => e = .returned (.int .i64 s) ∧ w = w') :
    Calls Tryz.prog 45 #[.int .i64 r] w fun e w' => e = .returned (.slice (some ⟨w.heap.size, 0, none⟩) 1 1) ∧ w' = w.alloc (.cells #[.int .u8 s] 5) := by
  have h0 := isI_cases hs
  have hz := fun w => size_any s w
  have ez : szI s = 1 := by simp [szI, hs]; omega
  rw [ez] at hz
  clear ez
  have HS := Lib.hid hs; clear hs
  have HC := Lib.hid hc; clear hc
  have HZ := Lib.hid hz; clear hz
  obtain ⟨h0, h00⟩ := h0
  have hmk := mk1
  go_enter Tryz.func45, Tryz.ntmps45
  go_wp2_with fail
  refine (HC.out _).mono ?_; rintro e w' ⟨rfl, rfl⟩
  go_wp2_with fail
  refine (HZ.out _).mono ?_; rintro e w' ⟨rfl, rfl⟩
  go_wp2_with fail
  go_ret
  exact ⟨rfl, by rw [u8_or0 h0 (by omega)]⟩
theorem mk2 (w : World) : (Instr.makeSlice 41 (.int .i64 2) (.int .i64 2)).run Tryz.prog w = .ok (.slice (some ⟨w.heap.size, 0, none⟩) 2 2) (w.alloc (.cells #[.int .u8 0, .int .u8 0] 5)) := by kernel_rfl
set_option maxHeartbeats 400000 in
theorem put2 (r s : Int) (w : World) (hs : isI s = true) (h1 : 128 ≤ s) (h2 : s < 2048)
    (hc : ∀ w, Calls Tryz.prog 76 #[.int .i64 r] w fun e w' => e = .returned (.int .i64 s) ∧ w = w') :
    Calls Tryz.prog 45 #[.int .i64 r] w fun e w' => e = .returned (.slice (some ⟨w.heap.size, 0, none⟩) 2 2) ∧ w' = w.alloc (.cells #[.int .u8 (192 + s / 64), .int .u8 (128 + s % 64)] 5) := by
  have h0 := isI_cases hs
  have hz := fun w => size_any s w
  have ez : szI s = 2 := by simp [szI, hs]; omega
  rw [ez] at hz
  clear ez
  have HS := Lib.hid hs; clear hs
  have HC := Lib.hid hc; clear hc
  have HZ := Lib.hid hz; clear hz
  obtain ⟨h0, h00⟩ := h0
  have hmk := mk2
  go_enter Tryz.func45, Tryz.ntmps45
  go_wp2_with fail
  refine (HC.out _).mono ?_; rintro e w' ⟨rfl, rfl⟩
  go_wp2_with fail
  refine (HZ.out _).mono ?_; rintro e w' ⟨rfl, rfl⟩
  go_wp2_with fail
  refine (behind_any _ _ ?_ ?_).mono ?_
  · omega
  · omega
  rintro e w' ⟨rfl, rfl⟩
  go_wp2_with fail
  refine (ones2 _).mono ?_; rintro e w' ⟨rfl, rfl⟩
  go_wp2_with fail
  go_ret
  exact ⟨rfl, rfl⟩
theorem mk3 (w : World) : (Instr.makeSlice 41 (.int .i64 3) (.int .i64 3)).run Tryz.prog w = .ok (.slice (some ⟨w.heap.size, 0, none⟩) 3 3) (w.alloc (.cells #[.int .u8 0, .int .u8 0, .int .u8 0] 5)) := by kernel_rfl
set_option maxHeartbeats 400000 in
theorem put3 (r s : Int) (w : World) (hs : isI s = true) (h1 : 2048 ≤ s) (h2 : s < 65536)
    (hc : ∀ w, Calls Tryz.prog 76 #[.int .i64 r] w fun e w' => e = .returned (.int .i64 s) ∧ w = w') :
    Calls Tryz.prog 45 #[.int .i64 r] w fun e w' => e = .returned (.slice (some ⟨w.heap.size, 0, none⟩) 3 3) ∧ w' = w.alloc (.cells #[.int .u8 (224 + s / 4096), .int .u8 (128 + s / 64 % 64), .int .u8 (128 + s % 64)] 5) := by
  have h0 := isI_cases hs
  have hz := fun w => size_any s w
  have ez : szI s = 3 := by simp [szI, hs]; omega
  rw [ez] at hz
  clear ez
  have HS := Lib.hid hs; clear hs
  have HC := Lib.hid hc; clear hc
  have HZ := Lib.hid hz; clear hz
  obtain ⟨h0, h00⟩ := h0
  have hmk := mk3
  go_enter Tryz.func45, Tryz.ntmps45
  go_wp2_with fail
  refine (HC.out _).mono ?_; rintro e w' ⟨rfl, rfl⟩
  go_wp2_with fail
  refine (HZ.out _).mono ?_; rintro e w' ⟨rfl, rfl⟩
  go_wp2_with fail
  refine (behind_any _ _ ?_ ?_).mono ?_
  · omega
  · omega
  rintro e w' ⟨rfl, rfl⟩
  go_wp2_with fail
  refine (behind_any _ _ ?_ ?_).mono ?_
  · omega
  · omega
  rintro e w' ⟨rfl, rfl⟩
  go_wp2_with fail
  refine (ones3 _).mono ?_; rintro e w' ⟨rfl, rfl⟩
  go_wp2_with fail
  go_ret
  exact ⟨rfl, by rw [show s / 64 / 64 = s / 4096 by omega]⟩
theorem mk4 (w : World) : (Instr.makeSlice 41 (.int .i64 4) (.int .i64 4)).run Tryz.prog w = .ok (.slice (some ⟨w.heap.size, 0, none⟩) 4 4) (w.alloc (.cells #[.int .u8 0, .int .u8 0, .int .u8 0, .int .u8 0] 5)) := by kernel_rfl
set_option maxHeartbeats 400000 in
theorem put4 (r s : Int) (w : World) (hs : isI s = true) (h1 : 65536 ≤ s)
    (hc : ∀ w, Calls Tryz.prog 76 #[.int .i64 r] w fun e w' => e = .returned (.int .i64 s) ∧ w = w') :
    Calls Tryz.prog 45 #[.int .i64 r] w fun e w' => e = .returned (.slice (some ⟨w.heap.size, 0, none⟩) 4 4) ∧ w' = w.alloc (.cells #[.int .u8 (240 + s / 262144), .int .u8 (128 + s / 4096 % 64), .int .u8 (128 + s / 64 % 64), .int .u8 (128 + s % 64)] 5) := by
  have h0 := isI_cases hs
  have hz := fun w => size_any s w
  have ez : szI s = 4 := by simp [szI, hs]; omega
  rw [ez] at hz
  clear ez
  have HS := Lib.hid hs; clear hs
  have HC := Lib.hid hc; clear hc
  have HZ := Lib.hid hz; clear hz
  obtain ⟨h0, h00⟩ := h0
  have hmk := mk4
  go_enter Tryz.func45, Tryz.ntmps45
  go_wp2_with fail
  refine (HC.out _).mono ?_; rintro e w' ⟨rfl, rfl⟩
  go_wp2_with fail
  refine (HZ.out _).mono ?_; rintro e w' ⟨rfl, rfl⟩
  go_wp2_with fail
  refine (behind_any _ _ ?_ ?_).mono ?_
  · omega
  · omega
  rintro e w' ⟨rfl, rfl⟩
  go_wp2_with fail
  refine (behind_any _ _ ?_ ?_).mono ?_
  · omega
  · omega
  rintro e w' ⟨rfl, rfl⟩
  go_wp2_with fail
  refine (behind_any _ _ ?_ ?_).mono ?_
  · omega
  · omega
  rintro e w' ⟨rfl, rfl⟩
  go_wp2_with fail
  refine (ones4 _).mono ?_; rintro e w' ⟨rfl, rfl⟩
  go_wp2_with fail
  go_ret
  exact ⟨rfl, by rw [show s / 64 / 64 / 64 = s / 262144 by omega, show s / 64 / 64 = s / 4096 by omega]⟩
def putN (r : Int) : Nat := (putI (sndI r)).length
theorem put_any (r : Int) (w : World) : Calls Tryz.prog 45 #[.int .i64 r] w fun e w' =>
    e = .returned (.slice (some ⟨w.heap.size, 0, none⟩) (putN r) (putN r)) ∧ w' = w.alloc (.cells ((putI (sndI r)).map (Value.int .u8)).toArray 5) := by
  have hc := fun w => sound_any r w
  have hs := sndI_is r
  unfold putN
  generalize sndI r = s at *
  have h0 := isI_cases hs
  rcases (show s < 128 ∨ (128 ≤ s ∧ s < 2048) ∨ (2048 ≤ s ∧ s < 65536) ∨ 65536 ≤ s by omega) with h1 | ⟨h1, h2⟩ | ⟨h1, h2⟩ | h1
  · have e : putI s = [s] := by unfold putI; rw [if_pos h1]
    rw [e]
    exact put1 r s w hs h1 hc
  · have e : putI s = [192 + s / 64, 128 + s % 64] := by unfold putI; rw [if_neg (by omega), if_pos h2]
    rw [e]
    exact put2 r s w hs h1 h2 hc
  · have e : putI s = [224 + s / 4096, 128 + s / 64 % 64, 128 + s % 64] := by unfold putI; rw [if_neg (by omega), if_neg (by omega), if_pos h2]
    rw [e]
    exact put3 r s w hs h1 h2 hc
  · have e : putI s = [240 + s / 262144, 128 + s / 4096 % 64, 128 + s / 64 % 64, 128 + s % 64] := by unfold putI; rw [if_neg (by omega), if_neg (by omega), if_neg (by omega)]
    rw [e]
    exact put4 r s w hs h1 hc
end Go.Proofs.YtaapbmdojkjphaaGreat
namespace Go.Proofs.YtaapbmdojkjphaaGreat
open Go Go.RowKit
def RowI (k : IntKind) (w : World) (A : Option Addr) (n : Nat) (xs : List Int) : Prop :=
  xs.length = n ∧ (0 < n → ∃ b o, A = some ⟨b, o, none⟩ ∧ b < w.heap.size ∧ ∀ j, j < n → w.cell? ⟨b, o + j, none⟩ = some (.int k (xs.getD j 0)))
theorem below_drewN {B : Nat} {a w : World} (h : Below B a w) (q : Nat) : Below B a (w.drewN q) := ⟨h.os, h.tape, h.output, h.size, h.block⟩
theorem at_new (w : World) (o : Obj) {g : Nat} (hg : g = w.heap.size) : (w.alloc o).heap[g]? = some o := by subst hg; exact heap_alloc_new w o
theorem at_up {w : World} {g : Nat} {o : Obj} (h : w.heap[g]? = some o) (o' : Obj) : (w.alloc o').heap[g]? = some o := by
  have hlt : g < w.heap.size := by
    rcases Nat.lt_or_ge g w.heap.size with hlt | hge
    · exact hlt
    · rw [Array.getElem?_eq_none hge] at h; cases h
  exact (Below.heap_alloc w o' g hlt).trans h
section
variable {k : IntKind} {w w' : World} {A : Option Addr} {n : Nat} {xs : List Int}
theorem RowI.nil_ : RowI k w A 0 [] := ⟨rfl, fun h => absurd h (by omega)⟩
theorem RowI.drewN (h : RowI k w A n xs) (q : Nat) : RowI k (w.drewN q) A n xs := h
theorem RowI.below (h : RowI k w A n xs) {B : Nat} (hb : Below B w w') (hB : w.heap.size ≤ B) : RowI k w' A n xs := by
  refine ⟨h.1, fun hn => ?_⟩
  obtain ⟨b, o, hA, hlt, hc⟩ := h.2 hn
  refine ⟨b, o, hA, Nat.lt_of_lt_of_le hlt hb.size, fun j hj => ?_⟩
  rw [hb.cell (p := ⟨b, o + j, none⟩) (show b < B by omega)]
  exact hc j hj
theorem RowI.alloc (h : RowI k w A n xs) (o : Obj) : RowI k (w.alloc o) A n xs :=
  h.below ((Below.refl w.heap.size w).alloc (Nat.le_refl _) o) (Nat.le_refl _)
theorem RowI.new (k : IntKind) (w : World) (xs : List Int) (t : TypeId) : RowI k (w.alloc (.cells (xs.map (Value.int k)).toArray t)) (some ⟨w.heap.size, 0, none⟩) xs.length xs := by
  refine ⟨rfl, fun _ => ⟨_, _, rfl, by simp, fun j hj => ?_⟩⟩
  simp [List.getElem?_eq_getElem hj]
theorem RowI.cut {b o : Nat} (h : RowI k w (some ⟨b, o, none⟩) n xs) {i j : Nat} (hij : i ≤ j) (hj : j ≤ n) : RowI k w (some ⟨b, o + i, none⟩) (j - i) ((xs.drop i).take (j - i)) := by
  have hl := h.1
  refine ⟨by simp; omega, fun hn => ?_⟩
  obtain ⟨b', o', hA, hlt, hc⟩ := h.2 (by omega)
  injection hA with hA
  injection hA with hb ho
  subst hb ho
  refine ⟨_, _, rfl, hlt, fun m hm => ?_⟩
  rw [Nat.add_assoc, hc (i + m) (by omega)]
  simp [List.getD, List.getElem?_drop, hm]
end
end Go.Proofs.YtaapbmdojkjphaaGreat
namespace Go.Proofs.YtaapbmdojkjphaaGreat
open Go Go.RowKit
theorem strRow (w : World) (A : Option Addr) (n c : Nat) (xs : List Int) (h : RowI .u8 w A n xs) :
    (convert 41 9 (.slice A n c)).run Tryz.prog w = .ok (.string (strOfNums xs)) w := by
  rcases Nat.eq_zero_or_pos n with h0 | h0
  · subst h0
    have : xs = [] := List.eq_nil_of_length_eq_zero h.1
    subst this
    rcases A with _ | ⟨b, o, sp⟩
    · exact run_convert_bytes_nil w 41 5 Tryz.underlying41 Tryz.underlying5 0 c 9 Tryz.underlying9
    · rw [run_convert_bytes_string w _ _ _ _ _ _ Tryz.underlying41 Tryz.underlying5 Tryz.underlying9]
      exact run_bytesToString (P := Tryz.prog) w ⟨b, o, sp⟩ 0 c [] (by simpa using run_loadCells_list (P := Tryz.prog) w ⟨b, o, sp⟩ [] (fun j v hj => by simp at hj))
  · obtain ⟨b, o, rfl, _, hc⟩ := h.2 h0
    exact run_convert_bytes_arg (P := Tryz.prog) w 41 5 Tryz.underlying41 Tryz.underlying5 b o n c xs h.1 hc 9 Tryz.underlying9
end Go.Proofs.YtaapbmdojkjphaaGreat
namespace Go.Proofs.YtaapbmdojkjphaaGreat
open Go Go.RowKit
set_option maxRecDepth 20000
theorem row_of_own {k : IntKind} {w : World} {base : Nat} {e : TypeId} {v : Value} {n : Nat} {xs : List Int} (h : w.ownsRow base e 1 v n (xs.map (Value.int k))) :
    ∃ A c, v = .slice A n c ∧ RowI k w A n xs ∧ n ≤ c ∧ c ≤ maxLen := by
  obtain ⟨hl, h⟩ := h
  have hl' : xs.length = n := by simpa using hl
  rcases h with ⟨rfl, rfl⟩ | ⟨g, cap, cur, rfl, _, hg, hnc, hcm, hcs, ht⟩
  · have : xs = [] := List.eq_nil_of_length_eq_zero hl'
    subst this
    exact ⟨none, 0, rfl, RowI.nil_, Nat.le_refl _, Nat.zero_le _⟩
  · refine ⟨_, cap, rfl, ⟨hl', fun _ => ⟨g, 0, rfl, ?_, fun j hj => ?_⟩⟩, hnc, hcm⟩
    · exact (Array.getElem?_eq_some_iff.1 hg).1
    · rw [Nat.zero_add, cell_of_row w g j cur e (0, 0) hg]
      have h1 : (cur.toList.take (n * 1))[j]? = (xs.map (Value.int k))[j]? := by rw [ht]
      rw [List.getElem?_take_of_lt (by omega), Array.getElem?_toList] at h1
      rw [h1, List.getElem?_map]
      have hj' : j < xs.length := by omega
      simp [List.getElem?_eq_getElem hj', List.getD]
theorem wpList_append_run {P : Program} {w : World} {ops : Array Oper} {rest : List Oper} {o : Oper} {a : Act} {Q : Exit → Act → World → Prop} (hgd : o.guard = none) (s x : Operand) (t : TypeId)
    (ho : o.op = .call { callee := .builtin .append, args := #[s, x], argTypes := #[t, t] }) (hty : o.type = t)
    (v y v' : Value) (w' : World) (hs : a.eval s = v) (hx : a.eval x = y) (hrun : (Builtin.append_ #[t, t] t #[v, y]).run P w = .ok v' w')
    (h : wpList P ops Q rest (a.put o.dst v') w') : wpList P ops Q (o :: rest) a w := by
  subst hty
  refine wpList_plain hgd fun K hK => ?_
  unfold Oper.wp
  simp [execOp, ho, resolve, invoke, builtin, hs, hx, hrun, Result.andThen]
  exact hK _ _ h
end Go.Proofs.YtaapbmdojkjphaaGreat
