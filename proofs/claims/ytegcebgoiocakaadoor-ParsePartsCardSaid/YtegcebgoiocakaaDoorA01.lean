/- Plain words on numbers for package code: which numbers are code points, how many octets they have, and which. -/
import Derived.Laws.BytesArg
import Derived.IntWalk
import Derived.Laws.BitsLemmas
import Derived.Test.YtegcebgoiocakaaDoorRows
import Derived.WalkKit
import Derived.ProofKit
import Derived.OpenShut
import Derived.Handy
import Derived.Lib.Hide
import Derived.Below
import Derived.Laws.OwnMore
import Derived.Deep.AppendLies
import Derived.Deep.Draws
namespace Go.Proofs.YtegcebgoiocakaaDoor
open Go

/-- Is r a code point? -/
def isI (r : Int) : Bool := decide (0 ≤ r) && decide (r ≤ 1114111) && !(decide (55296 ≤ r) && decide (r ≤ 57343))
/-- How many octets. -/
def szI (r : Int) : Int := if isI r = false then 0 else if r < 128 then 1 else if r < 2048 then 2 else if r < 65536 then 3 else 4
/-- r, or 65533. -/
def sndI (r : Int) : Int := if isI r = true then r else 65533

theorem isI_true {r : Int} : isI r = true ↔ 0 ≤ r ∧ r ≤ 1114111 ∧ ¬ (55296 ≤ r ∧ r ≤ 57343) := by
  unfold isI; simp; omega
theorem isI_false {r : Int} : isI r = false ↔ ¬ (0 ≤ r ∧ r ≤ 1114111 ∧ ¬ (55296 ≤ r ∧ r ≤ 57343)) := by
  rw [← isI_true]; simp
theorem sndI_is (r : Int) : isI (sndI r) = true := by
  unfold sndI; split
  · assumption
  · decide

theorem wraps_i64 (n : Int) (h₀ : 0 ≤ n) (h₁ : n < 2 ^ 62) : IntKind.i64.wrap n = n := by rw [IntKind.wrap_i64]; omega
theorem bits_or_comm (k : IntKind) (a b : Int) : bits .or k a b = bits .or k b a := by
  simp only [bits, BitVec.or_comm]
theorem i64_and63 {x : Int} (h₀ : 0 ≤ x) (h₁ : x < 4611686018427387904) : bits .and .i64 x 63 = x % 64 := bits_mask .i64 62 (by decide) wraps_i64 6 (by decide) x h₀ h₁
theorem i64_and1023 {x : Int} (h₀ : 0 ≤ x) (h₁ : x < 4611686018427387904) : bits .and .i64 x 1023 = x % 1024 := bits_mask .i64 62 (by decide) wraps_i64 10 (by decide) x h₀ h₁
theorem i64_or128 {y : Int} (h₀ : 0 ≤ y) (h₁ : y < 64) : bits .or .i64 y 128 = 128 + y := by
  rw [bits_or_comm]
  exact bits_join .i64 62 (by decide) wraps_i64 6 128 y (by decide) (by decide) (by decide) h₀ h₁ (by omega)
theorem i64_or6 {x y : Int} (hx₀ : 0 ≤ x) (hx : x % 64 = 0) (hx₁ : x < 4611686018427387904) (h₀ : 0 ≤ y) (h₁ : y < 64) : bits .or .i64 x y = x + y :=
  bits_join .i64 62 (by decide) wraps_i64 6 x y hx₀ hx hx₁ h₀ h₁ (by omega)
theorem i64_or10 {x y : Int} (hx₀ : 0 ≤ x) (hx : x % 1024 = 0) (hx₁ : x < 4611686018427387904) (h₀ : 0 ≤ y) (h₁ : y < 1024) : bits .or .i64 x y = x + y :=
  bits_join .i64 62 (by decide) wraps_i64 10 x y hx₀ hx hx₁ h₀ h₁ (by omega)
theorem i64_or12 {x y : Int} (hx₀ : 0 ≤ x) (hx : x % 4096 = 0) (hx₁ : x < 4611686018427387904) (h₀ : 0 ≤ y) (h₁ : y < 4096) : bits .or .i64 x y = x + y :=
  bits_join .i64 62 (by decide) wraps_i64 12 x y hx₀ hx hx₁ h₀ h₁ (by omega)
theorem i64_or18 {x y : Int} (hx₀ : 0 ≤ x) (hx : x % 262144 = 0) (hx₁ : x < 4611686018427387904) (h₀ : 0 ≤ y) (h₁ : y < 262144) : bits .or .i64 x y = x + y :=
  bits_join .i64 62 (by decide) wraps_i64 18 x y hx₀ hx hx₁ h₀ h₁ (by omega)

/-- The octets of r, a number that is a code point. -/
def putI (r : Int) : List Int :=
  if r < 128 then [r] else
  if r < 2048 then [192 + r / 64, 128 + r % 64] else
  if r < 65536 then [224 + r / 4096, 128 + r / 64 % 64, 128 + r % 64] else
  [240 + r / 262144, 128 + r / 4096 % 64, 128 + r / 64 % 64, 128 + r % 64]
end Go.Proofs.YtegcebgoiocakaaDoor
/- Contracts of the small functions of package code. -/
namespace Go.Proofs.YtegcebgoiocakaaDoor
open Go Go.RowKit

theorem is_any (r : Int) (w : World) : Calls Tryd.prog 23 #[.int .i64 r] w fun e w' => e = .returned (.bool (isI r)) ∧ w = w' := by
  by_cases h1 : 0 ≤ r <;> by_cases h2 : r ≤ 1114111 <;> by_cases h3 : 55296 ≤ r <;> by_cases h4 : r ≤ 57343
  all_goals
    go_enter Tryd.func23, Tryd.ntmps23
    go_wp2
    go_ret
    exact ⟨by first | (simp [isI, h1, h2, h3, h4]; done) | (simp [isI]; omega), rfl⟩


theorem isI_cases {r : Int} (h : isI r = true) : 0 ≤ r ∧ r ≤ 1114111 := by rw [isI_true] at h; omega

theorem size_no (r : Int) (w : World) (h : isI r = false) : Calls Tryd.prog 14 #[.int .i64 r] w fun e w' => e = .returned (.int .i64 0) ∧ w = w' := by
  have hc := is_any r w
  rw [h] at hc
  go_enter Tryd.func14, Tryd.ntmps14
  go_wp2_with (go_at_call 23; refine hc.mono ?_; rintro e w' ⟨rfl, rfl⟩)
  go_ret
  exact ⟨rfl, rfl⟩

theorem size_any (r : Int) (w : World) : Calls Tryd.prog 14 #[.int .i64 r] w fun e w' => e = .returned (.int .i64 (szI r)) ∧ w = w' := by
  rcases hb : isI r with _ | _
  · refine (size_no r w hb).mono ?_
    rintro e w' ⟨rfl, rfl⟩
    simp [szI, hb]
  · have hc := is_any r w
    rw [hb] at hc
    have HB := Lib.hid hb; clear hb
    rcases (show r < 128 ∨ (128 ≤ r ∧ r < 2048) ∨ (2048 ≤ r ∧ r < 65536) ∨ 65536 ≤ r by omega) with h1 | ⟨h1, h2⟩ | ⟨h1, h2⟩ | h1
    all_goals
      go_enter Tryd.func14, Tryd.ntmps14
      go_wp2_with (go_at_call 23; refine hc.mono ?_; rintro e w' ⟨rfl, rfl⟩)
      go_ret
      exact ⟨by simp [szI, HB.out]; omega, rfl⟩





end Go.Proofs.YtegcebgoiocakaaDoor
/- The contract of Put of package code. -/
namespace Go.Proofs.YtegcebgoiocakaaDoor
open Go Go.RowKit

theorem u8_or0 {y : Int} (h₀ : 0 ≤ y) (h₁ : y < 256) : bits .or .u8 0 y = y := by
  rw [bits_join .u8 8 (by decide) wraps_u8 8 0 y (by decide) (by decide) (by decide) h₀ h₁ (by omega)]; omega

theorem mk1 (w : World) : (Instr.makeSlice 42 (.int .i64 1) (.int .i64 1)).run Tryd.prog w = .ok (.slice (some ⟨w.heap.size, 0, none⟩) 1 1) (w.alloc (.cells #[.int .u8 0] 5)) := by kernel_rfl

theorem mk2 (w : World) : (Instr.makeSlice 42 (.int .i64 2) (.int .i64 2)).run Tryd.prog w = .ok (.slice (some ⟨w.heap.size, 0, none⟩) 2 2) (w.alloc (.cells #[.int .u8 0, .int .u8 0] 5)) := by kernel_rfl

theorem mk3 (w : World) : (Instr.makeSlice 42 (.int .i64 3) (.int .i64 3)).run Tryd.prog w = .ok (.slice (some ⟨w.heap.size, 0, none⟩) 3 3) (w.alloc (.cells #[.int .u8 0, .int .u8 0, .int .u8 0] 5)) := by kernel_rfl

theorem mk4 (w : World) : (Instr.makeSlice 42 (.int .i64 4) (.int .i64 4)).run Tryd.prog w = .ok (.slice (some ⟨w.heap.size, 0, none⟩) 4 4) (w.alloc (.cells #[.int .u8 0, .int .u8 0, .int .u8 0, .int .u8 0] 5)) := by kernel_rfl

/-- WHAT Put GIVES: a new block that holds the octets of 'sndI r'. -/
def putN (r : Int) : Nat := (putI (sndI r)).length
end Go.Proofs.YtegcebgoiocakaaDoor
/- Words on memory: a slice of whole numbers that reads as a list. -/
namespace Go.Proofs.YtegcebgoiocakaaDoor
open Go Go.RowKit

/-- The slice with address A and n elements reads as xs; where it has an element, it lies in a block that is there. -/
def RowI (k : IntKind) (w : World) (A : Option Addr) (n : Nat) (xs : List Int) : Prop :=
  xs.length = n ∧ (0 < n → ∃ b o, A = some ⟨b, o, none⟩ ∧ b < w.heap.size ∧ ∀ j, j < n → w.cell? ⟨b, o + j, none⟩ = some (.int k (xs.getD j 0)))

theorem below_drewN {B : Nat} {a w : World} (h : Below B a w) (q : Nat) : Below B a (w.drewN q) := ⟨h.os, h.tape, h.output, h.size, h.block⟩

theorem at_new (w : World) (o : Obj) {g : Nat} (hg : g = w.heap.size) : (w.alloc o).heap[g]? = some o := by subst hg; exact heap_alloc_new w o
theorem at_up {w : World} {g : Nat} {o : Obj} (h : w.heap[g]? = some o) (o' : Obj) : (w.alloc o').heap[g]? = some o := by
  have hlt : g < w.heap.size := by
    rcases Nat.lt_or_ge g w.heap.size with hlt | hge
    · exact hlt
    · rw [Array.getElem?_eq_none hge] at h; cases h
  exact (Below.heap_alloc w o' g hlt).trans h

section
variable {k : IntKind} {w w' : World} {A : Option Addr} {n : Nat} {xs : List Int}
theorem RowI.nil_ : RowI k w A 0 [] := ⟨rfl, fun h => absurd h (by omega)⟩
theorem RowI.drewN (h : RowI k w A n xs) (q : Nat) : RowI k (w.drewN q) A n xs := h
theorem RowI.below (h : RowI k w A n xs) {B : Nat} (hb : Below B w w') (hB : w.heap.size ≤ B) : RowI k w' A n xs := by
  refine ⟨h.1, fun hn => ?_⟩
  obtain ⟨b, o, hA, hlt, hc⟩ := h.2 hn
  refine ⟨b, o, hA, Nat.lt_of_lt_of_le hlt hb.size, fun j hj => ?_⟩
  rw [hb.cell (p := ⟨b, o + j, none⟩) (show b < B by omega)]
  exact hc j hj
theorem RowI.alloc (h : RowI k w A n xs) (o : Obj) : RowI k (w.alloc o) A n xs :=
  h.below ((Below.refl w.heap.size w).alloc (Nat.le_refl _) o) (Nat.le_refl _)
theorem RowI.new (k : IntKind) (w : World) (xs : List Int) (t : TypeId) : RowI k (w.alloc (.cells (xs.map (Value.int k)).toArray t)) (some ⟨w.heap.size, 0, none⟩) xs.length xs := by
  refine ⟨rfl, fun _ => ⟨_, _, rfl, by simp, fun j hj => ?_⟩⟩
  simp [List.getElem?_eq_getElem hj]
/-- s[i:j], of a slice that reads as a list. -/
theorem RowI.cut {b o : Nat} (h : RowI k w (some ⟨b, o, none⟩) n xs) {i j : Nat} (hij : i ≤ j) (hj : j ≤ n) : RowI k w (some ⟨b, o + i, none⟩) (j - i) ((xs.drop i).take (j - i)) := by
  have hl := h.1
  refine ⟨by simp; omega, fun hn => ?_⟩
  obtain ⟨b', o', hA, hlt, hc⟩ := h.2 (by omega)
  injection hA with hA
  injection hA with hb ho
  subst hb ho
  refine ⟨_, _, rfl, hlt, fun m hm => ?_⟩
  rw [Nat.add_assoc, hc (i + m) (by omega)]
  simp [List.getD, List.getElem?_drop, hm]
end
end Go.Proofs.YtegcebgoiocakaaDoor
