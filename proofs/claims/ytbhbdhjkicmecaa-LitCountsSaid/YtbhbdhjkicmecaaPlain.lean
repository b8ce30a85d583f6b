/- Plain words on numbers for package code: which numbers are code points, how many octets they have, and which. -/
import Derived.Laws.BytesArg
import Derived.IntWalk
import Derived.Laws.BitsLemmas
namespace Go.Proofs.Ytbhbdhjkicmecaa
open Go

/-- Is r a code point? -/
def isI (r : Int) : Bool := decide (0 ≤ r) && decide (r ≤ 1114111) && !(decide (55296 ≤ r) && decide (r ≤ 57343))
/-- How many octets. -/
def szI (r : Int) : Int := if isI r = false then 0 else if r < 128 then 1 else if r < 2048 then 2 else if r < 65536 then 3 else 4
/-- r, or 65533. -/
def sndI (r : Int) : Int := if isI r = true then r else 65533

theorem isI_true {r : Int} : isI r = true ↔ 0 ≤ r ∧ r ≤ 1114111 ∧ ¬ (55296 ≤ r ∧ r ≤ 57343) := by
  unfold isI; simp; omega
theorem isI_false {r : Int} : isI r = false ↔ ¬ (0 ≤ r ∧ r ≤ 1114111 ∧ ¬ (55296 ≤ r ∧ r ≤ 57343)) := by
  rw [← isI_true]; simp
theorem sndI_is (r : Int) : isI (sndI r) = true := by
  unfold sndI; split
  · assumption
  · decide

theorem wraps_i64 (n : Int) (h₀ : 0 ≤ n) (h₁ : n < 2 ^ 62) : IntKind.i64.wrap n = n := by rw [IntKind.wrap_i64]; omega
theorem bits_or_comm (k : IntKind) (a b : Int) : bits .or k a b = bits .or k b a := by
  simp only [bits, BitVec.or_comm]
theorem i64_and63 {x : Int} (h₀ : 0 ≤ x) (h₁ : x < 4611686018427387904) : bits .and .i64 x 63 = x % 64 := bits_mask .i64 62 (by decide) wraps_i64 6 (by decide) x h₀ h₁
theorem i64_and1023 {x : Int} (h₀ : 0 ≤ x) (h₁ : x < 4611686018427387904) : bits .and .i64 x 1023 = x % 1024 := bits_mask .i64 62 (by decide) wraps_i64 10 (by decide) x h₀ h₁
theorem i64_or128 {y : Int} (h₀ : 0 ≤ y) (h₁ : y < 64) : bits .or .i64 y 128 = 128 + y := by
  rw [bits_or_comm]
  exact bits_join .i64 62 (by decide) wraps_i64 6 128 y (by decide) (by decide) (by decide) h₀ h₁ (by omega)
theorem i64_or6 {x y : Int} (hx₀ : 0 ≤ x) (hx : x % 64 = 0) (hx₁ : x < 4611686018427387904) (h₀ : 0 ≤ y) (h₁ : y < 64) : bits .or .i64 x y = x + y :=
  bits_join .i64 62 (by decide) wraps_i64 6 x y hx₀ hx hx₁ h₀ h₁ (by omega)
theorem i64_or10 {x y : Int} (hx₀ : 0 ≤ x) (hx : x % 1024 = 0) (hx₁ : x < 4611686018427387904) (h₀ : 0 ≤ y) (h₁ : y < 1024) : bits .or .i64 x y = x + y :=
  bits_join .i64 62 (by decide) wraps_i64 10 x y hx₀ hx hx₁ h₀ h₁ (by omega)
theorem i64_or12 {x y : Int} (hx₀ : 0 ≤ x) (hx : x % 4096 = 0) (hx₁ : x < 4611686018427387904) (h₀ : 0 ≤ y) (h₁ : y < 4096) : bits .or .i64 x y = x + y :=
  bits_join .i64 62 (by decide) wraps_i64 12 x y hx₀ hx hx₁ h₀ h₁ (by omega)
theorem i64_or18 {x y : Int} (hx₀ : 0 ≤ x) (hx : x % 262144 = 0) (hx₁ : x < 4611686018427387904) (h₀ : 0 ≤ y) (h₁ : y < 262144) : bits .or .i64 x y = x + y :=
  bits_join .i64 62 (by decide) wraps_i64 18 x y hx₀ hx hx₁ h₀ h₁ (by omega)

/-- The octets of r, a number that is a code point. -/
def putI (r : Int) : List Int :=
  if r < 128 then [r] else
  if r < 2048 then [192 + r / 64, 128 + r % 64] else
  if r < 65536 then [224 + r / 4096, 128 + r / 64 % 64, 128 + r % 64] else
  [240 + r / 262144, 128 + r / 4096 % 64, 128 + r / 64 % 64, 128 + r % 64]
end Go.Proofs.Ytbhbdhjkicmecaa
