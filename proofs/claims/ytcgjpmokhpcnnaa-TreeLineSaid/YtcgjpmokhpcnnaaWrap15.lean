/- TreeFull and TreeLine of the program's tree. -/
import Derived.Test.YtcgjpmokhpcnnaaTprC
import Derived.Test.YtcgjpmokhpcnnaaLawFull15
import Derived.Test.YtcgjpmokhpcnnaaLawLine15
import Derived.Test.YtcgjpmokhpcnnaaByteR
namespace Go.Proofs.Ytcgjpmokhpcnnaa
open Go Go.RowKit
theorem full15W (a : Int) (w : World) (h : 0 ≤ a ∧ a < 256) : Calls Try.prog 5 #[.int .u8 a] w fun e w' => e = .returned (.bool true) ∧ Below w.heap.size w w' := by
  obtain ⟨k, rfl⟩ : ∃ k : Nat, a = (k : Int) := ⟨a.toNat, by omega⟩
  exact full15_any treF k (by omega) w
theorem line15W (a : Int) (p q : Nat) (hp : p < 256) (hq : q < 256) (w : World) (h : 0 ≤ a ∧ a < 256) : Calls Try.prog 6 #[.int .u8 a, .agg #[.int .u8 (p : Int), .int .u8 (q : Int)]] w fun e w' => e = .returned (.bool true) ∧ Below w.heap.size w w' := by
  obtain ⟨k, rfl⟩ : ∃ k : Nat, a = (k : Int) := ⟨a.toNat, by omega⟩
  exact line15_any treF k p q (by omega) hp hq w
end Go.Proofs.Ytcgjpmokhpcnnaa
