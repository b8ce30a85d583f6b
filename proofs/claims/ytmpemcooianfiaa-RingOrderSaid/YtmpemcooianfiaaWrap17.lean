/- What the last texts hand on. -/
import Derived.Test.YtmpemcooianfiaaLawOrder17
import Derived.Test.YtmpemcooianfiaaByteR
namespace Go.Proofs.Ytmpemcooianfiaa
open Go Go.RowKit
section
variable {P : RP} (T : RinF P)
include T
theorem full17W (a b : Int) (w : World) (ha : (Lit.int .u8 a).wf = true) (hb : (Lit.int .u8 b).wf = true) :
    Calls Try.prog 5 #[.int .u8 a, .int .u8 b] w fun e w' => e = .returned (.bool true) ∧ Below w.heap.size w w' := by
  obtain ⟨h1, h2⟩ := byte_of_wf ha
  obtain ⟨h3, h4⟩ := byte_of_wf hb
  obtain ⟨x, rfl⟩ : ∃ x : Nat, a = (x : Int) := ⟨a.toNat, by omega⟩
  obtain ⟨y, rfl⟩ : ∃ y : Nat, b = (y : Int) := ⟨b.toNat, by omega⟩
  exact full17_any T x y (by omega) (by omega) w
end
end Go.Proofs.Ytmpemcooianfiaa
