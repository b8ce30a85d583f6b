/- An octet as a number. -/
import Derived.Test.YtmpemcooianfiaaRec
namespace Go.Proofs.Ytmpemcooianfiaa
open Go Go.RowKit
theorem byte_of_wf {c : Int} (h : (Lit.int .u8 c).wf = true) : 0 ≤ c ∧ c < 256 := by
  simp [Lit.wf, IntKind.min, IntKind.max, IntKind.signed, IntKind.bits] at h
  exact ⟨by omega, by omega⟩
end Go.Proofs.Ytmpemcooianfiaa
