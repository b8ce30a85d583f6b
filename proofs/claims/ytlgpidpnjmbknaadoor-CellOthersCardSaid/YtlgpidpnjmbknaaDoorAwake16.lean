/- The document's example of a cell, of any cell that answers so. -/
import Derived.Test.YtlgpidpnjmbknaaDoorCelF
namespace Go.Proofs.YtlgpidpnjmbknaaDoor
open Go Go.RowKit
set_option linter.unusedVariables false
set_option maxRecDepth 20000
section
variable {P : CelP} (T : CelF P)
include T
set_option maxHeartbeats 4000000 in
theorem awake16_any (w0 : World) {w : World} (hb : Below w0.heap.size w0 w) :
    Calls Tryd.prog 4 #[] w fun e w' => e = .returned (.bool true) ∧ Below w0.heap.size w0 w' := by
  have HN := Lib.hid (cel_new T w0 hb)
  clear hb
  go_enter Tryd.func4, Tryd.ntmps4
  go_wp2_with fail
  refine HN.out.mono ?_; rintro e w1 ⟨g, rfl, h1⟩
  have H1 := Lib.hid (cel_rep T h1 ((12, ⟨#[120]⟩, 3) : Rep) (by decide) (by decide)); clear h1 HN
  go_wp2_with fail
  refine H1.out.mono ?_; rintro e w2 ⟨rfl, h2⟩
  have H2 := Lib.hid (cel_rep T h2 ((14, ⟨#[]⟩, 4) : Rep) (by decide) (by decide)); clear h2 H1
  go_wp2_with fail
  refine H2.out.mono ?_; rintro e w3 ⟨rfl, h3⟩
  have H3 := Lib.hid (cel_cau T h3 0); have HB3 := Lib.hid h3.to; clear h3 H2
  go_wp2_with fail
  refine H3.out.mono ?_; rintro e w4 ⟨rfl, q, rfl⟩
  go_wp2_with fail
  go_ret
  exact ⟨rfl, below_drewN HB3.out q⟩
end
end Go.Proofs.YtlgpidpnjmbknaaDoor
