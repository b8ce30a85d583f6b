/- CellFirst, for all that comes in, of any cell that answers so. -/
import Derived.Test.YtlgpidpnjmbknaaLawFirst16
import Derived.Test.YtlgpidpnjmbknaaActs16
namespace Go.Proofs.Ytlgpidpnjmbknaa
open Go Go.RowKit
set_option linter.unusedVariables false
set_option maxRecDepth 40000
set_option maxHeartbeats 4000000 in
theorem first16_many {P : CelP} (T : CelF P) (A : Option Addr) (m c : Nat) (w : World) (h : 60 < m) :
    Calls Try.prog 3 #[.slice A m c] w fun e w' => e = .returned (.bool true) ∧ Below w.heap.size w w' := by
  have HA := Lib.hid fun (w1 : World) (hb : Below w.heap.size w w1) => awake16_any T w hb
  have hd : decide ((60 : Int) < (m : Int)) = true := by simp; omega
  clear h
  go_enter Try.func3, Try.ntmps3
  go_wp2_with fail
  refine (HA.out _ (Below.refl _ _)).mono ?_; rintro e w1 ⟨rfl, h1⟩
  have H1 := Lib.hid h1; clear h1
  go_wp2_with fail
  refine (HA.out _ H1.out).mono ?_; rintro e w2 ⟨rfl, h2⟩
  have H2 := Lib.hid h2; clear h2
  go_wp2_with fail
  go_ret
  exact ⟨rfl, H2.out⟩
theorem first16W {P : CelP} (T : CelF P) (A : Option Addr) (m c : Nat) (xs : List Rep) (w : World) (hr : RowB16 w A m c xs) :
    Calls Try.prog 3 #[.slice A m c] w fun e w' => e = .returned (.bool true) ∧ Below w.heap.size w w' := by
  by_cases h : 60 < m
  · exact first16_many T A m c w h
  · exact first16_good T A m c xs w hr.1 hr.2 (by omega)
end Go.Proofs.Ytlgpidpnjmbknaa
