/- The one listed variable: what the condition gives; a world that meets it. -/
import Derived.Test.YtlgpidpnjmbknaaDoorAs16
import Derived.Test.YtlgpidpnjmbknaaDoorRows
import Derived.LaidLaws
import Derived.LaidHandle
import Derived.LaidMore
import Derived.Stop.Joined
import Derived.MakeChecks
import Derived.OpenShut
import Derived.ProofKit
namespace Go.Proofs.YtlgpidpnjmbknaaDoor
open Go Go.ChangeShapes Go.WideShapes Go.ChangeAt Go.RowKit
set_option maxRecDepth 20000
theorem gEt : Tryd.prog.globalNamed "errors.errorType" = some 0 := by kernel_rfl
theorem rtEt : (Tryd.prog.cutTypes.find? (·.1 == "internal/reflectlite.rtype")).map (·.2) = some 51 := by kernel_rfl
/-- Just one type is named so. -/
theorem oneEt : ((List.range Tryd.prog.types.size).filter fun t => Tryd.prog.rowNamed t [101, 114, 114, 111, 114]) = [27] := by kernel_rfl
theorem et_of_laid {W : World} (h : laidMetH Tryd.prog [("errors.errorType", Rows.laid_errors_errorType)] W) : LaidEt W := by
  have hh : handlesMet Tryd.prog [("errors.errorType", Rows.laid_errors_errorType)] W := (show laidMet Tryd.prog [] W ∧ _ from h).2
  obtain ⟨nm, v, ty, q1, q2, q3, q4, q5⟩ := hh _ (List.mem_singleton.2 rfl)
  obtain rfl : nm = [101, 114, 114, 111, 114] := (Option.some.inj q1).symm
  obtain rfl := Option.some.inj (rtEt.symm.trans q2)
  have hin : ty ∈ (List.range Tryd.prog.types.size).filter fun t => Tryd.prog.rowNamed t [101, 114, 114, 111, 114] := List.mem_filter.2 ⟨List.mem_range.2 q3, q4⟩
  rw [oneEt, List.mem_singleton] at hin
  subst hin
  rw [show typeHandle Tryd.prog 27 = .pointer (some ⟨1, 27, none⟩) by kernel_rfl] at q5
  unfold LaidEt
  simpa using World.var?_cell gEt q5 0
/-- The door's own heap meets the condition. -/
theorem door_met (os : Os) (args : Array Value) : laidMetH Tryd.prog [("errors.errorType", Rows.laid_errors_errorType)] ((World.doorLaid Tryd.prog 400 os).forCall (fun _ _ => 0) ⟨#[], args, []⟩).memory :=
  laidMetH_of_parts (laidMet_nil _ _) (by kernel_rfl)
end Go.Proofs.YtlgpidpnjmbknaaDoor
