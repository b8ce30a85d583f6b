/- The listed variables: out of the row's condition the table of powers; and a world that meets the condition. -/
import Derived.Test.YtebmafghekfllaaDoorItoS18
import Derived.Test.YtebmafghekfllaaDoorRows
import Derived.Lib.LaidTab
import Derived.Lib.AppendIntMem
import Derived.OpenShut
import Derived.Stop.Joined
import Derived.LaidMore
import Derived.MakeChecks
import Derived.ProofKit
namespace Go.Proofs.YtebmafghekfllaaDoor
open Go Go.ChangeShapes Go.WideShapes Go.ChangeAt Go.RowKit
set_option maxRecDepth 20000

theorem gPow : Tryd.prog.globalNamed "internal/strconv.uint64pow10" = some 0 := by kernel_rfl
theorem tPow : (Tryd.prog.globals[0]?).map (·.type) = some 83 := by kernel_rfl
theorem dPow : (Rows.laid_internal_strconv_uint64pow10 : DataW Unit) = Lib.tabData .u64 Lib.pow10Tab := by kernel_rfl
/-- WHAT THE CONDITION GIVES: the table of powers. -/
theorem pow_of_laid {W : World} (h : laidMetH Tryd.prog [("math/bits.deBruijn32tab", Rows.laid_math_bits_deBruijn32tab), ("math/bits.deBruijn64tab", Rows.laid_math_bits_deBruijn64tab), ("internal/strconv.uint64pow10", Rows.laid_internal_strconv_uint64pow10)] W) : Pow18 W := by
  rw [MakeChecks.laidMetH_plain _ _ _ (by kernel_rfl), dPow] at h
  obtain ⟨ps, hv, _⟩ := h
  obtain ⟨ps2, hv2⟩ : ∃ ps2, DataW.LaidVars Tryd.prog W [("internal/strconv.uint64pow10", (Lib.tabData .u64 Lib.pow10Tab : DataW Unit))] ps2 := by
    obtain ⟨_, _, _, _, _, q1, _, _, _, _, h1, h2⟩ := hv
    first
      | (obtain ⟨_, _, _, _, _, q2, _, _, _, _, h3, h4⟩ := h1; first | exact ⟨q2, h3⟩ | exact ⟨q2, h4⟩)
      | (obtain ⟨_, _, _, _, _, q2, _, _, _, _, h3, h4⟩ := h2; first | exact ⟨q2, h3⟩ | exact ⟨q2, h4⟩)
  obtain ⟨g', t', cs, fuel, p, q, hg', ht', hvar, hd, _, _⟩ := hv2
  obtain rfl := Option.some.inj (gPow.symm.trans hg')
  obtain rfl := Option.some.inj (tPow.symm.trans ht')
  refine Lib.tabBelow_of_tabIs ?_
  unfold Lib.TabIs
  rw [hvar, ← Lib.cells_of_tab Tryd.underlying83 Tryd.underlying64 (by kernel_rfl) (by kernel_rfl) hd]
/-- The door's own heap meets the condition: three closed facts. -/
theorem door_met (os : Os) (args : Array Value) : laidMetH Tryd.prog [("math/bits.deBruijn32tab", Rows.laid_math_bits_deBruijn32tab), ("math/bits.deBruijn64tab", Rows.laid_math_bits_deBruijn64tab), ("internal/strconv.uint64pow10", Rows.laid_internal_strconv_uint64pow10)] ((World.doorLaid Tryd.prog 400 os).forCall (fun _ _ => 0) ⟨#[], args, []⟩).memory :=
  laidMetH_of_parts3 (fuel := 8) (laidMet_of_run' 8 (by kernel_rfl) (by kernel_rfl)) (by kernel_rfl) (by kernel_rfl)
end Go.Proofs.YtebmafghekfllaaDoor
