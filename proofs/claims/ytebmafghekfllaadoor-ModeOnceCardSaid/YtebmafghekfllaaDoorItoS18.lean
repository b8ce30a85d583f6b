/- strconv.Itoa: the same numeral as the document's Digits, where the table of powers is laid. -/
import Derived.Test.YtebmafghekfllaaDoorLayI18
import Derived.Test.YtebmafghekfllaaDoorDig18
import Derived.Lib.AppendIntMem
import Derived.Lib.LaidTab
namespace Go.Proofs.YtebmafghekfllaaDoor
open Go Go.RowKit
set_option linter.unusedVariables false
set_option maxRecDepth 20000
/-- The table of powers is laid, and stays. -/
def Pow18 (w : World) : Prop := Lib.TabBelow Tryd.prog w.heap.size w "internal/strconv.uint64pow10" .u64 Lib.pow10Tab
theorem Pow18.on {w w' : World} (h : Pow18 w) (hb : Below w.heap.size w w') : Pow18 w' := fun w2 h2 => h w2 (hb.trans (h2.mono hb.size))
theorem itoaP_any (n : Int) (h0 : -9223372036854775808 ≤ n) (h1 : n ≤ 9223372036854775807) (w : World) (hT : Pow18 w) : Calls Tryd.prog 26 #[.int .i64 n] w fun e w' => e = .returned (.string (itoaS n)) ∧ Below w.heap.size w w' :=
  (Tryd.itoa_I n h0 h1 w (Lib.TabBelow.here hT)).mono fun e w' hh => ⟨hh.1, by
    obtain ⟨k, os, rfl⟩ := hh.2
    exact Lib.below_grow _ _ (Nat.le_refl _) _ _⟩
end Go.Proofs.YtebmafghekfllaaDoor
