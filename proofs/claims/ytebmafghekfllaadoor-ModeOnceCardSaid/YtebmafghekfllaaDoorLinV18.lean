/- The document's Lines, whatever is told. -/
import Derived.Test.YtebmafghekfllaaDoorLinA18
import Derived.Test.YtebmafghekfllaaDoorMachF18
namespace Go.Proofs.YtebmafghekfllaaDoor
open Go Go.RowKit
set_option linter.unusedVariables false
set_option maxRecDepth 20000
/-- The lines of these rows, and whether it is enough: told by all hits, by the first, by count, by context. -/
def linesV (k b a : Nat) (l : List Rw) (fin : Bool) : List ByteArray × Bool :=
  if k = 0 then (linesA l, false) else if k = 1 then linesF l else if k = 2 then (linesC l fin, false) else (ctxL l b a, false)
theorem lines_any (k : Nat) (A : Option Addr) (n c : Nat) (l : List Rw) (b a : Nat) (fin : Bool) (w : World) (h : RowsAt w A n l) (hk : k ≤ 3) (hn : n ≤ 100) (ha : a ≤ 16) (hb : b ≤ 16) :
    Calls Tryd.prog 10 #[.int .i64 (k : Int), .int .i64 (b : Int), .int .i64 (a : Int), .slice A n c, .bool fin] w fun e w' => ∃ A2 c2, e = .returned (.tuple #[.slice A2 (linesV k b a l fin).1.length c2, .bool (linesV k b a l fin).2]) ∧ RecW w' w.heap.size 9 1 (.slice A2 (linesV k b a l fin).1.length c2) (strs (linesV k b a l fin).1) ∧ Below w.heap.size w w' := by
  rcases k with _ | _ | _ | _ | k
  · exact lines0_any A n c l b a fin w h hn
  · exact lines1_any A n c l b a fin w h hn
  · exact lines2_any A n c l b a fin w h hn
  · exact lines3_any A n c l b a fin w h hn ha hb
  · omega
end Go.Proofs.YtebmafghekfllaaDoor
