/- PipeOrder, of any list; a byte that came in. -/
import Derived.Test.YtmmfioemnoijoaaLawOrd14
namespace Go.Proofs.Ytmmfioemnoijoaa
open Go Go.RowKit
theorem order14W (room : Int) (A : Option Addr) (n c : Nat) (l : List Bool) (W : World) (hl : RowBo W A n l) :
    Calls Try.prog 4 #[.int .i64 room, .slice A n c] W fun e w' => e = .returned (.bool true) ∧ Below W.heap.size W w' := by
  rcases Nat.lt_or_ge 100 n with h | h
  · exact order14_many room A n c W h
  · exact order14_any room A n c l W hl h
end Go.Proofs.Ytmmfioemnoijoaa
