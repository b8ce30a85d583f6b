/- Contracts of Ints (are two lists the same?), of Units, and of the document's Units. -/
import Derived.Test.YtoojfjealncddaaDoorCodeA
import Derived.Test.YtoojfjealncddaaDoorMem
import Derived.Deep.QuietTactic
import Derived.BigQuiet
namespace Go.Proofs.YtoojfjealncddaaDoor
open Go Go.RowKit


end Go.Proofs.YtoojfjealncddaaDoor
