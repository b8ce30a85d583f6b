/- What the program's set answers. -/
import Derived.Test.YtiiclhkibpmgmaaRightHas
import Derived.Test.YtiiclhkibpmgmaaCount
import Derived.Test.YtiiclhkibpmgmaaNamed
namespace Go.Proofs.Ytiiclhkibpmgmaa
open Go Go.RowKit
set_option linter.unusedVariables false

theorem faces : Faces where
  of w A n c s h hn := of_any s A n c w h.1 (by omega)
  right w A n c s h hn := right_any s A n c w h.1 (by omega)
  has w A n c s r h hn := has_any s A n c r w h.1 (by omega)
  no w A n c s h hn := not_any s A n c w h.1 (by omega)
  or w A D n c m d s t h1 h2 hn hm := or_any s t A D n c m d w h1.1 h2.1 h1.2.2.2.1 h2.2.2.2.1 (by omega) (by omega)
  and w A D n c m d s t h1 h2 hn hm := and_any s t A D n c m d w h1.1 h2.1 (by omega) (by omega)
  count w A n c s t h hn ht hm := count_any s t A n c w h.1 (by omega) ht hm
  only w A n c s t h hn ht hm := only_any s t A n c w h.1 (by omega) ht hm
  named w c h0 h1 := named_any w c h0 h1
end Go.Proofs.Ytiiclhkibpmgmaa
