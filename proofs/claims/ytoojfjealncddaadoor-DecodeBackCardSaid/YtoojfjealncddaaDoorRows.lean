/-
  NARROWER THAN 'FOR EVERY INPUT', by the rows' own cells (each row's printed sentence says how): DecodeTexts: laid · DecodeBack: laid · DecodeKinds: laid · DecodeBegins: laid.
  DERIVED. THE GIVEN ROWS OF THIS SEAT. 4 by the template 'for every input the law returns true; each argument reads behind the call as it read before'; 0 by the template 'total and deterministic' (their statements: YtoojfjealncddaaDoorTotals.lean).
  GIVEN WITH THE SEED: the statements are not yours to turn. If you find one false, say at which input.
  Laid BY PROGRAM, IN A SANDBOX (cutbox-rows.mjs): the forced cells as the released guide's own fill.sh prints them over the translation 82abf7b36c4b815c… (all of the seat's roots in one cut). By AI agents, Wed Nov 11 2026. No macro, syntax, notation, axiom, sorry.
-/
import Derived.Test.YtoojfjealncddaaDoorChecked
import GoSem.Claim
import GoSem.ClaimJoined
import GoSem.ClaimMapViews
import Derived.JoinedTies
import Derived.KernelRfl
namespace Go.Proofs.YtoojfjealncddaaDoor
/- THE CELL 'sum', in the pinned program and in every row, IS THE sha256 OF THE DUMP (.gsa) THAT YtoojfjealncddaaDoorProg.lean LOADS. Nothing in Lean hashes anything: it is a label: what it is worth is what the hold of that sum in a sandbox is worth. -/
noncomputable def Tryd.pinned : Pinned := { name := "ytoojfjealncddaadoor", sum := "82abf7b36c4b815ce63a75ed24ba414d455dc96910c7a32a122a9dd6036372c3", checked := Tryd.checked }
namespace Rows
def none {H : Type} : Left H := { results := [], args := [] }

/- WHAT THE LISTED PACKAGE-LEVEL VARIABLES READ AS WHEN THE CALL BEGINS. Each datum BY PROGRAM (the guide's laid-datum.mjs) off the statement by which the dump's own 'gosem.cut.vars' lays the variable. In a bare row this is a premise. The card (YtoojfjealncddaaDoorCards.lean) ties it to the program's text. -/
def laid_reedbed_order_marks {H : Type} : DataW H := .agg [.agg [.lit (.int .i64 1), .lit (.string [239, 187, 191])], .agg [.lit (.int .i64 2), .lit (.string [255, 254])], .agg [.lit (.int .i64 3), .lit (.string [254, 255])]]

/-- 'reedbedlaw03.DecodeTexts': WHATEVER THE INPUT: true; the input reads as it did. -/
def decodeTextsSpec : ChangeSpec := { name := "decodeTexts", fn := fun _ => fun
  | [d1, d2] => { results := [.lit (.bool true)], args := [d1, d2] }
  | _ => none }
def decodeTextsRow : OpenClaim := { program := "ytoojfjealncddaadoor", sum := "82abf7b36c4b815ce63a75ed24ba414d455dc96910c7a32a122a9dd6036372c3", func := "reedbed/reedbedlaw03.DecodeTexts", spec := "decodeTexts", unfollowed := true, recurses := true, named := ["reedbed/order.marks"], apart := false, laid := [("reedbed/order.marks", laid_reedbed_order_marks)] }
def DecodeTextsSaid : Prop := decodeTextsRow.holds Tryd.pinned (OpenSpec.ofChange decodeTextsSpec)

/-- ITS FALSE NEIGHBOUR: 'it returns false'. Refute it at one input. -/
def decodeTextsWrong : ChangeSpec := { name := "decodeTexts", fn := fun _ => fun
  | [d1, d2] => { results := [.lit (.bool false)], args := [d1, d2] }
  | _ => none }
def DecodeTextsWrongFalsely : Prop := decodeTextsRow.holds Tryd.pinned (OpenSpec.ofChange decodeTextsWrong)

/-- 'reedbedlaw03.DecodeBack': WHATEVER THE INPUT: true; the input reads as it did. -/
def decodeBackSpec : ChangeSpec := { name := "decodeBack", fn := fun _ => fun
  | [d1, d2, d3] => { results := [.lit (.bool true)], args := [d1, d2, d3] }
  | _ => none }
def decodeBackRow : OpenClaim := { program := "ytoojfjealncddaadoor", sum := "82abf7b36c4b815ce63a75ed24ba414d455dc96910c7a32a122a9dd6036372c3", func := "reedbed/reedbedlaw03.DecodeBack", spec := "decodeBack", unfollowed := true, recurses := true, named := ["reedbed/order.marks"], apart := false, laid := [("reedbed/order.marks", laid_reedbed_order_marks)] }
def DecodeBackSaid : Prop := decodeBackRow.holds Tryd.pinned (OpenSpec.ofChange decodeBackSpec)

/-- ITS FALSE NEIGHBOUR: 'it returns false'. Refute it at one input. -/
def decodeBackWrong : ChangeSpec := { name := "decodeBack", fn := fun _ => fun
  | [d1, d2, d3] => { results := [.lit (.bool false)], args := [d1, d2, d3] }
  | _ => none }
def DecodeBackWrongFalsely : Prop := decodeBackRow.holds Tryd.pinned (OpenSpec.ofChange decodeBackWrong)

/-- 'reedbedlaw03.DecodeKinds': WHATEVER THE INPUT: true; the input reads as it did. -/
def decodeKindsSpec : ChangeSpec := { name := "decodeKinds", fn := fun _ => fun
  | [d1, d2, d3] => { results := [.lit (.bool true)], args := [d1, d2, d3] }
  | _ => none }
def decodeKindsRow : OpenClaim := { program := "ytoojfjealncddaadoor", sum := "82abf7b36c4b815ce63a75ed24ba414d455dc96910c7a32a122a9dd6036372c3", func := "reedbed/reedbedlaw03.DecodeKinds", spec := "decodeKinds", unfollowed := true, recurses := true, named := ["reedbed/order.marks"], apart := false, laid := [("reedbed/order.marks", laid_reedbed_order_marks)] }
def DecodeKindsSaid : Prop := decodeKindsRow.holds Tryd.pinned (OpenSpec.ofChange decodeKindsSpec)

/-- ITS FALSE NEIGHBOUR: 'it returns false'. Refute it at one input. -/
def decodeKindsWrong : ChangeSpec := { name := "decodeKinds", fn := fun _ => fun
  | [d1, d2, d3] => { results := [.lit (.bool false)], args := [d1, d2, d3] }
  | _ => none }
def DecodeKindsWrongFalsely : Prop := decodeKindsRow.holds Tryd.pinned (OpenSpec.ofChange decodeKindsWrong)

/-- 'reedbedlaw03.DecodeBegins': WHATEVER THE INPUT: true; the input reads as it did. -/
def decodeBeginsSpec : ChangeSpec := { name := "decodeBegins", fn := fun _ => fun
  | [d1, d2, d3] => { results := [.lit (.bool true)], args := [d1, d2, d3] }
  | _ => none }
def decodeBeginsRow : OpenClaim := { program := "ytoojfjealncddaadoor", sum := "82abf7b36c4b815ce63a75ed24ba414d455dc96910c7a32a122a9dd6036372c3", func := "reedbed/reedbedlaw03.DecodeBegins", spec := "decodeBegins", unfollowed := true, recurses := true, named := ["reedbed/order.marks"], apart := false, laid := [("reedbed/order.marks", laid_reedbed_order_marks)] }
def DecodeBeginsSaid : Prop := decodeBeginsRow.holds Tryd.pinned (OpenSpec.ofChange decodeBeginsSpec)

/-- ITS FALSE NEIGHBOUR: 'it returns false'. Refute it at one input. -/
def decodeBeginsWrong : ChangeSpec := { name := "decodeBegins", fn := fun _ => fun
  | [d1, d2, d3] => { results := [.lit (.bool false)], args := [d1, d2, d3] }
  | _ => none }
def DecodeBeginsWrongFalsely : Prop := decodeBeginsRow.holds Tryd.pinned (OpenSpec.ofChange decodeBeginsWrong)

/- THE SECOND FORM. 'bulk': how many values and letters a reading holds, each counted each time it is reached (what is shared counts as often as it is met; a slice's spare places count too). A statement '..UptoSaid' is the law's where the arguments, and the package variables that the reading takes, are together of bulk at most 1048576: NARROWER than '..Said'. Prove '..Said' where nothing that the law and all that it calls make is longer than what came in: it says more and counts as full. Else prove '..UptoSaid'. A law counts once. -/
mutual
def uptoBulk {H : Type} : DataW H → Nat
  | .lit (.string bytes) => bytes.length + 1
  | .lit _ => 1
  | .nil => 1
  | .ptr d => uptoBulk d + 1
  | .slice elems spare => uptoBulkAll elems + uptoBulkAll spare + 1
  | .agg parts => uptoBulkAll parts + 1
  | .iface _ d => uptoBulk d + 1
  | .map entries => uptoBulkEntries entries + 1
  | .held _ => 1
def uptoBulkAll {H : Type} : List (DataW H) → Nat
  | [] => 0
  | d :: r => uptoBulk d + uptoBulkAll r
def uptoBulkEntries {H : Type} : List (Lit × DataW H) → Nat
  | [] => 0
  | x :: r => uptoBulkEntry x + uptoBulkEntries r
def uptoBulkEntry {H : Type} : Lit × DataW H → Nat
  | (.string bytes, d) => bytes.length + uptoBulk d + 1
  | (_, d) => uptoBulk d + 1
 end
def uptoSmall : (H : Type) → List (DataW H) → Bool := fun _ ds => decide (uptoBulkAll ds ≤ 1048576)
def OpenSpec.upto (s : _root_.Go.ChangeSpec) : _root_.Go.OpenSpec := { _root_.Go.OpenSpec.ofChange s with cond := some uptoSmall }

/-- 'reedbedlaw03.DecodeTexts', WHERE WHAT IT READS IS OF BULK AT MOST 1048576: true; the input reads as it did. -/
def decodeTextsUptoRow : OpenClaim := { program := "ytoojfjealncddaadoor", sum := "82abf7b36c4b815ce63a75ed24ba414d455dc96910c7a32a122a9dd6036372c3", func := "reedbed/reedbedlaw03.DecodeTexts", spec := "decodeTexts", unfollowed := true, recurses := true, named := ["reedbed/order.marks"], apart := false, laid := [("reedbed/order.marks", laid_reedbed_order_marks)], narrowed := true }
def DecodeTextsUptoSaid : Prop := decodeTextsUptoRow.holds Tryd.pinned (OpenSpec.upto decodeTextsSpec)

/-- 'reedbedlaw03.DecodeBack', WHERE WHAT IT READS IS OF BULK AT MOST 1048576: true; the input reads as it did. -/
def decodeBackUptoRow : OpenClaim := { program := "ytoojfjealncddaadoor", sum := "82abf7b36c4b815ce63a75ed24ba414d455dc96910c7a32a122a9dd6036372c3", func := "reedbed/reedbedlaw03.DecodeBack", spec := "decodeBack", unfollowed := true, recurses := true, named := ["reedbed/order.marks"], apart := false, laid := [("reedbed/order.marks", laid_reedbed_order_marks)], narrowed := true }
def DecodeBackUptoSaid : Prop := decodeBackUptoRow.holds Tryd.pinned (OpenSpec.upto decodeBackSpec)

/-- 'reedbedlaw03.DecodeKinds', WHERE WHAT IT READS IS OF BULK AT MOST 1048576: true; the input reads as it did. -/
def decodeKindsUptoRow : OpenClaim := { program := "ytoojfjealncddaadoor", sum := "82abf7b36c4b815ce63a75ed24ba414d455dc96910c7a32a122a9dd6036372c3", func := "reedbed/reedbedlaw03.DecodeKinds", spec := "decodeKinds", unfollowed := true, recurses := true, named := ["reedbed/order.marks"], apart := false, laid := [("reedbed/order.marks", laid_reedbed_order_marks)], narrowed := true }
def DecodeKindsUptoSaid : Prop := decodeKindsUptoRow.holds Tryd.pinned (OpenSpec.upto decodeKindsSpec)

/-- 'reedbedlaw03.DecodeBegins', WHERE WHAT IT READS IS OF BULK AT MOST 1048576: true; the input reads as it did. -/
def decodeBeginsUptoRow : OpenClaim := { program := "ytoojfjealncddaadoor", sum := "82abf7b36c4b815ce63a75ed24ba414d455dc96910c7a32a122a9dd6036372c3", func := "reedbed/reedbedlaw03.DecodeBegins", spec := "decodeBegins", unfollowed := true, recurses := true, named := ["reedbed/order.marks"], apart := false, laid := [("reedbed/order.marks", laid_reedbed_order_marks)], narrowed := true }
def DecodeBeginsUptoSaid : Prop := decodeBeginsUptoRow.holds Tryd.pinned (OpenSpec.upto decodeBeginsSpec)

end Rows
end Go.Proofs.YtoojfjealncddaaDoor
