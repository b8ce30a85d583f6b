/-
  No cell of these rows narrows 'for every input' (looked for: loops, veiled, ifaces, maps, wideKeys, modest, calm, conditions, laid).
  DERIVED. THE GIVEN ROWS OF THIS SEAT. 2 by the template 'for every input the law returns true; each argument reads behind the call as it read before'; 0 by the template 'total and deterministic' (their statements: YtlgpidpnjmbknaaTotals.lean).
  GIVEN WITH THE SEED: the statements are not yours to turn. If you find one false, say at which input.
  Laid BY PROGRAM, IN A SANDBOX (cutbox-rows.mjs): the forced cells as the released guide's own fill.sh prints them over the translation ba4e03f99b0f58e9… (all of the seat's roots in one cut). By AI agents, Wed Nov 11 2026. No macro, syntax, notation, axiom, sorry.
-/
import Derived.Test.YtlgpidpnjmbknaaChecked
import GoSem.Claim
import GoSem.ClaimJoined
import GoSem.ClaimMapViews
import Derived.JoinedTies
import Derived.KernelRfl
namespace Go.Proofs.Ytlgpidpnjmbknaa
/- THE CELL 'sum', in the pinned program and in every row, IS THE sha256 OF THE DUMP (.gsa) THAT YtlgpidpnjmbknaaProg.lean LOADS. Nothing in Lean hashes anything: it is a label: what it is worth is what the hold of that sum in a sandbox is worth. -/
noncomputable def Try.pinned : Pinned := { name := "ytlgpidpnjmbknaa", sum := "ba4e03f99b0f58e97786a217623f14f297dab9278a9e75d57559fbd10f0c2f9b", checked := Try.checked }
namespace Rows
def none {H : Type} : Left H := { results := [], args := [] }

/-- 'reedbedlaw16.CellFirst': WHATEVER THE INPUT: true; the input reads as it did. -/
def cellFirstSpec : ChangeSpec := { name := "cellFirst", fn := fun _ => fun
  | [d] => { results := [.lit (.bool true)], args := [d] }
  | _ => none }
def cellFirstRow : OpenClaim := { program := "ytlgpidpnjmbknaa", sum := "ba4e03f99b0f58e97786a217623f14f297dab9278a9e75d57559fbd10f0c2f9b", func := "reedbed/reedbedlaw16.CellFirst", spec := "cellFirst", apart := false }
def CellFirstSaid : Prop := cellFirstRow.holds Try.pinned (OpenSpec.ofChange cellFirstSpec)

/-- ITS FALSE NEIGHBOUR: 'it returns false'. Refute it at one input. -/
def cellFirstWrong : ChangeSpec := { name := "cellFirst", fn := fun _ => fun
  | [d] => { results := [.lit (.bool false)], args := [d] }
  | _ => none }
def CellFirstWrongFalsely : Prop := cellFirstRow.holds Try.pinned (OpenSpec.ofChange cellFirstWrong)

/-- 'reedbedlaw16.CellNotes': WHATEVER THE INPUT: true; the input reads as it did. -/
def cellNotesSpec : ChangeSpec := { name := "cellNotes", fn := fun _ => fun
  | [d1, d2, d3] => { results := [.lit (.bool true)], args := [d1, d2, d3] }
  | _ => none }
def cellNotesRow : OpenClaim := { program := "ytlgpidpnjmbknaa", sum := "ba4e03f99b0f58e97786a217623f14f297dab9278a9e75d57559fbd10f0c2f9b", func := "reedbed/reedbedlaw16.CellNotes", spec := "cellNotes", inPlace := ["internal/reflectlite.TypeOf"], unfollowed := true, recurses := true, apart := false }
def CellNotesSaid : Prop := cellNotesRow.holds Try.pinned (OpenSpec.ofChange cellNotesSpec)

/-- ITS FALSE NEIGHBOUR: 'it returns false'. Refute it at one input. -/
def cellNotesWrong : ChangeSpec := { name := "cellNotes", fn := fun _ => fun
  | [d1, d2, d3] => { results := [.lit (.bool false)], args := [d1, d2, d3] }
  | _ => none }
def CellNotesWrongFalsely : Prop := cellNotesRow.holds Try.pinned (OpenSpec.ofChange cellNotesWrong)

/- THE SECOND FORM. 'bulk': how many values and letters a reading holds, each counted each time it is reached (what is shared counts as often as it is met; a slice's spare places count too). A statement '..UptoSaid' is the law's where the arguments, and the package variables that the reading takes, are together of bulk at most 1048576: NARROWER than '..Said'. Prove '..Said' where nothing that the law and all that it calls make is longer than what came in: it says more and counts as full. Else prove '..UptoSaid'. A law counts once. -/
mutual
def uptoBulk {H : Type} : DataW H → Nat
  | .lit (.string bytes) => bytes.length + 1
  | .lit _ => 1
  | .nil => 1
  | .ptr d => uptoBulk d + 1
  | .slice elems spare => uptoBulkAll elems + uptoBulkAll spare + 1
  | .agg parts => uptoBulkAll parts + 1
  | .iface _ d => uptoBulk d + 1
  | .map entries => uptoBulkEntries entries + 1
  | .held _ => 1
def uptoBulkAll {H : Type} : List (DataW H) → Nat
  | [] => 0
  | d :: r => uptoBulk d + uptoBulkAll r
def uptoBulkEntries {H : Type} : List (Lit × DataW H) → Nat
  | [] => 0
  | x :: r => uptoBulkEntry x + uptoBulkEntries r
def uptoBulkEntry {H : Type} : Lit × DataW H → Nat
  | (.string bytes, d) => bytes.length + uptoBulk d + 1
  | (_, d) => uptoBulk d + 1
 end
def uptoSmall : (H : Type) → List (DataW H) → Bool := fun _ ds => decide (uptoBulkAll ds ≤ 1048576)
def OpenSpec.upto (s : _root_.Go.ChangeSpec) : _root_.Go.OpenSpec := { _root_.Go.OpenSpec.ofChange s with cond := some uptoSmall }

/-- 'reedbedlaw16.CellFirst', WHERE WHAT IT READS IS OF BULK AT MOST 1048576: true; the input reads as it did. -/
def cellFirstUptoRow : OpenClaim := { program := "ytlgpidpnjmbknaa", sum := "ba4e03f99b0f58e97786a217623f14f297dab9278a9e75d57559fbd10f0c2f9b", func := "reedbed/reedbedlaw16.CellFirst", spec := "cellFirst", apart := false, narrowed := true }
def CellFirstUptoSaid : Prop := cellFirstUptoRow.holds Try.pinned (OpenSpec.upto cellFirstSpec)

/-- 'reedbedlaw16.CellNotes', WHERE WHAT IT READS IS OF BULK AT MOST 1048576: true; the input reads as it did. -/
def cellNotesUptoRow : OpenClaim := { program := "ytlgpidpnjmbknaa", sum := "ba4e03f99b0f58e97786a217623f14f297dab9278a9e75d57559fbd10f0c2f9b", func := "reedbed/reedbedlaw16.CellNotes", spec := "cellNotes", inPlace := ["internal/reflectlite.TypeOf"], unfollowed := true, recurses := true, apart := false, narrowed := true }
def CellNotesUptoSaid : Prop := cellNotesUptoRow.holds Try.pinned (OpenSpec.upto cellNotesSpec)

end Rows
end Go.Proofs.Ytlgpidpnjmbknaa
