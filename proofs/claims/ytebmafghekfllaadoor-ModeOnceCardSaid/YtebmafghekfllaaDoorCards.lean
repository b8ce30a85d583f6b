/-
  DERIVED. GIVEN WITH THE SEED: THE CARDS: each row of YtebmafghekfllaaDoorRows.lean that lists a variable, with what it lists TIED to the program's text (the seventh form; the later family's looks); each row that meets fmt, with fmt's text TOLD by the authors' own Lean function (tested against real Go, not proved from fmt's source: count such statements apart). THE CARD IS WHAT COUNTS. Prove the row's statement (the work); the ties are given (YtebmafghekfllaaDoorTie.lean); close each card by the builder's one call (the guide's Derived/Test/ToyasCard.lean, 'card_holds'). Laid BY PROGRAM, IN A SANDBOX (cutbox-door.mjs). By AI agents, Wed Nov 11 2026. No macro, syntax, notation, axiom, sorry.
-/
import Derived.Test.YtebmafghekfllaaDoorRows
import GoSem.ClaimSeven
namespace Go.Proofs.YtebmafghekfllaaDoor
namespace Rows

/-- THE TIED CARD OF 'reedbedlaw18.ModeLines'. -/
def modeLinesCard : Claim7 := { stood := { row := modeLinesRow, standIns := [], harness := (true, "2082f5a5f5c5d0a319ba018e748cfaee3247d544a36fae309a27875aff3cadfb"), looks := false }, kinds := [], alts := [], laidByText := true, laidKinds := [.data, .data, .data], laidTests := true, laidLooks := .later }
def ModeLinesCardSaid : Prop := Claim7.holds Tryd.pinned (.plain (OpenSpec.ofChange modeLinesSpec)) modeLinesCard

/-- THE TIED CARD OF 'reedbedlaw18.ModeOnce'. -/
def modeOnceCard : Claim7 := { stood := { row := modeOnceRow, standIns := [], harness := (true, "2082f5a5f5c5d0a319ba018e748cfaee3247d544a36fae309a27875aff3cadfb"), looks := false }, kinds := [], alts := [], laidByText := true, laidKinds := [.data, .data, .data], laidTests := true, laidLooks := .later }
def ModeOnceCardSaid : Prop := Claim7.holds Tryd.pinned (.plain (OpenSpec.ofChange modeOnceSpec)) modeOnceCard

/-- THE TIED CARD OF 'reedbedlaw18.ModeFirst'. -/
def modeFirstCard : Claim7 := { stood := { row := modeFirstRow, standIns := [], harness := (true, "2082f5a5f5c5d0a319ba018e748cfaee3247d544a36fae309a27875aff3cadfb"), looks := false }, kinds := [], alts := [], laidByText := true, laidKinds := [.data, .data, .data], laidTests := true, laidLooks := .later }
def ModeFirstCardSaid : Prop := Claim7.holds Tryd.pinned (.plain (OpenSpec.ofChange modeFirstSpec)) modeFirstCard

/-- THE TIED CARD OF 'reedbedlaw18.ModeCounts'. -/
def modeCountsCard : Claim7 := { stood := { row := modeCountsRow, standIns := [], harness := (true, "2082f5a5f5c5d0a319ba018e748cfaee3247d544a36fae309a27875aff3cadfb"), looks := false }, kinds := [], alts := [], laidByText := true, laidKinds := [.data, .data, .data], laidTests := true, laidLooks := .later }
def ModeCountsCardSaid : Prop := Claim7.holds Tryd.pinned (.plain (OpenSpec.ofChange modeCountsSpec)) modeCountsCard

/-- THE SECOND FORM's CARD OF 'reedbedlaw18.ModeLines'. -/
def modeLinesUptoCard : Claim7 := { stood := { row := modeLinesUptoRow, standIns := [], harness := (true, "2082f5a5f5c5d0a319ba018e748cfaee3247d544a36fae309a27875aff3cadfb"), looks := false }, kinds := [], alts := [], laidByText := true, laidKinds := [.data, .data, .data], laidTests := true, laidLooks := .later }
def ModeLinesUptoCardSaid : Prop := Claim7.holds Tryd.pinned (.plain (OpenSpec.upto modeLinesSpec)) modeLinesUptoCard

/-- THE SECOND FORM's CARD OF 'reedbedlaw18.ModeOnce'. -/
def modeOnceUptoCard : Claim7 := { stood := { row := modeOnceUptoRow, standIns := [], harness := (true, "2082f5a5f5c5d0a319ba018e748cfaee3247d544a36fae309a27875aff3cadfb"), looks := false }, kinds := [], alts := [], laidByText := true, laidKinds := [.data, .data, .data], laidTests := true, laidLooks := .later }
def ModeOnceUptoCardSaid : Prop := Claim7.holds Tryd.pinned (.plain (OpenSpec.upto modeOnceSpec)) modeOnceUptoCard

/-- THE SECOND FORM's CARD OF 'reedbedlaw18.ModeFirst'. -/
def modeFirstUptoCard : Claim7 := { stood := { row := modeFirstUptoRow, standIns := [], harness := (true, "2082f5a5f5c5d0a319ba018e748cfaee3247d544a36fae309a27875aff3cadfb"), looks := false }, kinds := [], alts := [], laidByText := true, laidKinds := [.data, .data, .data], laidTests := true, laidLooks := .later }
def ModeFirstUptoCardSaid : Prop := Claim7.holds Tryd.pinned (.plain (OpenSpec.upto modeFirstSpec)) modeFirstUptoCard

/-- THE SECOND FORM's CARD OF 'reedbedlaw18.ModeCounts'. -/
def modeCountsUptoCard : Claim7 := { stood := { row := modeCountsUptoRow, standIns := [], harness := (true, "2082f5a5f5c5d0a319ba018e748cfaee3247d544a36fae309a27875aff3cadfb"), looks := false }, kinds := [], alts := [], laidByText := true, laidKinds := [.data, .data, .data], laidTests := true, laidLooks := .later }
def ModeCountsUptoCardSaid : Prop := Claim7.holds Tryd.pinned (.plain (OpenSpec.upto modeCountsSpec)) modeCountsUptoCard
end Rows
end Go.Proofs.YtebmafghekfllaaDoor
