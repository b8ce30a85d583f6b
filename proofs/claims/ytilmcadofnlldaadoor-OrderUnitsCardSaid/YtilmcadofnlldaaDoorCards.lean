/-
  DERIVED. GIVEN WITH THE SEED: THE CARDS: each row of YtilmcadofnlldaaDoorRows.lean that lists a variable, with what it lists TIED to the program's text (the seventh form; the later family's looks); each row that meets fmt, with fmt's text TOLD by the authors' own Lean function (tested against real Go, not proved from fmt's source: count such statements apart). THE CARD IS WHAT COUNTS. Prove the row's statement (the work); the ties are given (YtilmcadofnlldaaDoorTie.lean); close each card by the builder's one call (the guide's Derived/Test/ToyasCard.lean, 'card_holds'). Laid BY PROGRAM, IN A SANDBOX (cutbox-door.mjs). By AI agents, Wed Nov 11 2026. No macro, syntax, notation, axiom, sorry.
-/
import Derived.Test.YtilmcadofnlldaaDoorRows
import GoSem.ClaimSeven
namespace Go.Proofs.YtilmcadofnlldaaDoor
namespace Rows

/-- THE TIED CARD OF 'reedbedlaw02.OrderMarks'. -/
def orderMarksCard : Claim7 := { stood := { row := orderMarksRow, standIns := [], harness := (true, "c9aca3697048671c779f10c104e9981a390ddb1053fb61d130f74d9994d7e31b"), looks := false }, kinds := [], alts := [], laidByText := true, laidKinds := [.data], laidTests := true, laidLooks := .later }
def OrderMarksCardSaid : Prop := Claim7.holds Tryd.pinned (.plain (OpenSpec.ofChange orderMarksSpec)) orderMarksCard

/-- THE TIED CARD OF 'reedbedlaw02.OrderUnits'. -/
def orderUnitsCard : Claim7 := { stood := { row := orderUnitsRow, standIns := [], harness := (true, "c9aca3697048671c779f10c104e9981a390ddb1053fb61d130f74d9994d7e31b"), looks := false }, kinds := [], alts := [], laidByText := true, laidKinds := [.data], laidTests := true, laidLooks := .later }
def OrderUnitsCardSaid : Prop := Claim7.holds Tryd.pinned (.plain (OpenSpec.ofChange orderUnitsSpec)) orderUnitsCard

/-- THE TIED CARD OF 'reedbedlaw02.OrderEncodes'. -/
def orderEncodesCard : Claim7 := { stood := { row := orderEncodesRow, standIns := [], harness := (true, "c9aca3697048671c779f10c104e9981a390ddb1053fb61d130f74d9994d7e31b"), looks := false }, kinds := [], alts := [], laidByText := true, laidKinds := [.data], laidTests := true, laidLooks := .later }
def OrderEncodesCardSaid : Prop := Claim7.holds Tryd.pinned (.plain (OpenSpec.ofChange orderEncodesSpec)) orderEncodesCard

/-- THE TIED CARD OF 'reedbedlaw02.OrderTurned'. -/
def orderTurnedCard : Claim7 := { stood := { row := orderTurnedRow, standIns := [], harness := (true, "c9aca3697048671c779f10c104e9981a390ddb1053fb61d130f74d9994d7e31b"), looks := false }, kinds := [], alts := [], laidByText := true, laidKinds := [.data], laidTests := true, laidLooks := .later }
def OrderTurnedCardSaid : Prop := Claim7.holds Tryd.pinned (.plain (OpenSpec.ofChange orderTurnedSpec)) orderTurnedCard

/-- THE SECOND FORM's CARD OF 'reedbedlaw02.OrderMarks'. -/
def orderMarksUptoCard : Claim7 := { stood := { row := orderMarksUptoRow, standIns := [], harness := (true, "c9aca3697048671c779f10c104e9981a390ddb1053fb61d130f74d9994d7e31b"), looks := false }, kinds := [], alts := [], laidByText := true, laidKinds := [.data], laidTests := true, laidLooks := .later }
def OrderMarksUptoCardSaid : Prop := Claim7.holds Tryd.pinned (.plain (OpenSpec.upto orderMarksSpec)) orderMarksUptoCard

/-- THE SECOND FORM's CARD OF 'reedbedlaw02.OrderUnits'. -/
def orderUnitsUptoCard : Claim7 := { stood := { row := orderUnitsUptoRow, standIns := [], harness := (true, "c9aca3697048671c779f10c104e9981a390ddb1053fb61d130f74d9994d7e31b"), looks := false }, kinds := [], alts := [], laidByText := true, laidKinds := [.data], laidTests := true, laidLooks := .later }
def OrderUnitsUptoCardSaid : Prop := Claim7.holds Tryd.pinned (.plain (OpenSpec.upto orderUnitsSpec)) orderUnitsUptoCard

/-- THE SECOND FORM's CARD OF 'reedbedlaw02.OrderEncodes'. -/
def orderEncodesUptoCard : Claim7 := { stood := { row := orderEncodesUptoRow, standIns := [], harness := (true, "c9aca3697048671c779f10c104e9981a390ddb1053fb61d130f74d9994d7e31b"), looks := false }, kinds := [], alts := [], laidByText := true, laidKinds := [.data], laidTests := true, laidLooks := .later }
def OrderEncodesUptoCardSaid : Prop := Claim7.holds Tryd.pinned (.plain (OpenSpec.upto orderEncodesSpec)) orderEncodesUptoCard

/-- THE SECOND FORM's CARD OF 'reedbedlaw02.OrderTurned'. -/
def orderTurnedUptoCard : Claim7 := { stood := { row := orderTurnedUptoRow, standIns := [], harness := (true, "c9aca3697048671c779f10c104e9981a390ddb1053fb61d130f74d9994d7e31b"), looks := false }, kinds := [], alts := [], laidByText := true, laidKinds := [.data], laidTests := true, laidLooks := .later }
def OrderTurnedUptoCardSaid : Prop := Claim7.holds Tryd.pinned (.plain (OpenSpec.upto orderTurnedSpec)) orderTurnedUptoCard
end Rows
end Go.Proofs.YtilmcadofnlldaaDoor
