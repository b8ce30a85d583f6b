/-
  DERIVED. GIVEN WITH THE SEED: THE CARDS: each row of YtoojfjealncddaaDoorRows.lean that lists a variable, with what it lists TIED to the program's text (the seventh form; the later family's looks); each row that meets fmt, with fmt's text TOLD by the authors' own Lean function (tested against real Go, not proved from fmt's source: count such statements apart). THE CARD IS WHAT COUNTS. Prove the row's statement (the work); the ties are given (YtoojfjealncddaaDoorTie.lean); close each card by the builder's one call (the guide's Derived/Test/ToyasCard.lean, 'card_holds'). Laid BY PROGRAM, IN A SANDBOX (cutbox-door.mjs). By AI agents, Wed Nov 11 2026. No macro, syntax, notation, axiom, sorry.
-/
import Derived.Test.YtoojfjealncddaaDoorRows
import GoSem.ClaimSeven
namespace Go.Proofs.YtoojfjealncddaaDoor
namespace Rows

/-- THE TIED CARD OF 'reedbedlaw03.DecodeTexts'. -/
def decodeTextsCard : Claim7 := { stood := { row := decodeTextsRow, standIns := [], harness := (true, "1e326a591cdf6cdeacf7378fbb02df77d2f4a733a38edc62d8859c4520a4b29c"), looks := false }, kinds := [], alts := [], laidByText := true, laidKinds := [.data], laidTests := true, laidLooks := .later }
def DecodeTextsCardSaid : Prop := Claim7.holds Tryd.pinned (.plain (OpenSpec.ofChange decodeTextsSpec)) decodeTextsCard

/-- THE TIED CARD OF 'reedbedlaw03.DecodeBack'. -/
def decodeBackCard : Claim7 := { stood := { row := decodeBackRow, standIns := [], harness := (true, "1e326a591cdf6cdeacf7378fbb02df77d2f4a733a38edc62d8859c4520a4b29c"), looks := false }, kinds := [], alts := [], laidByText := true, laidKinds := [.data], laidTests := true, laidLooks := .later }
def DecodeBackCardSaid : Prop := Claim7.holds Tryd.pinned (.plain (OpenSpec.ofChange decodeBackSpec)) decodeBackCard

/-- THE TIED CARD OF 'reedbedlaw03.DecodeKinds'. -/
def decodeKindsCard : Claim7 := { stood := { row := decodeKindsRow, standIns := [], harness := (true, "1e326a591cdf6cdeacf7378fbb02df77d2f4a733a38edc62d8859c4520a4b29c"), looks := false }, kinds := [], alts := [], laidByText := true, laidKinds := [.data], laidTests := true, laidLooks := .later }
def DecodeKindsCardSaid : Prop := Claim7.holds Tryd.pinned (.plain (OpenSpec.ofChange decodeKindsSpec)) decodeKindsCard

/-- THE TIED CARD OF 'reedbedlaw03.DecodeBegins'. -/
def decodeBeginsCard : Claim7 := { stood := { row := decodeBeginsRow, standIns := [], harness := (true, "1e326a591cdf6cdeacf7378fbb02df77d2f4a733a38edc62d8859c4520a4b29c"), looks := false }, kinds := [], alts := [], laidByText := true, laidKinds := [.data], laidTests := true, laidLooks := .later }
def DecodeBeginsCardSaid : Prop := Claim7.holds Tryd.pinned (.plain (OpenSpec.ofChange decodeBeginsSpec)) decodeBeginsCard

/-- THE SECOND FORM's CARD OF 'reedbedlaw03.DecodeTexts'. -/
def decodeTextsUptoCard : Claim7 := { stood := { row := decodeTextsUptoRow, standIns := [], harness := (true, "1e326a591cdf6cdeacf7378fbb02df77d2f4a733a38edc62d8859c4520a4b29c"), looks := false }, kinds := [], alts := [], laidByText := true, laidKinds := [.data], laidTests := true, laidLooks := .later }
def DecodeTextsUptoCardSaid : Prop := Claim7.holds Tryd.pinned (.plain (OpenSpec.upto decodeTextsSpec)) decodeTextsUptoCard

/-- THE SECOND FORM's CARD OF 'reedbedlaw03.DecodeBack'. -/
def decodeBackUptoCard : Claim7 := { stood := { row := decodeBackUptoRow, standIns := [], harness := (true, "1e326a591cdf6cdeacf7378fbb02df77d2f4a733a38edc62d8859c4520a4b29c"), looks := false }, kinds := [], alts := [], laidByText := true, laidKinds := [.data], laidTests := true, laidLooks := .later }
def DecodeBackUptoCardSaid : Prop := Claim7.holds Tryd.pinned (.plain (OpenSpec.upto decodeBackSpec)) decodeBackUptoCard

/-- THE SECOND FORM's CARD OF 'reedbedlaw03.DecodeKinds'. -/
def decodeKindsUptoCard : Claim7 := { stood := { row := decodeKindsUptoRow, standIns := [], harness := (true, "1e326a591cdf6cdeacf7378fbb02df77d2f4a733a38edc62d8859c4520a4b29c"), looks := false }, kinds := [], alts := [], laidByText := true, laidKinds := [.data], laidTests := true, laidLooks := .later }
def DecodeKindsUptoCardSaid : Prop := Claim7.holds Tryd.pinned (.plain (OpenSpec.upto decodeKindsSpec)) decodeKindsUptoCard

/-- THE SECOND FORM's CARD OF 'reedbedlaw03.DecodeBegins'. -/
def decodeBeginsUptoCard : Claim7 := { stood := { row := decodeBeginsUptoRow, standIns := [], harness := (true, "1e326a591cdf6cdeacf7378fbb02df77d2f4a733a38edc62d8859c4520a4b29c"), looks := false }, kinds := [], alts := [], laidByText := true, laidKinds := [.data], laidTests := true, laidLooks := .later }
def DecodeBeginsUptoCardSaid : Prop := Claim7.holds Tryd.pinned (.plain (OpenSpec.upto decodeBeginsSpec)) decodeBeginsUptoCard
end Rows
end Go.Proofs.YtoojfjealncddaaDoor
