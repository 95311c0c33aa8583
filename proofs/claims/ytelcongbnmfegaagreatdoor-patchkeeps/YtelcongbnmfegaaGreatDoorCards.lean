/-
  DERIVED. GIVEN WITH THE SEED: THE CARDS: each row of YtelcongbnmfegaaGreatDoorRows.lean that lists a variable, with what it lists TIED to the program's text (the seventh form; the later family's looks); each row that meets fmt, with fmt's text TOLD by the authors' own Lean function (tested against real Go, not proved from fmt's source: count such statements apart). THE CARD IS WHAT COUNTS. Prove the row's statement (the work); the ties are given (YtelcongbnmfegaaGreatDoorTie.lean); close each card by the builder's one call (the guide's Derived/Test/ToyasCard.lean, 'card_holds'). Laid BY PROGRAM, IN A SANDBOX (cutbox-door.mjs). By AI agents, Wed Nov 11 2026. No macro, syntax, notation, axiom, sorry.
-/
import Derived.Test.YtelcongbnmfegaaGreatDoorRows
import GoSem.ClaimSeven
namespace Go.Proofs.YtelcongbnmfegaaGreatDoor
namespace Rows

/-- THE TIED CARD OF 'foliolaw08.PatchApplies'. -/
def patchAppliesCard : Claim7 := { stood := { row := patchAppliesRow, standIns := [], harness := (true, "7ee55d7ef78b7e83c717a0d430a381bfaf7bcfdea6642668db4bf3fb2a0e894c"), looks := false }, kinds := [], alts := [], laidByText := true, laidKinds := [.data, .data, .pinned], laidTests := true, laidLooks := .later }
def PatchAppliesCardSaid : Prop := Claim7.holds Tryz.pinned (.plain (OpenSpec.ofChange patchAppliesSpec)) patchAppliesCard

/-- THE TIED CARD OF 'foliolaw08.PatchDiffs'. -/
def patchDiffsCard : Claim7 := { stood := { row := patchDiffsRow, standIns := [], harness := (true, "7ee55d7ef78b7e83c717a0d430a381bfaf7bcfdea6642668db4bf3fb2a0e894c"), looks := false }, kinds := [], alts := [], laidByText := true, laidKinds := [.data, .data, .pinned], laidTests := true, laidLooks := .later }
def PatchDiffsCardSaid : Prop := Claim7.holds Tryz.pinned (.plain (OpenSpec.ofChange patchDiffsSpec)) patchDiffsCard

/-- THE TIED CARD OF 'foliolaw08.PatchLines'. -/
def patchLinesCard : Claim7 := { stood := { row := patchLinesRow, standIns := [], harness := (true, "7ee55d7ef78b7e83c717a0d430a381bfaf7bcfdea6642668db4bf3fb2a0e894c"), looks := false }, kinds := [], alts := [], laidByText := true, laidKinds := [.data, .data, .pinned], laidTests := true, laidLooks := .later }
def PatchLinesCardSaid : Prop := Claim7.holds Tryz.pinned (.plain (OpenSpec.ofChange patchLinesSpec)) patchLinesCard

/-- THE TIED CARD OF 'foliolaw08.PatchParses'. -/
def patchParsesCard : Claim7 := { stood := { row := patchParsesRow, standIns := [], harness := (true, "7ee55d7ef78b7e83c717a0d430a381bfaf7bcfdea6642668db4bf3fb2a0e894c"), looks := false }, kinds := [], alts := [], laidByText := true, laidKinds := [.data, .data, .pinned], laidTests := true, laidLooks := .later }
def PatchParsesCardSaid : Prop := Claim7.holds Tryz.pinned (.plain (OpenSpec.ofChange patchParsesSpec)) patchParsesCard

/-- THE TIED CARD OF 'foliolaw08.PatchPieces'. -/
def patchPiecesCard : Claim7 := { stood := { row := patchPiecesRow, standIns := [], harness := (true, "7ee55d7ef78b7e83c717a0d430a381bfaf7bcfdea6642668db4bf3fb2a0e894c"), looks := false }, kinds := [], alts := [], laidByText := true, laidKinds := [.data, .data, .pinned], laidTests := true, laidLooks := .later }
def PatchPiecesCardSaid : Prop := Claim7.holds Tryz.pinned (.plain (OpenSpec.ofChange patchPiecesSpec)) patchPiecesCard

/-- THE TIED CARD OF 'foliolaw08.PatchKeeps'. -/
def patchKeepsCard : Claim7 := { stood := { row := patchKeepsRow, standIns := [], harness := (true, "7ee55d7ef78b7e83c717a0d430a381bfaf7bcfdea6642668db4bf3fb2a0e894c"), looks := false }, kinds := [], alts := [], laidByText := true, laidKinds := [.data, .data, .pinned], laidTests := true, laidLooks := .later }
def PatchKeepsCardSaid : Prop := Claim7.holds Tryz.pinned (.plain (OpenSpec.ofChange patchKeepsSpec)) patchKeepsCard

/-- THE SECOND FORM's CARD OF 'foliolaw08.PatchApplies'. -/
def patchAppliesUptoCard : Claim7 := { stood := { row := patchAppliesUptoRow, standIns := [], harness := (true, "7ee55d7ef78b7e83c717a0d430a381bfaf7bcfdea6642668db4bf3fb2a0e894c"), looks := false }, kinds := [], alts := [], laidByText := true, laidKinds := [.data, .data, .pinned], laidTests := true, laidLooks := .later }
def PatchAppliesUptoCardSaid : Prop := Claim7.holds Tryz.pinned (.plain (OpenSpec.upto patchAppliesSpec)) patchAppliesUptoCard

/-- THE SECOND FORM's CARD OF 'foliolaw08.PatchDiffs'. -/
def patchDiffsUptoCard : Claim7 := { stood := { row := patchDiffsUptoRow, standIns := [], harness := (true, "7ee55d7ef78b7e83c717a0d430a381bfaf7bcfdea6642668db4bf3fb2a0e894c"), looks := false }, kinds := [], alts := [], laidByText := true, laidKinds := [.data, .data, .pinned], laidTests := true, laidLooks := .later }
def PatchDiffsUptoCardSaid : Prop := Claim7.holds Tryz.pinned (.plain (OpenSpec.upto patchDiffsSpec)) patchDiffsUptoCard

/-- THE SECOND FORM's CARD OF 'foliolaw08.PatchLines'. -/
def patchLinesUptoCard : Claim7 := { stood := { row := patchLinesUptoRow, standIns := [], harness := (true, "7ee55d7ef78b7e83c717a0d430a381bfaf7bcfdea6642668db4bf3fb2a0e894c"), looks := false }, kinds := [], alts := [], laidByText := true, laidKinds := [.data, .data, .pinned], laidTests := true, laidLooks := .later }
def PatchLinesUptoCardSaid : Prop := Claim7.holds Tryz.pinned (.plain (OpenSpec.upto patchLinesSpec)) patchLinesUptoCard

/-- THE SECOND FORM's CARD OF 'foliolaw08.PatchParses'. -/
def patchParsesUptoCard : Claim7 := { stood := { row := patchParsesUptoRow, standIns := [], harness := (true, "7ee55d7ef78b7e83c717a0d430a381bfaf7bcfdea6642668db4bf3fb2a0e894c"), looks := false }, kinds := [], alts := [], laidByText := true, laidKinds := [.data, .data, .pinned], laidTests := true, laidLooks := .later }
def PatchParsesUptoCardSaid : Prop := Claim7.holds Tryz.pinned (.plain (OpenSpec.upto patchParsesSpec)) patchParsesUptoCard

/-- THE SECOND FORM's CARD OF 'foliolaw08.PatchPieces'. -/
def patchPiecesUptoCard : Claim7 := { stood := { row := patchPiecesUptoRow, standIns := [], harness := (true, "7ee55d7ef78b7e83c717a0d430a381bfaf7bcfdea6642668db4bf3fb2a0e894c"), looks := false }, kinds := [], alts := [], laidByText := true, laidKinds := [.data, .data, .pinned], laidTests := true, laidLooks := .later }
def PatchPiecesUptoCardSaid : Prop := Claim7.holds Tryz.pinned (.plain (OpenSpec.upto patchPiecesSpec)) patchPiecesUptoCard

/-- THE SECOND FORM's CARD OF 'foliolaw08.PatchKeeps'. -/
def patchKeepsUptoCard : Claim7 := { stood := { row := patchKeepsUptoRow, standIns := [], harness := (true, "7ee55d7ef78b7e83c717a0d430a381bfaf7bcfdea6642668db4bf3fb2a0e894c"), looks := false }, kinds := [], alts := [], laidByText := true, laidKinds := [.data, .data, .pinned], laidTests := true, laidLooks := .later }
def PatchKeepsUptoCardSaid : Prop := Claim7.holds Tryz.pinned (.plain (OpenSpec.upto patchKeepsSpec)) patchKeepsUptoCard
end Rows
end Go.Proofs.YtelcongbnmfegaaGreatDoor
