/-
  DERIVED. GIVEN WITH THE SEED: THE CARDS: each row of YtfcjnoojcajljabGreatDoorRows.lean that lists a variable, with what it lists TIED to the program's text (the seventh form; the later family's looks); each row that meets fmt, with fmt's text TOLD by the authors' own Lean function (tested against real Go, not proved from fmt's source: count such statements apart). THE CARD IS WHAT COUNTS. Prove the row's statement (the work); the ties are given (YtfcjnoojcajljabGreatDoorTie.lean); close each card by the builder's one call (the guide's Derived/Test/ToyasCard.lean, 'card_holds'). Laid BY PROGRAM, IN A SANDBOX (cutbox-door.mjs). By AI agents, Wed Nov 11 2026. No macro, syntax, notation, axiom, sorry.
-/
import Derived.Test.YtfcjnoojcajljabGreatDoorRows
import GoSem.ClaimSeven
namespace Go.Proofs.YtfcjnoojcajljabGreatDoor
namespace Rows

/-- THE TIED CARD OF 'foliolaw04.PredOrders'. -/
def predOrdersCard : Claim7 := { stood := { row := predOrdersRow, standIns := [], harness := (true, "0de06ac382a64e00f7ff29f12cd0599b5e3cb5285844c216544e34a3a601bd99"), looks := false }, kinds := [], alts := [], laidByText := true, laidKinds := [.data, .data, .pinned], laidTests := true, laidLooks := .later }
def PredOrdersCardSaid : Prop := Claim7.holds Tryz.pinned (.plain (OpenSpec.ofChange predOrdersSpec)) predOrdersCard

/-- THE SECOND FORM's CARD OF 'foliolaw04.PredOrders'. -/
def predOrdersUptoCard : Claim7 := { stood := { row := predOrdersUptoRow, standIns := [], harness := (true, "0de06ac382a64e00f7ff29f12cd0599b5e3cb5285844c216544e34a3a601bd99"), looks := false }, kinds := [], alts := [], laidByText := true, laidKinds := [.data, .data, .pinned], laidTests := true, laidLooks := .later }
def PredOrdersUptoCardSaid : Prop := Claim7.holds Tryz.pinned (.plain (OpenSpec.upto predOrdersSpec)) predOrdersUptoCard
end Rows
end Go.Proofs.YtfcjnoojcajljabGreatDoor
