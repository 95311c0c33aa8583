/-
  DERIVED. GIVEN WITH THE SEED: THE CARDS: each row of YtelcongbnmfegabGreatDoorRows.lean that lists a variable, with what it lists TIED to the program's text (the seventh form; the later family's looks); each row that meets fmt, with fmt's text TOLD by the authors' own Lean function (tested against real Go, not proved from fmt's source: count such statements apart). THE CARD IS WHAT COUNTS. Prove the row's statement (the work); the ties are given (YtelcongbnmfegabGreatDoorTie.lean); close each card by the builder's one call (the guide's Derived/Test/ToyasCard.lean, 'card_holds'). Laid BY PROGRAM, IN A SANDBOX (cutbox-door.mjs). By AI agents, Wed Nov 11 2026. No macro, syntax, notation, axiom, sorry.
-/
import Derived.Test.YtelcongbnmfegabGreatDoorRows
import GoSem.ClaimSeven
namespace Go.Proofs.YtelcongbnmfegabGreatDoor
namespace Rows

/-- THE TIED CARD OF 'foliolaw08.PatchEach'. -/
def patchEachCard : Claim7 := { stood := { row := patchEachRow, standIns := [], harness := (true, "7fd4f085bfce36aad4f56eb3f1d2b3b0cd35213e8db591c92fe21da0f1ee59f3"), looks := false }, kinds := [], alts := [], laidByText := true, laidKinds := [.data, .data, .pinned], laidTests := true, laidLooks := .later }
def PatchEachCardSaid : Prop := Claim7.holds Tryz.pinned (.plain (OpenSpec.ofChange patchEachSpec)) patchEachCard

/-- THE SECOND FORM's CARD OF 'foliolaw08.PatchEach'. -/
def patchEachUptoCard : Claim7 := { stood := { row := patchEachUptoRow, standIns := [], harness := (true, "7fd4f085bfce36aad4f56eb3f1d2b3b0cd35213e8db591c92fe21da0f1ee59f3"), looks := false }, kinds := [], alts := [], laidByText := true, laidKinds := [.data, .data, .pinned], laidTests := true, laidLooks := .later }
def PatchEachUptoCardSaid : Prop := Claim7.holds Tryz.pinned (.plain (OpenSpec.upto patchEachSpec)) patchEachUptoCard
end Rows
end Go.Proofs.YtelcongbnmfegabGreatDoor
