/-
  DERIVED. GIVEN WITH THE SEED: THE CARDS: each row of YtjeogllmpjihaaaGreatDoorRows.lean that lists a variable, with what it lists TIED to the program's text (the seventh form; the later family's looks); each row that meets fmt, with fmt's text TOLD by the authors' own Lean function (tested against real Go, not proved from fmt's source: count such statements apart). THE CARD IS WHAT COUNTS. Prove the row's statement (the work); the ties are given (YtjeogllmpjihaaaGreatDoorTie.lean); close each card by the builder's one call (the guide's Derived/Test/ToyasCard.lean, 'card_holds'). Laid BY PROGRAM, IN A SANDBOX (cutbox-door.mjs). By AI agents, Wed Nov 11 2026. No macro, syntax, notation, axiom, sorry.
-/
import Derived.Test.YtjeogllmpjihaaaGreatDoorRows
import GoSem.ClaimSeven
namespace Go.Proofs.YtjeogllmpjihaaaGreatDoor
namespace Rows

/-- THE TIED CARD OF 'foliolaw16.OpParses'. -/
def opParsesCard : Claim7 := { stood := { row := opParsesRow, standIns := [], harness := (true, "b068a4c08ab11e94697a1a592b25dac2ca85aa007fa05ad7c1b7b7a25828d16b"), looks := true }, kinds := [], alts := [], laidByText := true, laidKinds := [.data, .data, .data, .data, .sentinel, .sentinel, .data, .pinned], laidTests := true, laidLooks := .later }
def OpParsesCardSaid : Prop := Claim7.holds Tryz.pinned (.plain (OpenSpec.ofChange opParsesSpec)) opParsesCard

/-- THE TIED CARD OF 'foliolaw16.OpKeeps'. -/
def opKeepsCard : Claim7 := { stood := { row := opKeepsRow, standIns := [], harness := (true, "b068a4c08ab11e94697a1a592b25dac2ca85aa007fa05ad7c1b7b7a25828d16b"), looks := true }, kinds := [], alts := [], laidByText := true, laidKinds := [.data, .data, .data, .data, .sentinel, .sentinel, .data, .pinned], laidTests := true, laidLooks := .later }
def OpKeepsCardSaid : Prop := Claim7.holds Tryz.pinned (.plain (OpenSpec.ofChange opKeepsSpec)) opKeepsCard

/-- THE SECOND FORM's CARD OF 'foliolaw16.OpParses'. -/
def opParsesUptoCard : Claim7 := { stood := { row := opParsesUptoRow, standIns := [], harness := (true, "b068a4c08ab11e94697a1a592b25dac2ca85aa007fa05ad7c1b7b7a25828d16b"), looks := true }, kinds := [], alts := [], laidByText := true, laidKinds := [.data, .data, .data, .data, .sentinel, .sentinel, .data, .pinned], laidTests := true, laidLooks := .later }
def OpParsesUptoCardSaid : Prop := Claim7.holds Tryz.pinned (.plain (OpenSpec.upto opParsesSpec)) opParsesUptoCard

/-- THE SECOND FORM's CARD OF 'foliolaw16.OpKeeps'. -/
def opKeepsUptoCard : Claim7 := { stood := { row := opKeepsUptoRow, standIns := [], harness := (true, "b068a4c08ab11e94697a1a592b25dac2ca85aa007fa05ad7c1b7b7a25828d16b"), looks := true }, kinds := [], alts := [], laidByText := true, laidKinds := [.data, .data, .data, .data, .sentinel, .sentinel, .data, .pinned], laidTests := true, laidLooks := .later }
def OpKeepsUptoCardSaid : Prop := Claim7.holds Tryz.pinned (.plain (OpenSpec.upto opKeepsSpec)) opKeepsUptoCard
end Rows
end Go.Proofs.YtjeogllmpjihaaaGreatDoor
