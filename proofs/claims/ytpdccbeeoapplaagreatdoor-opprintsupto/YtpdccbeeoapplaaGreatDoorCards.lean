/-
  DERIVED. GIVEN WITH THE SEED: THE CARDS: each row of YtpdccbeeoapplaaGreatDoorRows.lean that lists a variable, with what it lists TIED to the program's text (the seventh form; the later family's looks); each row that meets fmt, with fmt's text TOLD by the authors' own Lean function (tested against real Go, not proved from fmt's source: count such statements apart). THE CARD IS WHAT COUNTS. Prove the row's statement (the work); the ties are given (YtpdccbeeoapplaaGreatDoorTie.lean); close each card by the builder's one call (the guide's Derived/Test/ToyasCard.lean, 'card_holds'). Laid BY PROGRAM, IN A SANDBOX (cutbox-door.mjs). By AI agents, Wed Nov 11 2026. No macro, syntax, notation, axiom, sorry.
-/
import Derived.Test.YtpdccbeeoapplaaGreatDoorRows
import GoSem.ClaimSeven
namespace Go.Proofs.YtpdccbeeoapplaaGreatDoor
namespace Rows

/-- THE TIED CARD OF 'foliolaw16.OpPrints'. -/
def opPrintsCard : Claim7 := { stood := { row := opPrintsRow, standIns := [], harness := (true, "e1ae4382617f6459d7b8065fe1d4b1fbaf844d4713e4e5b89fcd16c5de6be1ba"), looks := true }, kinds := [], alts := [], laidByText := true, laidKinds := [.data, .data, .data, .data, .sentinel, .sentinel, .data, .pinned], laidTests := true, laidLooks := .later }
def OpPrintsCardSaid : Prop := Claim7.holds Tryz.pinned (.plain (OpenSpec.ofChange opPrintsSpec)) opPrintsCard

/-- THE TIED CARD OF 'foliolaw16.OpParses'. -/
def opParsesCard : Claim7 := { stood := { row := opParsesRow, standIns := [], harness := (true, "e1ae4382617f6459d7b8065fe1d4b1fbaf844d4713e4e5b89fcd16c5de6be1ba"), looks := true }, kinds := [], alts := [], laidByText := true, laidKinds := [.data, .data, .data, .data, .sentinel, .sentinel, .data, .pinned], laidTests := true, laidLooks := .later }
def OpParsesCardSaid : Prop := Claim7.holds Tryz.pinned (.plain (OpenSpec.ofChange opParsesSpec)) opParsesCard

/-- THE TIED CARD OF 'foliolaw16.OpStays'. -/
def opStaysCard : Claim7 := { stood := { row := opStaysRow, standIns := [], harness := (true, "e1ae4382617f6459d7b8065fe1d4b1fbaf844d4713e4e5b89fcd16c5de6be1ba"), looks := true }, kinds := [], alts := [], laidByText := true, laidKinds := [.data, .data, .data, .data, .sentinel, .sentinel, .data, .pinned], laidTests := true, laidLooks := .later }
def OpStaysCardSaid : Prop := Claim7.holds Tryz.pinned (.plain (OpenSpec.ofChange opStaysSpec)) opStaysCard

/-- THE TIED CARD OF 'foliolaw16.OpEquals'. -/
def opEqualsCard : Claim7 := { stood := { row := opEqualsRow, standIns := [], harness := (true, "e1ae4382617f6459d7b8065fe1d4b1fbaf844d4713e4e5b89fcd16c5de6be1ba"), looks := true }, kinds := [], alts := [], laidByText := true, laidKinds := [.data, .data, .data, .data, .sentinel, .sentinel, .data, .pinned], laidTests := true, laidLooks := .later }
def OpEqualsCardSaid : Prop := Claim7.holds Tryz.pinned (.plain (OpenSpec.ofChange opEqualsSpec)) opEqualsCard

/-- THE TIED CARD OF 'foliolaw16.OpKeeps'. -/
def opKeepsCard : Claim7 := { stood := { row := opKeepsRow, standIns := [], harness := (true, "e1ae4382617f6459d7b8065fe1d4b1fbaf844d4713e4e5b89fcd16c5de6be1ba"), looks := true }, kinds := [], alts := [], laidByText := true, laidKinds := [.data, .data, .data, .data, .sentinel, .sentinel, .data, .pinned], laidTests := true, laidLooks := .later }
def OpKeepsCardSaid : Prop := Claim7.holds Tryz.pinned (.plain (OpenSpec.ofChange opKeepsSpec)) opKeepsCard

/-- THE TIED CARD OF 'foliolaw16.OpJoins'. -/
def opJoinsCard : Claim7 := { stood := { row := opJoinsRow, standIns := [], harness := (true, "e1ae4382617f6459d7b8065fe1d4b1fbaf844d4713e4e5b89fcd16c5de6be1ba"), looks := true }, kinds := [], alts := [], laidByText := true, laidKinds := [.data, .data, .data, .data, .sentinel, .sentinel, .data, .pinned], laidTests := true, laidLooks := .later }
def OpJoinsCardSaid : Prop := Claim7.holds Tryz.pinned (.plain (OpenSpec.ofChange opJoinsSpec)) opJoinsCard

/-- THE SECOND FORM's CARD OF 'foliolaw16.OpPrints'. -/
def opPrintsUptoCard : Claim7 := { stood := { row := opPrintsUptoRow, standIns := [], harness := (true, "e1ae4382617f6459d7b8065fe1d4b1fbaf844d4713e4e5b89fcd16c5de6be1ba"), looks := true }, kinds := [], alts := [], laidByText := true, laidKinds := [.data, .data, .data, .data, .sentinel, .sentinel, .data, .pinned], laidTests := true, laidLooks := .later }
def OpPrintsUptoCardSaid : Prop := Claim7.holds Tryz.pinned (.plain (OpenSpec.upto opPrintsSpec)) opPrintsUptoCard

/-- THE SECOND FORM's CARD OF 'foliolaw16.OpParses'. -/
def opParsesUptoCard : Claim7 := { stood := { row := opParsesUptoRow, standIns := [], harness := (true, "e1ae4382617f6459d7b8065fe1d4b1fbaf844d4713e4e5b89fcd16c5de6be1ba"), looks := true }, kinds := [], alts := [], laidByText := true, laidKinds := [.data, .data, .data, .data, .sentinel, .sentinel, .data, .pinned], laidTests := true, laidLooks := .later }
def OpParsesUptoCardSaid : Prop := Claim7.holds Tryz.pinned (.plain (OpenSpec.upto opParsesSpec)) opParsesUptoCard

/-- THE SECOND FORM's CARD OF 'foliolaw16.OpStays'. -/
def opStaysUptoCard : Claim7 := { stood := { row := opStaysUptoRow, standIns := [], harness := (true, "e1ae4382617f6459d7b8065fe1d4b1fbaf844d4713e4e5b89fcd16c5de6be1ba"), looks := true }, kinds := [], alts := [], laidByText := true, laidKinds := [.data, .data, .data, .data, .sentinel, .sentinel, .data, .pinned], laidTests := true, laidLooks := .later }
def OpStaysUptoCardSaid : Prop := Claim7.holds Tryz.pinned (.plain (OpenSpec.upto opStaysSpec)) opStaysUptoCard

/-- THE SECOND FORM's CARD OF 'foliolaw16.OpEquals'. -/
def opEqualsUptoCard : Claim7 := { stood := { row := opEqualsUptoRow, standIns := [], harness := (true, "e1ae4382617f6459d7b8065fe1d4b1fbaf844d4713e4e5b89fcd16c5de6be1ba"), looks := true }, kinds := [], alts := [], laidByText := true, laidKinds := [.data, .data, .data, .data, .sentinel, .sentinel, .data, .pinned], laidTests := true, laidLooks := .later }
def OpEqualsUptoCardSaid : Prop := Claim7.holds Tryz.pinned (.plain (OpenSpec.upto opEqualsSpec)) opEqualsUptoCard

/-- THE SECOND FORM's CARD OF 'foliolaw16.OpKeeps'. -/
def opKeepsUptoCard : Claim7 := { stood := { row := opKeepsUptoRow, standIns := [], harness := (true, "e1ae4382617f6459d7b8065fe1d4b1fbaf844d4713e4e5b89fcd16c5de6be1ba"), looks := true }, kinds := [], alts := [], laidByText := true, laidKinds := [.data, .data, .data, .data, .sentinel, .sentinel, .data, .pinned], laidTests := true, laidLooks := .later }
def OpKeepsUptoCardSaid : Prop := Claim7.holds Tryz.pinned (.plain (OpenSpec.upto opKeepsSpec)) opKeepsUptoCard

/-- THE SECOND FORM's CARD OF 'foliolaw16.OpJoins'. -/
def opJoinsUptoCard : Claim7 := { stood := { row := opJoinsUptoRow, standIns := [], harness := (true, "e1ae4382617f6459d7b8065fe1d4b1fbaf844d4713e4e5b89fcd16c5de6be1ba"), looks := true }, kinds := [], alts := [], laidByText := true, laidKinds := [.data, .data, .data, .data, .sentinel, .sentinel, .data, .pinned], laidTests := true, laidLooks := .later }
def OpJoinsUptoCardSaid : Prop := Claim7.holds Tryz.pinned (.plain (OpenSpec.upto opJoinsSpec)) opJoinsUptoCard
end Rows
end Go.Proofs.YtpdccbeeoapplaaGreatDoor
