/-
  DERIVED. GIVEN WITH THE SEED: THE CARDS: each row of YtfcjnoojcajljaaGreatDoorRows.lean that lists a variable, with what it lists TIED to the program's text (the seventh form; the later family's looks); each row that meets fmt, with fmt's text TOLD by the authors' own Lean function (tested against real Go, not proved from fmt's source: count such statements apart). THE CARD IS WHAT COUNTS. Prove the row's statement (the work); the ties are given (YtfcjnoojcajljaaGreatDoorTie.lean); close each card by the builder's one call (the guide's Derived/Test/ToyasCard.lean, 'card_holds'). Laid BY PROGRAM, IN A SANDBOX (cutbox-door.mjs). By AI agents, Wed Nov 11 2026. No macro, syntax, notation, axiom, sorry.
-/
import Derived.Test.YtfcjnoojcajljaaGreatDoorRows
import GoSem.ClaimSeven
namespace Go.Proofs.YtfcjnoojcajljaaGreatDoor
namespace Rows

/-- THE TIED CARD OF 'foliolaw04.PredNorms'. -/
def predNormsCard : Claim7 := { stood := { row := predNormsRow, standIns := [], harness := (true, "d191e102dc76ec95459512fe78a55fd7d2742abae36059ca948d876fce679db2"), looks := false }, kinds := [], alts := [], laidByText := true, laidKinds := [.data, .data, .pinned], laidTests := true, laidLooks := .later }
def PredNormsCardSaid : Prop := Claim7.holds Tryz.pinned (.plain (OpenSpec.ofChange predNormsSpec)) predNormsCard

/-- THE TIED CARD OF 'foliolaw04.PredMatches'. -/
def predMatchesCard : Claim7 := { stood := { row := predMatchesRow, standIns := [], harness := (true, "d191e102dc76ec95459512fe78a55fd7d2742abae36059ca948d876fce679db2"), looks := false }, kinds := [], alts := [], laidByText := true, laidKinds := [.data, .data, .pinned], laidTests := true, laidLooks := .later }
def PredMatchesCardSaid : Prop := Claim7.holds Tryz.pinned (.plain (OpenSpec.ofChange predMatchesSpec)) predMatchesCard

/-- THE TIED CARD OF 'foliolaw04.PredLines'. -/
def predLinesCard : Claim7 := { stood := { row := predLinesRow, standIns := [], harness := (true, "d191e102dc76ec95459512fe78a55fd7d2742abae36059ca948d876fce679db2"), looks := false }, kinds := [], alts := [], laidByText := true, laidKinds := [.data, .data, .pinned], laidTests := true, laidLooks := .later }
def PredLinesCardSaid : Prop := Claim7.holds Tryz.pinned (.plain (OpenSpec.ofChange predLinesSpec)) predLinesCard

/-- THE TIED CARD OF 'foliolaw04.PredParses'. -/
def predParsesCard : Claim7 := { stood := { row := predParsesRow, standIns := [], harness := (true, "d191e102dc76ec95459512fe78a55fd7d2742abae36059ca948d876fce679db2"), looks := false }, kinds := [], alts := [], laidByText := true, laidKinds := [.data, .data, .pinned], laidTests := true, laidLooks := .later }
def PredParsesCardSaid : Prop := Claim7.holds Tryz.pinned (.plain (OpenSpec.ofChange predParsesSpec)) predParsesCard

/-- THE TIED CARD OF 'foliolaw04.PredMeans'. -/
def predMeansCard : Claim7 := { stood := { row := predMeansRow, standIns := [], harness := (true, "d191e102dc76ec95459512fe78a55fd7d2742abae36059ca948d876fce679db2"), looks := false }, kinds := [], alts := [], laidByText := true, laidKinds := [.data, .data, .pinned], laidTests := true, laidLooks := .later }
def PredMeansCardSaid : Prop := Claim7.holds Tryz.pinned (.plain (OpenSpec.ofChange predMeansSpec)) predMeansCard

/-- THE TIED CARD OF 'foliolaw04.PredKeeps'. -/
def predKeepsCard : Claim7 := { stood := { row := predKeepsRow, standIns := [], harness := (true, "d191e102dc76ec95459512fe78a55fd7d2742abae36059ca948d876fce679db2"), looks := false }, kinds := [], alts := [], laidByText := true, laidKinds := [.data, .data, .pinned], laidTests := true, laidLooks := .later }
def PredKeepsCardSaid : Prop := Claim7.holds Tryz.pinned (.plain (OpenSpec.ofChange predKeepsSpec)) predKeepsCard

/-- THE SECOND FORM's CARD OF 'foliolaw04.PredNorms'. -/
def predNormsUptoCard : Claim7 := { stood := { row := predNormsUptoRow, standIns := [], harness := (true, "d191e102dc76ec95459512fe78a55fd7d2742abae36059ca948d876fce679db2"), looks := false }, kinds := [], alts := [], laidByText := true, laidKinds := [.data, .data, .pinned], laidTests := true, laidLooks := .later }
def PredNormsUptoCardSaid : Prop := Claim7.holds Tryz.pinned (.plain (OpenSpec.upto predNormsSpec)) predNormsUptoCard

/-- THE SECOND FORM's CARD OF 'foliolaw04.PredMatches'. -/
def predMatchesUptoCard : Claim7 := { stood := { row := predMatchesUptoRow, standIns := [], harness := (true, "d191e102dc76ec95459512fe78a55fd7d2742abae36059ca948d876fce679db2"), looks := false }, kinds := [], alts := [], laidByText := true, laidKinds := [.data, .data, .pinned], laidTests := true, laidLooks := .later }
def PredMatchesUptoCardSaid : Prop := Claim7.holds Tryz.pinned (.plain (OpenSpec.upto predMatchesSpec)) predMatchesUptoCard

/-- THE SECOND FORM's CARD OF 'foliolaw04.PredLines'. -/
def predLinesUptoCard : Claim7 := { stood := { row := predLinesUptoRow, standIns := [], harness := (true, "d191e102dc76ec95459512fe78a55fd7d2742abae36059ca948d876fce679db2"), looks := false }, kinds := [], alts := [], laidByText := true, laidKinds := [.data, .data, .pinned], laidTests := true, laidLooks := .later }
def PredLinesUptoCardSaid : Prop := Claim7.holds Tryz.pinned (.plain (OpenSpec.upto predLinesSpec)) predLinesUptoCard

/-- THE SECOND FORM's CARD OF 'foliolaw04.PredParses'. -/
def predParsesUptoCard : Claim7 := { stood := { row := predParsesUptoRow, standIns := [], harness := (true, "d191e102dc76ec95459512fe78a55fd7d2742abae36059ca948d876fce679db2"), looks := false }, kinds := [], alts := [], laidByText := true, laidKinds := [.data, .data, .pinned], laidTests := true, laidLooks := .later }
def PredParsesUptoCardSaid : Prop := Claim7.holds Tryz.pinned (.plain (OpenSpec.upto predParsesSpec)) predParsesUptoCard

/-- THE SECOND FORM's CARD OF 'foliolaw04.PredMeans'. -/
def predMeansUptoCard : Claim7 := { stood := { row := predMeansUptoRow, standIns := [], harness := (true, "d191e102dc76ec95459512fe78a55fd7d2742abae36059ca948d876fce679db2"), looks := false }, kinds := [], alts := [], laidByText := true, laidKinds := [.data, .data, .pinned], laidTests := true, laidLooks := .later }
def PredMeansUptoCardSaid : Prop := Claim7.holds Tryz.pinned (.plain (OpenSpec.upto predMeansSpec)) predMeansUptoCard

/-- THE SECOND FORM's CARD OF 'foliolaw04.PredKeeps'. -/
def predKeepsUptoCard : Claim7 := { stood := { row := predKeepsUptoRow, standIns := [], harness := (true, "d191e102dc76ec95459512fe78a55fd7d2742abae36059ca948d876fce679db2"), looks := false }, kinds := [], alts := [], laidByText := true, laidKinds := [.data, .data, .pinned], laidTests := true, laidLooks := .later }
def PredKeepsUptoCardSaid : Prop := Claim7.holds Tryz.pinned (.plain (OpenSpec.upto predKeepsSpec)) predKeepsUptoCard
end Rows
end Go.Proofs.YtfcjnoojcajljaaGreatDoor
