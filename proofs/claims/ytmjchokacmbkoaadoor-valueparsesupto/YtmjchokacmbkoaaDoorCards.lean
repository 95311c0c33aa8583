/-
  DERIVED. GIVEN WITH THE SEED: THE CARDS: each row of YtmjchokacmbkoaaDoorRows.lean that lists a variable, with what it lists TIED to the program's text (the seventh form; the later family's looks); each row that meets fmt, with fmt's text TOLD by the authors' own Lean function (tested against real Go, not proved from fmt's source: count such statements apart). THE CARD IS WHAT COUNTS. Prove the row's statement (the work); the ties are given (YtmjchokacmbkoaaDoorTie.lean); close each card by the builder's one call (the guide's Derived/Test/ToyasCard.lean, 'card_holds'). Laid BY PROGRAM, IN A SANDBOX (cutbox-door.mjs). By AI agents, Wed Nov 11 2026. No macro, syntax, notation, axiom, sorry.
-/
import Derived.Test.YtmjchokacmbkoaaDoorRows
import GoSem.ClaimSeven
namespace Go.Proofs.YtmjchokacmbkoaaDoor
namespace Rows

/-- THE TIED CARD OF 'foliolaw03.ValueNorms'. -/
def valueNormsCard : Claim7 := { stood := { row := valueNormsRow, standIns := [], harness := (true, "124b481afc6d7be2cfed8b744bbb4610b2fcb7f49dd70d0e91a20cd4f538f0c0"), looks := false }, kinds := [], alts := [], laidByText := true, laidKinds := [.data, .data, .pinned], laidTests := true, laidLooks := .later }
def ValueNormsCardSaid : Prop := Claim7.holds Tryd.pinned (.plain (OpenSpec.ofChange valueNormsSpec)) valueNormsCard

/-- THE TIED CARD OF 'foliolaw03.ValueBytes'. -/
def valueBytesCard : Claim7 := { stood := { row := valueBytesRow, standIns := [], harness := (true, "124b481afc6d7be2cfed8b744bbb4610b2fcb7f49dd70d0e91a20cd4f538f0c0"), looks := false }, kinds := [], alts := [], laidByText := true, laidKinds := [.data, .data, .pinned], laidTests := true, laidLooks := .later }
def ValueBytesCardSaid : Prop := Claim7.holds Tryd.pinned (.plain (OpenSpec.ofChange valueBytesSpec)) valueBytesCard

/-- THE TIED CARD OF 'foliolaw03.ValueDecodes'. -/
def valueDecodesCard : Claim7 := { stood := { row := valueDecodesRow, standIns := [], harness := (true, "124b481afc6d7be2cfed8b744bbb4610b2fcb7f49dd70d0e91a20cd4f538f0c0"), looks := false }, kinds := [], alts := [], laidByText := true, laidKinds := [.data, .data, .pinned], laidTests := true, laidLooks := .later }
def ValueDecodesCardSaid : Prop := Claim7.holds Tryd.pinned (.plain (OpenSpec.ofChange valueDecodesSpec)) valueDecodesCard

/-- THE TIED CARD OF 'foliolaw03.ValueLines'. -/
def valueLinesCard : Claim7 := { stood := { row := valueLinesRow, standIns := [], harness := (true, "124b481afc6d7be2cfed8b744bbb4610b2fcb7f49dd70d0e91a20cd4f538f0c0"), looks := false }, kinds := [], alts := [], laidByText := true, laidKinds := [.data, .data, .pinned], laidTests := true, laidLooks := .later }
def ValueLinesCardSaid : Prop := Claim7.holds Tryd.pinned (.plain (OpenSpec.ofChange valueLinesSpec)) valueLinesCard

/-- THE TIED CARD OF 'foliolaw03.ValueParses'. -/
def valueParsesCard : Claim7 := { stood := { row := valueParsesRow, standIns := [], harness := (true, "124b481afc6d7be2cfed8b744bbb4610b2fcb7f49dd70d0e91a20cd4f538f0c0"), looks := false }, kinds := [], alts := [], laidByText := true, laidKinds := [.data, .data, .pinned], laidTests := true, laidLooks := .later }
def ValueParsesCardSaid : Prop := Claim7.holds Tryd.pinned (.plain (OpenSpec.ofChange valueParsesSpec)) valueParsesCard

/-- THE TIED CARD OF 'foliolaw03.ValueTexts'. -/
def valueTextsCard : Claim7 := { stood := { row := valueTextsRow, standIns := [], harness := (true, "124b481afc6d7be2cfed8b744bbb4610b2fcb7f49dd70d0e91a20cd4f538f0c0"), looks := false }, kinds := [], alts := [], laidByText := true, laidKinds := [.data, .data, .pinned], laidTests := true, laidLooks := .later }
def ValueTextsCardSaid : Prop := Claim7.holds Tryd.pinned (.plain (OpenSpec.ofChange valueTextsSpec)) valueTextsCard

/-- THE SECOND FORM's CARD OF 'foliolaw03.ValueNorms'. -/
def valueNormsUptoCard : Claim7 := { stood := { row := valueNormsUptoRow, standIns := [], harness := (true, "124b481afc6d7be2cfed8b744bbb4610b2fcb7f49dd70d0e91a20cd4f538f0c0"), looks := false }, kinds := [], alts := [], laidByText := true, laidKinds := [.data, .data, .pinned], laidTests := true, laidLooks := .later }
def ValueNormsUptoCardSaid : Prop := Claim7.holds Tryd.pinned (.plain (OpenSpec.upto valueNormsSpec)) valueNormsUptoCard

/-- THE SECOND FORM's CARD OF 'foliolaw03.ValueBytes'. -/
def valueBytesUptoCard : Claim7 := { stood := { row := valueBytesUptoRow, standIns := [], harness := (true, "124b481afc6d7be2cfed8b744bbb4610b2fcb7f49dd70d0e91a20cd4f538f0c0"), looks := false }, kinds := [], alts := [], laidByText := true, laidKinds := [.data, .data, .pinned], laidTests := true, laidLooks := .later }
def ValueBytesUptoCardSaid : Prop := Claim7.holds Tryd.pinned (.plain (OpenSpec.upto valueBytesSpec)) valueBytesUptoCard

/-- THE SECOND FORM's CARD OF 'foliolaw03.ValueDecodes'. -/
def valueDecodesUptoCard : Claim7 := { stood := { row := valueDecodesUptoRow, standIns := [], harness := (true, "124b481afc6d7be2cfed8b744bbb4610b2fcb7f49dd70d0e91a20cd4f538f0c0"), looks := false }, kinds := [], alts := [], laidByText := true, laidKinds := [.data, .data, .pinned], laidTests := true, laidLooks := .later }
def ValueDecodesUptoCardSaid : Prop := Claim7.holds Tryd.pinned (.plain (OpenSpec.upto valueDecodesSpec)) valueDecodesUptoCard

/-- THE SECOND FORM's CARD OF 'foliolaw03.ValueLines'. -/
def valueLinesUptoCard : Claim7 := { stood := { row := valueLinesUptoRow, standIns := [], harness := (true, "124b481afc6d7be2cfed8b744bbb4610b2fcb7f49dd70d0e91a20cd4f538f0c0"), looks := false }, kinds := [], alts := [], laidByText := true, laidKinds := [.data, .data, .pinned], laidTests := true, laidLooks := .later }
def ValueLinesUptoCardSaid : Prop := Claim7.holds Tryd.pinned (.plain (OpenSpec.upto valueLinesSpec)) valueLinesUptoCard

/-- THE SECOND FORM's CARD OF 'foliolaw03.ValueParses'. -/
def valueParsesUptoCard : Claim7 := { stood := { row := valueParsesUptoRow, standIns := [], harness := (true, "124b481afc6d7be2cfed8b744bbb4610b2fcb7f49dd70d0e91a20cd4f538f0c0"), looks := false }, kinds := [], alts := [], laidByText := true, laidKinds := [.data, .data, .pinned], laidTests := true, laidLooks := .later }
def ValueParsesUptoCardSaid : Prop := Claim7.holds Tryd.pinned (.plain (OpenSpec.upto valueParsesSpec)) valueParsesUptoCard

/-- THE SECOND FORM's CARD OF 'foliolaw03.ValueTexts'. -/
def valueTextsUptoCard : Claim7 := { stood := { row := valueTextsUptoRow, standIns := [], harness := (true, "124b481afc6d7be2cfed8b744bbb4610b2fcb7f49dd70d0e91a20cd4f538f0c0"), looks := false }, kinds := [], alts := [], laidByText := true, laidKinds := [.data, .data, .pinned], laidTests := true, laidLooks := .later }
def ValueTextsUptoCardSaid : Prop := Claim7.holds Tryd.pinned (.plain (OpenSpec.upto valueTextsSpec)) valueTextsUptoCard
end Rows
end Go.Proofs.YtmjchokacmbkoaaDoor
