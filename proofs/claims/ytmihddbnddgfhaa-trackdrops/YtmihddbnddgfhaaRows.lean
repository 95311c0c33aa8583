/-
  No cell of these rows narrows 'for every input' (looked for: loops, veiled, ifaces, maps, wideKeys, modest, calm, conditions, laid).
  DERIVED. THE GIVEN ROWS OF THIS SEAT. 6 by the template 'for every input the law returns true; each argument reads behind the call as it read before'; 0 by the template 'total and deterministic' (their statements: YtmihddbnddgfhaaTotals.lean).
  GIVEN WITH THE SEED: the statements are not yours to turn. If you find one false, say at which input.
  Laid BY PROGRAM, IN A SANDBOX (cutbox-rows.mjs): the forced cells as the released guide's own fill.sh prints them over the translation 32262028de93a860… (all of the seat's roots in one cut). By AI agents, Wed Nov 11 2026. No macro, syntax, notation, axiom, sorry.
-/
import Derived.Test.YtmihddbnddgfhaaChecked
import GoSem.Claim
import GoSem.ClaimJoined
import GoSem.ClaimMapViews
import Derived.JoinedTies
import Derived.KernelRfl
namespace Go.Proofs.Ytmihddbnddgfhaa
/- THE CELL 'sum', in the pinned program and in every row, IS THE sha256 OF THE DUMP (.gsa) THAT YtmihddbnddgfhaaProg.lean LOADS. Nothing in Lean hashes anything: it is a label: what it is worth is what the hold of that sum in a sandbox is worth. -/
noncomputable def Try.pinned : Pinned := { name := "ytmihddbnddgfhaa", sum := "32262028de93a860992813c1e8298bb09a5584135e0527e83837b44b86aea556", checked := Try.checked }
namespace Rows
def none {H : Type} : Left H := { results := [], args := [] }

/-- 'foliolaw13.TrackPlays': WHATEVER THE INPUT: true; the input reads as it did. -/
def trackPlaysSpec : ChangeSpec := { name := "trackPlays", fn := fun _ => fun
  | [d1, d2] => { results := [.lit (.bool true)], args := [d1, d2] }
  | _ => none }
def trackPlaysRow : OpenClaim := { program := "ytmihddbnddgfhaa", sum := "32262028de93a860992813c1e8298bb09a5584135e0527e83837b44b86aea556", func := "folio/foliolaw13.TrackPlays", spec := "trackPlays", inPlace := ["internal/bytealg.IndexByteString", "internal/bytealg.IndexString"], unfollowed := true, recurses := true, named := ["internal/bytealg.MaxLen"], apart := false }
def TrackPlaysSaid : Prop := trackPlaysRow.holds Try.pinned (OpenSpec.ofChange trackPlaysSpec)

/-- ITS FALSE NEIGHBOUR: 'it returns false'. Refute it at one input. -/
def trackPlaysWrong : ChangeSpec := { name := "trackPlays", fn := fun _ => fun
  | [d1, d2] => { results := [.lit (.bool false)], args := [d1, d2] }
  | _ => none }
def TrackPlaysWrongFalsely : Prop := trackPlaysRow.holds Try.pinned (OpenSpec.ofChange trackPlaysWrong)

/-- 'foliolaw13.TrackAlone': WHATEVER THE INPUT: true; the input reads as it did. -/
def trackAloneSpec : ChangeSpec := { name := "trackAlone", fn := fun _ => fun
  | [d1, d2, d3] => { results := [.lit (.bool true)], args := [d1, d2, d3] }
  | _ => none }
def trackAloneRow : OpenClaim := { program := "ytmihddbnddgfhaa", sum := "32262028de93a860992813c1e8298bb09a5584135e0527e83837b44b86aea556", func := "folio/foliolaw13.TrackAlone", spec := "trackAlone", inPlace := ["internal/bytealg.IndexByteString", "internal/bytealg.IndexString"], unfollowed := true, recurses := true, named := ["internal/bytealg.MaxLen"], apart := false }
def TrackAloneSaid : Prop := trackAloneRow.holds Try.pinned (OpenSpec.ofChange trackAloneSpec)

/-- ITS FALSE NEIGHBOUR: 'it returns false'. Refute it at one input. -/
def trackAloneWrong : ChangeSpec := { name := "trackAlone", fn := fun _ => fun
  | [d1, d2, d3] => { results := [.lit (.bool false)], args := [d1, d2, d3] }
  | _ => none }
def TrackAloneWrongFalsely : Prop := trackAloneRow.holds Try.pinned (OpenSpec.ofChange trackAloneWrong)

/-- 'foliolaw13.TrackDrops': WHATEVER THE INPUT: true; the input reads as it did. -/
def trackDropsSpec : ChangeSpec := { name := "trackDrops", fn := fun _ => fun
  | [d1, d2, d3] => { results := [.lit (.bool true)], args := [d1, d2, d3] }
  | _ => none }
def trackDropsRow : OpenClaim := { program := "ytmihddbnddgfhaa", sum := "32262028de93a860992813c1e8298bb09a5584135e0527e83837b44b86aea556", func := "folio/foliolaw13.TrackDrops", spec := "trackDrops", inPlace := ["internal/bytealg.IndexByteString", "internal/bytealg.IndexString"], unfollowed := true, recurses := true, named := ["internal/bytealg.MaxLen"], apart := false }
def TrackDropsSaid : Prop := trackDropsRow.holds Try.pinned (OpenSpec.ofChange trackDropsSpec)

/-- ITS FALSE NEIGHBOUR: 'it returns false'. Refute it at one input. -/
def trackDropsWrong : ChangeSpec := { name := "trackDrops", fn := fun _ => fun
  | [d1, d2, d3] => { results := [.lit (.bool false)], args := [d1, d2, d3] }
  | _ => none }
def TrackDropsWrongFalsely : Prop := trackDropsRow.holds Try.pinned (OpenSpec.ofChange trackDropsWrong)

/-- 'foliolaw13.TrackSerial': WHATEVER THE INPUT: true; the input reads as it did. -/
def trackSerialSpec : ChangeSpec := { name := "trackSerial", fn := fun _ => fun
  | [d1, d2] => { results := [.lit (.bool true)], args := [d1, d2] }
  | _ => none }
def trackSerialRow : OpenClaim := { program := "ytmihddbnddgfhaa", sum := "32262028de93a860992813c1e8298bb09a5584135e0527e83837b44b86aea556", func := "folio/foliolaw13.TrackSerial", spec := "trackSerial", inPlace := ["internal/bytealg.IndexByteString", "internal/bytealg.IndexString"], unfollowed := true, recurses := true, named := ["internal/bytealg.MaxLen"], apart := false }
def TrackSerialSaid : Prop := trackSerialRow.holds Try.pinned (OpenSpec.ofChange trackSerialSpec)

/-- ITS FALSE NEIGHBOUR: 'it returns false'. Refute it at one input. -/
def trackSerialWrong : ChangeSpec := { name := "trackSerial", fn := fun _ => fun
  | [d1, d2] => { results := [.lit (.bool false)], args := [d1, d2] }
  | _ => none }
def TrackSerialWrongFalsely : Prop := trackSerialRow.holds Try.pinned (OpenSpec.ofChange trackSerialWrong)

/-- 'foliolaw13.TrackKeeps': WHATEVER THE INPUT: true; the input reads as it did. -/
def trackKeepsSpec : ChangeSpec := { name := "trackKeeps", fn := fun _ => fun
  | [d1, d2] => { results := [.lit (.bool true)], args := [d1, d2] }
  | _ => none }
def trackKeepsRow : OpenClaim := { program := "ytmihddbnddgfhaa", sum := "32262028de93a860992813c1e8298bb09a5584135e0527e83837b44b86aea556", func := "folio/foliolaw13.TrackKeeps", spec := "trackKeeps", inPlace := ["internal/bytealg.IndexByteString", "internal/bytealg.IndexString"], unfollowed := true, recurses := true, named := ["internal/bytealg.MaxLen"], apart := false }
def TrackKeepsSaid : Prop := trackKeepsRow.holds Try.pinned (OpenSpec.ofChange trackKeepsSpec)

/-- ITS FALSE NEIGHBOUR: 'it returns false'. Refute it at one input. -/
def trackKeepsWrong : ChangeSpec := { name := "trackKeeps", fn := fun _ => fun
  | [d1, d2] => { results := [.lit (.bool false)], args := [d1, d2] }
  | _ => none }
def TrackKeepsWrongFalsely : Prop := trackKeepsRow.holds Try.pinned (OpenSpec.ofChange trackKeepsWrong)

/-- 'foliolaw13.TrackFolds': WHATEVER THE INPUT: true; the input reads as it did. -/
def trackFoldsSpec : ChangeSpec := { name := "trackFolds", fn := fun _ => fun
  | [d1, d2] => { results := [.lit (.bool true)], args := [d1, d2] }
  | _ => none }
def trackFoldsRow : OpenClaim := { program := "ytmihddbnddgfhaa", sum := "32262028de93a860992813c1e8298bb09a5584135e0527e83837b44b86aea556", func := "folio/foliolaw13.TrackFolds", spec := "trackFolds", inPlace := ["internal/bytealg.IndexByteString", "internal/bytealg.IndexString"], unfollowed := true, recurses := true, named := ["internal/bytealg.MaxLen"], apart := false }
def TrackFoldsSaid : Prop := trackFoldsRow.holds Try.pinned (OpenSpec.ofChange trackFoldsSpec)

/-- ITS FALSE NEIGHBOUR: 'it returns false'. Refute it at one input. -/
def trackFoldsWrong : ChangeSpec := { name := "trackFolds", fn := fun _ => fun
  | [d1, d2] => { results := [.lit (.bool false)], args := [d1, d2] }
  | _ => none }
def TrackFoldsWrongFalsely : Prop := trackFoldsRow.holds Try.pinned (OpenSpec.ofChange trackFoldsWrong)

/- THE SECOND FORM. 'bulk': how many values and letters a reading holds, each counted each time it is reached (what is shared counts as often as it is met; a slice's spare places count too). A statement '..UptoSaid' is the law's where the arguments, and the package variables that the reading takes, are together of bulk at most 1048576: NARROWER than '..Said'. Prove '..Said' where nothing that the law and all that it calls make is longer than what came in: it says more and counts as full. Else prove '..UptoSaid'. A law counts once. -/
mutual
def uptoBulk {H : Type} : DataW H → Nat
  | .lit (.string bytes) => bytes.length + 1
  | .lit _ => 1
  | .nil => 1
  | .ptr d => uptoBulk d + 1
  | .slice elems spare => uptoBulkAll elems + uptoBulkAll spare + 1
  | .agg parts => uptoBulkAll parts + 1
  | .iface _ d => uptoBulk d + 1
  | .map entries => uptoBulkEntries entries + 1
  | .held _ => 1
def uptoBulkAll {H : Type} : List (DataW H) → Nat
  | [] => 0
  | d :: r => uptoBulk d + uptoBulkAll r
def uptoBulkEntries {H : Type} : List (Lit × DataW H) → Nat
  | [] => 0
  | x :: r => uptoBulkEntry x + uptoBulkEntries r
def uptoBulkEntry {H : Type} : Lit × DataW H → Nat
  | (.string bytes, d) => bytes.length + uptoBulk d + 1
  | (_, d) => uptoBulk d + 1
 end
def uptoSmall : (H : Type) → List (DataW H) → Bool := fun _ ds => decide (uptoBulkAll ds ≤ 1048576)
def OpenSpec.upto (s : _root_.Go.ChangeSpec) : _root_.Go.OpenSpec := { _root_.Go.OpenSpec.ofChange s with cond := some uptoSmall }

/-- 'foliolaw13.TrackPlays', WHERE WHAT IT READS IS OF BULK AT MOST 1048576: true; the input reads as it did. -/
def trackPlaysUptoRow : OpenClaim := { program := "ytmihddbnddgfhaa", sum := "32262028de93a860992813c1e8298bb09a5584135e0527e83837b44b86aea556", func := "folio/foliolaw13.TrackPlays", spec := "trackPlays", inPlace := ["internal/bytealg.IndexByteString", "internal/bytealg.IndexString"], unfollowed := true, recurses := true, named := ["internal/bytealg.MaxLen"], apart := false, narrowed := true }
def TrackPlaysUptoSaid : Prop := trackPlaysUptoRow.holds Try.pinned (OpenSpec.upto trackPlaysSpec)

/-- 'foliolaw13.TrackAlone', WHERE WHAT IT READS IS OF BULK AT MOST 1048576: true; the input reads as it did. -/
def trackAloneUptoRow : OpenClaim := { program := "ytmihddbnddgfhaa", sum := "32262028de93a860992813c1e8298bb09a5584135e0527e83837b44b86aea556", func := "folio/foliolaw13.TrackAlone", spec := "trackAlone", inPlace := ["internal/bytealg.IndexByteString", "internal/bytealg.IndexString"], unfollowed := true, recurses := true, named := ["internal/bytealg.MaxLen"], apart := false, narrowed := true }
def TrackAloneUptoSaid : Prop := trackAloneUptoRow.holds Try.pinned (OpenSpec.upto trackAloneSpec)

/-- 'foliolaw13.TrackDrops', WHERE WHAT IT READS IS OF BULK AT MOST 1048576: true; the input reads as it did. -/
def trackDropsUptoRow : OpenClaim := { program := "ytmihddbnddgfhaa", sum := "32262028de93a860992813c1e8298bb09a5584135e0527e83837b44b86aea556", func := "folio/foliolaw13.TrackDrops", spec := "trackDrops", inPlace := ["internal/bytealg.IndexByteString", "internal/bytealg.IndexString"], unfollowed := true, recurses := true, named := ["internal/bytealg.MaxLen"], apart := false, narrowed := true }
def TrackDropsUptoSaid : Prop := trackDropsUptoRow.holds Try.pinned (OpenSpec.upto trackDropsSpec)

/-- 'foliolaw13.TrackSerial', WHERE WHAT IT READS IS OF BULK AT MOST 1048576: true; the input reads as it did. -/
def trackSerialUptoRow : OpenClaim := { program := "ytmihddbnddgfhaa", sum := "32262028de93a860992813c1e8298bb09a5584135e0527e83837b44b86aea556", func := "folio/foliolaw13.TrackSerial", spec := "trackSerial", inPlace := ["internal/bytealg.IndexByteString", "internal/bytealg.IndexString"], unfollowed := true, recurses := true, named := ["internal/bytealg.MaxLen"], apart := false, narrowed := true }
def TrackSerialUptoSaid : Prop := trackSerialUptoRow.holds Try.pinned (OpenSpec.upto trackSerialSpec)

/-- 'foliolaw13.TrackKeeps', WHERE WHAT IT READS IS OF BULK AT MOST 1048576: true; the input reads as it did. -/
def trackKeepsUptoRow : OpenClaim := { program := "ytmihddbnddgfhaa", sum := "32262028de93a860992813c1e8298bb09a5584135e0527e83837b44b86aea556", func := "folio/foliolaw13.TrackKeeps", spec := "trackKeeps", inPlace := ["internal/bytealg.IndexByteString", "internal/bytealg.IndexString"], unfollowed := true, recurses := true, named := ["internal/bytealg.MaxLen"], apart := false, narrowed := true }
def TrackKeepsUptoSaid : Prop := trackKeepsUptoRow.holds Try.pinned (OpenSpec.upto trackKeepsSpec)

/-- 'foliolaw13.TrackFolds', WHERE WHAT IT READS IS OF BULK AT MOST 1048576: true; the input reads as it did. -/
def trackFoldsUptoRow : OpenClaim := { program := "ytmihddbnddgfhaa", sum := "32262028de93a860992813c1e8298bb09a5584135e0527e83837b44b86aea556", func := "folio/foliolaw13.TrackFolds", spec := "trackFolds", inPlace := ["internal/bytealg.IndexByteString", "internal/bytealg.IndexString"], unfollowed := true, recurses := true, named := ["internal/bytealg.MaxLen"], apart := false, narrowed := true }
def TrackFoldsUptoSaid : Prop := trackFoldsUptoRow.holds Try.pinned (OpenSpec.upto trackFoldsSpec)

end Rows
end Go.Proofs.Ytmihddbnddgfhaa
