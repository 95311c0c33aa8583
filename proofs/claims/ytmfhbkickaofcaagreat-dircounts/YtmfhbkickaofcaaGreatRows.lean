/-
  No cell of these rows narrows 'for every input' (looked for: loops, veiled, ifaces, maps, wideKeys, modest, calm, conditions, laid).
  DERIVED. THE GIVEN ROWS OF THIS SEAT. 6 by the template 'for every input the law returns true; each argument reads behind the call as it read before'; 0 by the template 'total and deterministic' (their statements: YtmfhbkickaofcaaGreatTotals.lean).
  GIVEN WITH THE SEED: the statements are not yours to turn. If you find one false, say at which input.
  Laid BY PROGRAM, IN A SANDBOX (cutbox-rows.mjs): the forced cells as the released guide's own fill.sh prints them over the translation a2b67136f1fc9e39… (all of the seat's roots in one cut). By AI agents, Wed Nov 11 2026. No macro, syntax, notation, axiom, sorry.
-/
import Derived.Test.YtmfhbkickaofcaaGreatChecked
import GoSem.Claim
import GoSem.ClaimJoined
import GoSem.ClaimMapViews
import Derived.JoinedTies
import Derived.KernelRfl
namespace Go.Proofs.YtmfhbkickaofcaaGreat
/- THE CELL 'sum', in the pinned program and in every row, IS THE sha256 OF THE DUMP (.gsa) THAT YtmfhbkickaofcaaGreatProg.lean LOADS. Nothing in Lean hashes anything: it is a label: what it is worth is what the hold of that sum in a sandbox is worth. -/
noncomputable def Tryz.pinned : Pinned := { name := "ytmfhbkickaofcaagreat", sum := "a2b67136f1fc9e3901a657d9f69e645d2b0faeef34a5e15d70f13daaceb299c6", checked := Tryz.checked }
namespace Rows
def none {H : Type} : Left H := { results := [], args := [] }

/-- 'foliolaw07.DirPlays': WHATEVER THE INPUT: true; the input reads as it did. -/
def dirPlaysSpec : ChangeSpec := { name := "dirPlays", fn := fun _ => fun
  | [d] => { results := [.lit (.bool true)], args := [d] }
  | _ => none }
def dirPlaysRow : OpenClaim := { program := "ytmfhbkickaofcaagreat", sum := "a2b67136f1fc9e3901a657d9f69e645d2b0faeef34a5e15d70f13daaceb299c6", func := "folio/foliolaw07.DirPlays", spec := "dirPlays", inPlace := ["internal/bytealg.abigen_runtime_cmpstring", "internal/bytealg.IndexByteString", "internal/bytealg.IndexString"], unfollowed := true, recurses := true, named := ["internal/bytealg.MaxLen"], plainKeys := false, apart := false }
def DirPlaysSaid : Prop := dirPlaysRow.holds Tryz.pinned (OpenSpec.ofChange dirPlaysSpec)

/-- ITS FALSE NEIGHBOUR: 'it returns false'. Refute it at one input. -/
def dirPlaysWrong : ChangeSpec := { name := "dirPlays", fn := fun _ => fun
  | [d] => { results := [.lit (.bool false)], args := [d] }
  | _ => none }
def DirPlaysWrongFalsely : Prop := dirPlaysRow.holds Tryz.pinned (OpenSpec.ofChange dirPlaysWrong)

/-- 'foliolaw07.DirPrunes': WHATEVER THE INPUT: true; the input reads as it did. -/
def dirPrunesSpec : ChangeSpec := { name := "dirPrunes", fn := fun _ => fun
  | [d1, d2, d3] => { results := [.lit (.bool true)], args := [d1, d2, d3] }
  | _ => none }
def dirPrunesRow : OpenClaim := { program := "ytmfhbkickaofcaagreat", sum := "a2b67136f1fc9e3901a657d9f69e645d2b0faeef34a5e15d70f13daaceb299c6", func := "folio/foliolaw07.DirPrunes", spec := "dirPrunes", inPlace := ["internal/bytealg.abigen_runtime_cmpstring", "internal/bytealg.IndexByteString", "internal/bytealg.IndexString"], unfollowed := true, recurses := true, named := ["internal/bytealg.MaxLen"], plainKeys := false, apart := false }
def DirPrunesSaid : Prop := dirPrunesRow.holds Tryz.pinned (OpenSpec.ofChange dirPrunesSpec)

/-- ITS FALSE NEIGHBOUR: 'it returns false'. Refute it at one input. -/
def dirPrunesWrong : ChangeSpec := { name := "dirPrunes", fn := fun _ => fun
  | [d1, d2, d3] => { results := [.lit (.bool false)], args := [d1, d2, d3] }
  | _ => none }
def DirPrunesWrongFalsely : Prop := dirPrunesRow.holds Tryz.pinned (OpenSpec.ofChange dirPrunesWrong)

/-- 'foliolaw07.DirScans': WHATEVER THE INPUT: true; the input reads as it did. -/
def dirScansSpec : ChangeSpec := { name := "dirScans", fn := fun _ => fun
  | [d1, d2] => { results := [.lit (.bool true)], args := [d1, d2] }
  | _ => none }
def dirScansRow : OpenClaim := { program := "ytmfhbkickaofcaagreat", sum := "a2b67136f1fc9e3901a657d9f69e645d2b0faeef34a5e15d70f13daaceb299c6", func := "folio/foliolaw07.DirScans", spec := "dirScans", inPlace := ["internal/bytealg.abigen_runtime_cmpstring", "internal/bytealg.IndexByteString", "internal/bytealg.IndexString"], unfollowed := true, recurses := true, named := ["internal/bytealg.MaxLen"], plainKeys := false, apart := false }
def DirScansSaid : Prop := dirScansRow.holds Tryz.pinned (OpenSpec.ofChange dirScansSpec)

/-- ITS FALSE NEIGHBOUR: 'it returns false'. Refute it at one input. -/
def dirScansWrong : ChangeSpec := { name := "dirScans", fn := fun _ => fun
  | [d1, d2] => { results := [.lit (.bool false)], args := [d1, d2] }
  | _ => none }
def DirScansWrongFalsely : Prop := dirScansRow.holds Tryz.pinned (OpenSpec.ofChange dirScansWrong)

/-- 'foliolaw07.DirApart': WHATEVER THE INPUT: true; the input reads as it did. -/
def dirApartSpec : ChangeSpec := { name := "dirApart", fn := fun _ => fun
  | [d1, d2] => { results := [.lit (.bool true)], args := [d1, d2] }
  | _ => none }
def dirApartRow : OpenClaim := { program := "ytmfhbkickaofcaagreat", sum := "a2b67136f1fc9e3901a657d9f69e645d2b0faeef34a5e15d70f13daaceb299c6", func := "folio/foliolaw07.DirApart", spec := "dirApart", inPlace := ["internal/bytealg.abigen_runtime_cmpstring", "internal/bytealg.IndexByteString", "internal/bytealg.IndexString"], unfollowed := true, recurses := true, named := ["internal/bytealg.MaxLen"], plainKeys := false, apart := false }
def DirApartSaid : Prop := dirApartRow.holds Tryz.pinned (OpenSpec.ofChange dirApartSpec)

/-- ITS FALSE NEIGHBOUR: 'it returns false'. Refute it at one input. -/
def dirApartWrong : ChangeSpec := { name := "dirApart", fn := fun _ => fun
  | [d1, d2] => { results := [.lit (.bool false)], args := [d1, d2] }
  | _ => none }
def DirApartWrongFalsely : Prop := dirApartRow.holds Tryz.pinned (OpenSpec.ofChange dirApartWrong)

/-- 'foliolaw07.DirWalks': WHATEVER THE INPUT: true; the input reads as it did. -/
def dirWalksSpec : ChangeSpec := { name := "dirWalks", fn := fun _ => fun
  | [d1, d2, d3] => { results := [.lit (.bool true)], args := [d1, d2, d3] }
  | _ => none }
def dirWalksRow : OpenClaim := { program := "ytmfhbkickaofcaagreat", sum := "a2b67136f1fc9e3901a657d9f69e645d2b0faeef34a5e15d70f13daaceb299c6", func := "folio/foliolaw07.DirWalks", spec := "dirWalks", inPlace := ["internal/bytealg.abigen_runtime_cmpstring", "internal/bytealg.IndexByteString", "internal/bytealg.IndexString"], unfollowed := true, recurses := true, named := ["internal/bytealg.MaxLen"], plainKeys := false, apart := false }
def DirWalksSaid : Prop := dirWalksRow.holds Tryz.pinned (OpenSpec.ofChange dirWalksSpec)

/-- ITS FALSE NEIGHBOUR: 'it returns false'. Refute it at one input. -/
def dirWalksWrong : ChangeSpec := { name := "dirWalks", fn := fun _ => fun
  | [d1, d2, d3] => { results := [.lit (.bool false)], args := [d1, d2, d3] }
  | _ => none }
def DirWalksWrongFalsely : Prop := dirWalksRow.holds Tryz.pinned (OpenSpec.ofChange dirWalksWrong)

/-- 'foliolaw07.DirCounts': WHATEVER THE INPUT: true; the input reads as it did. -/
def dirCountsSpec : ChangeSpec := { name := "dirCounts", fn := fun _ => fun
  | [d1, d2] => { results := [.lit (.bool true)], args := [d1, d2] }
  | _ => none }
def dirCountsRow : OpenClaim := { program := "ytmfhbkickaofcaagreat", sum := "a2b67136f1fc9e3901a657d9f69e645d2b0faeef34a5e15d70f13daaceb299c6", func := "folio/foliolaw07.DirCounts", spec := "dirCounts", inPlace := ["internal/bytealg.abigen_runtime_cmpstring", "internal/bytealg.IndexByteString", "internal/bytealg.IndexString"], unfollowed := true, recurses := true, named := ["internal/bytealg.MaxLen"], plainKeys := false, apart := false }
def DirCountsSaid : Prop := dirCountsRow.holds Tryz.pinned (OpenSpec.ofChange dirCountsSpec)

/-- ITS FALSE NEIGHBOUR: 'it returns false'. Refute it at one input. -/
def dirCountsWrong : ChangeSpec := { name := "dirCounts", fn := fun _ => fun
  | [d1, d2] => { results := [.lit (.bool false)], args := [d1, d2] }
  | _ => none }
def DirCountsWrongFalsely : Prop := dirCountsRow.holds Tryz.pinned (OpenSpec.ofChange dirCountsWrong)

/- THE SECOND FORM. 'bulk': how many values and letters a reading holds, each counted each time it is reached (what is shared counts as often as it is met; a slice's spare places count too). A statement '..UptoSaid' is the law's where the arguments, and the package variables that the reading takes, are together of bulk at most 1048576: NARROWER than '..Said'. Prove '..Said' where nothing that the law and all that it calls make is longer than what came in: it says more and counts as full. Else prove '..UptoSaid'. A law counts once. -/
mutual
def uptoBulk {H : Type} : DataW H → Nat
  | .lit (.string bytes) => bytes.length + 1
  | .lit _ => 1
  | .nil => 1
  | .ptr d => uptoBulk d + 1
  | .slice elems spare => uptoBulkAll elems + uptoBulkAll spare + 1
  | .agg parts => uptoBulkAll parts + 1
  | .iface _ d => uptoBulk d + 1
  | .map entries => uptoBulkEntries entries + 1
  | .held _ => 1
def uptoBulkAll {H : Type} : List (DataW H) → Nat
  | [] => 0
  | d :: r => uptoBulk d + uptoBulkAll r
def uptoBulkEntries {H : Type} : List (Lit × DataW H) → Nat
  | [] => 0
  | x :: r => uptoBulkEntry x + uptoBulkEntries r
def uptoBulkEntry {H : Type} : Lit × DataW H → Nat
  | (.string bytes, d) => bytes.length + uptoBulk d + 1
  | (_, d) => uptoBulk d + 1
 end
def uptoSmall : (H : Type) → List (DataW H) → Bool := fun _ ds => decide (uptoBulkAll ds ≤ 1048576)
def OpenSpec.upto (s : _root_.Go.ChangeSpec) : _root_.Go.OpenSpec := { _root_.Go.OpenSpec.ofChange s with cond := some uptoSmall }

/-- 'foliolaw07.DirPlays', WHERE WHAT IT READS IS OF BULK AT MOST 1048576: true; the input reads as it did. -/
def dirPlaysUptoRow : OpenClaim := { program := "ytmfhbkickaofcaagreat", sum := "a2b67136f1fc9e3901a657d9f69e645d2b0faeef34a5e15d70f13daaceb299c6", func := "folio/foliolaw07.DirPlays", spec := "dirPlays", inPlace := ["internal/bytealg.abigen_runtime_cmpstring", "internal/bytealg.IndexByteString", "internal/bytealg.IndexString"], unfollowed := true, recurses := true, named := ["internal/bytealg.MaxLen"], plainKeys := false, apart := false, narrowed := true }
def DirPlaysUptoSaid : Prop := dirPlaysUptoRow.holds Tryz.pinned (OpenSpec.upto dirPlaysSpec)

/-- 'foliolaw07.DirPrunes', WHERE WHAT IT READS IS OF BULK AT MOST 1048576: true; the input reads as it did. -/
def dirPrunesUptoRow : OpenClaim := { program := "ytmfhbkickaofcaagreat", sum := "a2b67136f1fc9e3901a657d9f69e645d2b0faeef34a5e15d70f13daaceb299c6", func := "folio/foliolaw07.DirPrunes", spec := "dirPrunes", inPlace := ["internal/bytealg.abigen_runtime_cmpstring", "internal/bytealg.IndexByteString", "internal/bytealg.IndexString"], unfollowed := true, recurses := true, named := ["internal/bytealg.MaxLen"], plainKeys := false, apart := false, narrowed := true }
def DirPrunesUptoSaid : Prop := dirPrunesUptoRow.holds Tryz.pinned (OpenSpec.upto dirPrunesSpec)

/-- 'foliolaw07.DirScans', WHERE WHAT IT READS IS OF BULK AT MOST 1048576: true; the input reads as it did. -/
def dirScansUptoRow : OpenClaim := { program := "ytmfhbkickaofcaagreat", sum := "a2b67136f1fc9e3901a657d9f69e645d2b0faeef34a5e15d70f13daaceb299c6", func := "folio/foliolaw07.DirScans", spec := "dirScans", inPlace := ["internal/bytealg.abigen_runtime_cmpstring", "internal/bytealg.IndexByteString", "internal/bytealg.IndexString"], unfollowed := true, recurses := true, named := ["internal/bytealg.MaxLen"], plainKeys := false, apart := false, narrowed := true }
def DirScansUptoSaid : Prop := dirScansUptoRow.holds Tryz.pinned (OpenSpec.upto dirScansSpec)

/-- 'foliolaw07.DirApart', WHERE WHAT IT READS IS OF BULK AT MOST 1048576: true; the input reads as it did. -/
def dirApartUptoRow : OpenClaim := { program := "ytmfhbkickaofcaagreat", sum := "a2b67136f1fc9e3901a657d9f69e645d2b0faeef34a5e15d70f13daaceb299c6", func := "folio/foliolaw07.DirApart", spec := "dirApart", inPlace := ["internal/bytealg.abigen_runtime_cmpstring", "internal/bytealg.IndexByteString", "internal/bytealg.IndexString"], unfollowed := true, recurses := true, named := ["internal/bytealg.MaxLen"], plainKeys := false, apart := false, narrowed := true }
def DirApartUptoSaid : Prop := dirApartUptoRow.holds Tryz.pinned (OpenSpec.upto dirApartSpec)

/-- 'foliolaw07.DirWalks', WHERE WHAT IT READS IS OF BULK AT MOST 1048576: true; the input reads as it did. -/
def dirWalksUptoRow : OpenClaim := { program := "ytmfhbkickaofcaagreat", sum := "a2b67136f1fc9e3901a657d9f69e645d2b0faeef34a5e15d70f13daaceb299c6", func := "folio/foliolaw07.DirWalks", spec := "dirWalks", inPlace := ["internal/bytealg.abigen_runtime_cmpstring", "internal/bytealg.IndexByteString", "internal/bytealg.IndexString"], unfollowed := true, recurses := true, named := ["internal/bytealg.MaxLen"], plainKeys := false, apart := false, narrowed := true }
def DirWalksUptoSaid : Prop := dirWalksUptoRow.holds Tryz.pinned (OpenSpec.upto dirWalksSpec)

/-- 'foliolaw07.DirCounts', WHERE WHAT IT READS IS OF BULK AT MOST 1048576: true; the input reads as it did. -/
def dirCountsUptoRow : OpenClaim := { program := "ytmfhbkickaofcaagreat", sum := "a2b67136f1fc9e3901a657d9f69e645d2b0faeef34a5e15d70f13daaceb299c6", func := "folio/foliolaw07.DirCounts", spec := "dirCounts", inPlace := ["internal/bytealg.abigen_runtime_cmpstring", "internal/bytealg.IndexByteString", "internal/bytealg.IndexString"], unfollowed := true, recurses := true, named := ["internal/bytealg.MaxLen"], plainKeys := false, apart := false, narrowed := true }
def DirCountsUptoSaid : Prop := dirCountsUptoRow.holds Tryz.pinned (OpenSpec.upto dirCountsSpec)

end Rows
end Go.Proofs.YtmfhbkickaofcaaGreat
