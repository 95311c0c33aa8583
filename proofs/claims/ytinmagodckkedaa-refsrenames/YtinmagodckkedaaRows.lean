/-
  No cell of these rows narrows 'for every input' (looked for: loops, veiled, ifaces, maps, wideKeys, modest, calm, conditions, laid).
  DERIVED. THE GIVEN ROWS OF THIS SEAT. 5 by the template 'for every input the law returns true; each argument reads behind the call as it read before'; 0 by the template 'total and deterministic' (their statements: YtinmagodckkedaaTotals.lean).
  GIVEN WITH THE SEED: the statements are not yours to turn. If you find one false, say at which input.
  Laid BY PROGRAM, IN A SANDBOX (cutbox-rows.mjs): the forced cells as the released guide's own fill.sh prints them over the translation 19efb62f53a325fb… (all of the seat's roots in one cut). By AI agents, Wed Nov 11 2026. No macro, syntax, notation, axiom, sorry.
-/
import Derived.Test.YtinmagodckkedaaChecked
import GoSem.Claim
import GoSem.ClaimJoined
import GoSem.ClaimMapViews
import Derived.JoinedTies
import Derived.KernelRfl
namespace Go.Proofs.Ytinmagodckkedaa
/- THE CELL 'sum', in the pinned program and in every row, IS THE sha256 OF THE DUMP (.gsa) THAT YtinmagodckkedaaProg.lean LOADS. Nothing in Lean hashes anything: it is a label: what it is worth is what the hold of that sum in a sandbox is worth. -/
noncomputable def Try.pinned : Pinned := { name := "ytinmagodckkedaa", sum := "19efb62f53a325fb7f2377f50f58100118e24a02e5d81ccedfa92487b8efbae8", checked := Try.checked }
namespace Rows
def none {H : Type} : Left H := { results := [], args := [] }

/-- 'foliolaw05.RefsResolves': WHATEVER THE INPUT: true; the input reads as it did. -/
def refsResolvesSpec : ChangeSpec := { name := "refsResolves", fn := fun _ => fun
  | [d1, d2] => { results := [.lit (.bool true)], args := [d1, d2] }
  | _ => none }
def refsResolvesRow : OpenClaim := { program := "ytinmagodckkedaa", sum := "19efb62f53a325fb7f2377f50f58100118e24a02e5d81ccedfa92487b8efbae8", func := "folio/foliolaw05.RefsResolves", spec := "refsResolves", inPlace := ["internal/bytealg.IndexByteString", "internal/bytealg.IndexString", "internal/bytealg.abigen_runtime_cmpstring"], unfollowed := true, recurses := true, named := ["internal/bytealg.MaxLen"], apart := false }
def RefsResolvesSaid : Prop := refsResolvesRow.holds Try.pinned (OpenSpec.ofChange refsResolvesSpec)

/-- ITS FALSE NEIGHBOUR: 'it returns false'. Refute it at one input. -/
def refsResolvesWrong : ChangeSpec := { name := "refsResolves", fn := fun _ => fun
  | [d1, d2] => { results := [.lit (.bool false)], args := [d1, d2] }
  | _ => none }
def RefsResolvesWrongFalsely : Prop := refsResolvesRow.holds Try.pinned (OpenSpec.ofChange refsResolvesWrong)

/-- 'foliolaw05.RefsRenames': WHATEVER THE INPUT: true; the input reads as it did. -/
def refsRenamesSpec : ChangeSpec := { name := "refsRenames", fn := fun _ => fun
  | [d1, d2, d3] => { results := [.lit (.bool true)], args := [d1, d2, d3] }
  | _ => none }
def refsRenamesRow : OpenClaim := { program := "ytinmagodckkedaa", sum := "19efb62f53a325fb7f2377f50f58100118e24a02e5d81ccedfa92487b8efbae8", func := "folio/foliolaw05.RefsRenames", spec := "refsRenames", inPlace := ["internal/bytealg.IndexByteString", "internal/bytealg.IndexString", "internal/bytealg.abigen_runtime_cmpstring"], unfollowed := true, recurses := true, named := ["internal/bytealg.MaxLen"], apart := false }
def RefsRenamesSaid : Prop := refsRenamesRow.holds Try.pinned (OpenSpec.ofChange refsRenamesSpec)

/-- ITS FALSE NEIGHBOUR: 'it returns false'. Refute it at one input. -/
def refsRenamesWrong : ChangeSpec := { name := "refsRenames", fn := fun _ => fun
  | [d1, d2, d3] => { results := [.lit (.bool false)], args := [d1, d2, d3] }
  | _ => none }
def RefsRenamesWrongFalsely : Prop := refsRenamesRow.holds Try.pinned (OpenSpec.ofChange refsRenamesWrong)

/-- 'foliolaw05.RefsStays': WHATEVER THE INPUT: true; the input reads as it did. -/
def refsStaysSpec : ChangeSpec := { name := "refsStays", fn := fun _ => fun
  | [d1, d2] => { results := [.lit (.bool true)], args := [d1, d2] }
  | _ => none }
def refsStaysRow : OpenClaim := { program := "ytinmagodckkedaa", sum := "19efb62f53a325fb7f2377f50f58100118e24a02e5d81ccedfa92487b8efbae8", func := "folio/foliolaw05.RefsStays", spec := "refsStays", inPlace := ["internal/bytealg.IndexByteString", "internal/bytealg.IndexString", "internal/bytealg.abigen_runtime_cmpstring"], unfollowed := true, recurses := true, named := ["internal/bytealg.MaxLen"], apart := false }
def RefsStaysSaid : Prop := refsStaysRow.holds Try.pinned (OpenSpec.ofChange refsStaysSpec)

/-- ITS FALSE NEIGHBOUR: 'it returns false'. Refute it at one input. -/
def refsStaysWrong : ChangeSpec := { name := "refsStays", fn := fun _ => fun
  | [d1, d2] => { results := [.lit (.bool false)], args := [d1, d2] }
  | _ => none }
def RefsStaysWrongFalsely : Prop := refsStaysRow.holds Try.pinned (OpenSpec.ofChange refsStaysWrong)

/-- 'foliolaw05.RefsOrder': WHATEVER THE INPUT: true; the input reads as it did. -/
def refsOrderSpec : ChangeSpec := { name := "refsOrder", fn := fun _ => fun
  | [d1, d2, d3] => { results := [.lit (.bool true)], args := [d1, d2, d3] }
  | _ => none }
def refsOrderRow : OpenClaim := { program := "ytinmagodckkedaa", sum := "19efb62f53a325fb7f2377f50f58100118e24a02e5d81ccedfa92487b8efbae8", func := "folio/foliolaw05.RefsOrder", spec := "refsOrder", inPlace := ["internal/bytealg.IndexByteString", "internal/bytealg.IndexString", "internal/bytealg.abigen_runtime_cmpstring"], unfollowed := true, recurses := true, named := ["internal/bytealg.MaxLen"], apart := false }
def RefsOrderSaid : Prop := refsOrderRow.holds Try.pinned (OpenSpec.ofChange refsOrderSpec)

/-- ITS FALSE NEIGHBOUR: 'it returns false'. Refute it at one input. -/
def refsOrderWrong : ChangeSpec := { name := "refsOrder", fn := fun _ => fun
  | [d1, d2, d3] => { results := [.lit (.bool false)], args := [d1, d2, d3] }
  | _ => none }
def RefsOrderWrongFalsely : Prop := refsOrderRow.holds Try.pinned (OpenSpec.ofChange refsOrderWrong)

/-- 'foliolaw05.RefsKeeps': WHATEVER THE INPUT: true; the input reads as it did. -/
def refsKeepsSpec : ChangeSpec := { name := "refsKeeps", fn := fun _ => fun
  | [d1, d2, d3] => { results := [.lit (.bool true)], args := [d1, d2, d3] }
  | _ => none }
def refsKeepsRow : OpenClaim := { program := "ytinmagodckkedaa", sum := "19efb62f53a325fb7f2377f50f58100118e24a02e5d81ccedfa92487b8efbae8", func := "folio/foliolaw05.RefsKeeps", spec := "refsKeeps", inPlace := ["internal/bytealg.IndexByteString", "internal/bytealg.IndexString", "internal/bytealg.abigen_runtime_cmpstring"], unfollowed := true, recurses := true, named := ["internal/bytealg.MaxLen"], apart := false }
def RefsKeepsSaid : Prop := refsKeepsRow.holds Try.pinned (OpenSpec.ofChange refsKeepsSpec)

/-- ITS FALSE NEIGHBOUR: 'it returns false'. Refute it at one input. -/
def refsKeepsWrong : ChangeSpec := { name := "refsKeeps", fn := fun _ => fun
  | [d1, d2, d3] => { results := [.lit (.bool false)], args := [d1, d2, d3] }
  | _ => none }
def RefsKeepsWrongFalsely : Prop := refsKeepsRow.holds Try.pinned (OpenSpec.ofChange refsKeepsWrong)

/- THE SECOND FORM. 'bulk': how many values and letters a reading holds, each counted each time it is reached (what is shared counts as often as it is met; a slice's spare places count too). A statement '..UptoSaid' is the law's where the arguments, and the package variables that the reading takes, are together of bulk at most 1048576: NARROWER than '..Said'. Prove '..Said' where nothing that the law and all that it calls make is longer than what came in: it says more and counts as full. Else prove '..UptoSaid'. A law counts once. -/
mutual
def uptoBulk {H : Type} : DataW H → Nat
  | .lit (.string bytes) => bytes.length + 1
  | .lit _ => 1
  | .nil => 1
  | .ptr d => uptoBulk d + 1
  | .slice elems spare => uptoBulkAll elems + uptoBulkAll spare + 1
  | .agg parts => uptoBulkAll parts + 1
  | .iface _ d => uptoBulk d + 1
  | .map entries => uptoBulkEntries entries + 1
  | .held _ => 1
def uptoBulkAll {H : Type} : List (DataW H) → Nat
  | [] => 0
  | d :: r => uptoBulk d + uptoBulkAll r
def uptoBulkEntries {H : Type} : List (Lit × DataW H) → Nat
  | [] => 0
  | x :: r => uptoBulkEntry x + uptoBulkEntries r
def uptoBulkEntry {H : Type} : Lit × DataW H → Nat
  | (.string bytes, d) => bytes.length + uptoBulk d + 1
  | (_, d) => uptoBulk d + 1
 end
def uptoSmall : (H : Type) → List (DataW H) → Bool := fun _ ds => decide (uptoBulkAll ds ≤ 1048576)
def OpenSpec.upto (s : _root_.Go.ChangeSpec) : _root_.Go.OpenSpec := { _root_.Go.OpenSpec.ofChange s with cond := some uptoSmall }

/-- 'foliolaw05.RefsResolves', WHERE WHAT IT READS IS OF BULK AT MOST 1048576: true; the input reads as it did. -/
def refsResolvesUptoRow : OpenClaim := { program := "ytinmagodckkedaa", sum := "19efb62f53a325fb7f2377f50f58100118e24a02e5d81ccedfa92487b8efbae8", func := "folio/foliolaw05.RefsResolves", spec := "refsResolves", inPlace := ["internal/bytealg.IndexByteString", "internal/bytealg.IndexString", "internal/bytealg.abigen_runtime_cmpstring"], unfollowed := true, recurses := true, named := ["internal/bytealg.MaxLen"], apart := false, narrowed := true }
def RefsResolvesUptoSaid : Prop := refsResolvesUptoRow.holds Try.pinned (OpenSpec.upto refsResolvesSpec)

/-- 'foliolaw05.RefsRenames', WHERE WHAT IT READS IS OF BULK AT MOST 1048576: true; the input reads as it did. -/
def refsRenamesUptoRow : OpenClaim := { program := "ytinmagodckkedaa", sum := "19efb62f53a325fb7f2377f50f58100118e24a02e5d81ccedfa92487b8efbae8", func := "folio/foliolaw05.RefsRenames", spec := "refsRenames", inPlace := ["internal/bytealg.IndexByteString", "internal/bytealg.IndexString", "internal/bytealg.abigen_runtime_cmpstring"], unfollowed := true, recurses := true, named := ["internal/bytealg.MaxLen"], apart := false, narrowed := true }
def RefsRenamesUptoSaid : Prop := refsRenamesUptoRow.holds Try.pinned (OpenSpec.upto refsRenamesSpec)

/-- 'foliolaw05.RefsStays', WHERE WHAT IT READS IS OF BULK AT MOST 1048576: true; the input reads as it did. -/
def refsStaysUptoRow : OpenClaim := { program := "ytinmagodckkedaa", sum := "19efb62f53a325fb7f2377f50f58100118e24a02e5d81ccedfa92487b8efbae8", func := "folio/foliolaw05.RefsStays", spec := "refsStays", inPlace := ["internal/bytealg.IndexByteString", "internal/bytealg.IndexString", "internal/bytealg.abigen_runtime_cmpstring"], unfollowed := true, recurses := true, named := ["internal/bytealg.MaxLen"], apart := false, narrowed := true }
def RefsStaysUptoSaid : Prop := refsStaysUptoRow.holds Try.pinned (OpenSpec.upto refsStaysSpec)

/-- 'foliolaw05.RefsOrder', WHERE WHAT IT READS IS OF BULK AT MOST 1048576: true; the input reads as it did. -/
def refsOrderUptoRow : OpenClaim := { program := "ytinmagodckkedaa", sum := "19efb62f53a325fb7f2377f50f58100118e24a02e5d81ccedfa92487b8efbae8", func := "folio/foliolaw05.RefsOrder", spec := "refsOrder", inPlace := ["internal/bytealg.IndexByteString", "internal/bytealg.IndexString", "internal/bytealg.abigen_runtime_cmpstring"], unfollowed := true, recurses := true, named := ["internal/bytealg.MaxLen"], apart := false, narrowed := true }
def RefsOrderUptoSaid : Prop := refsOrderUptoRow.holds Try.pinned (OpenSpec.upto refsOrderSpec)

/-- 'foliolaw05.RefsKeeps', WHERE WHAT IT READS IS OF BULK AT MOST 1048576: true; the input reads as it did. -/
def refsKeepsUptoRow : OpenClaim := { program := "ytinmagodckkedaa", sum := "19efb62f53a325fb7f2377f50f58100118e24a02e5d81ccedfa92487b8efbae8", func := "folio/foliolaw05.RefsKeeps", spec := "refsKeeps", inPlace := ["internal/bytealg.IndexByteString", "internal/bytealg.IndexString", "internal/bytealg.abigen_runtime_cmpstring"], unfollowed := true, recurses := true, named := ["internal/bytealg.MaxLen"], apart := false, narrowed := true }
def RefsKeepsUptoSaid : Prop := refsKeepsUptoRow.holds Try.pinned (OpenSpec.upto refsKeepsSpec)

end Rows
end Go.Proofs.Ytinmagodckkedaa
