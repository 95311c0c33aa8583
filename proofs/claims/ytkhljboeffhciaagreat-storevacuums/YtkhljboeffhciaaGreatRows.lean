/-
  No cell of these rows narrows 'for every input' (looked for: loops, veiled, ifaces, maps, wideKeys, modest, calm, conditions, laid).
  DERIVED. THE GIVEN ROWS OF THIS SEAT. 4 by the template 'for every input the law returns true; each argument reads behind the call as it read before'; 0 by the template 'total and deterministic' (their statements: YtkhljboeffhciaaGreatTotals.lean).
  GIVEN WITH THE SEED: the statements are not yours to turn. If you find one false, say at which input.
  Laid BY PROGRAM, IN A SANDBOX (cutbox-rows.mjs): the forced cells as the released guide's own fill.sh prints them over the translation ef1633c1b5b4884c… (all of the seat's roots in one cut). By AI agents, Wed Nov 11 2026. No macro, syntax, notation, axiom, sorry.
-/
import Derived.Test.YtkhljboeffhciaaGreatChecked
import GoSem.Claim
import GoSem.ClaimJoined
import GoSem.ClaimMapViews
import Derived.JoinedTies
import Derived.KernelRfl
namespace Go.Proofs.YtkhljboeffhciaaGreat
/- THE CELL 'sum', in the pinned program and in every row, IS THE sha256 OF THE DUMP (.gsa) THAT YtkhljboeffhciaaGreatProg.lean LOADS. Nothing in Lean hashes anything: it is a label: what it is worth is what the hold of that sum in a sandbox is worth. -/
noncomputable def Tryz.pinned : Pinned := { name := "ytkhljboeffhciaagreat", sum := "ef1633c1b5b4884cb7b22b5934afb14c00279d94c06599fd94f46ea1f953edd4", checked := Tryz.checked }
namespace Rows
def none {H : Type} : Left H := { results := [], args := [] }

/-- 'foliolaw15.StoreSnapshots': WHATEVER THE INPUT: true; the input reads as it did. -/
def storeSnapshotsSpec : ChangeSpec := { name := "storeSnapshots", fn := fun _ => fun
  | [d1, d2, d3] => { results := [.lit (.bool true)], args := [d1, d2, d3] }
  | _ => none }
def storeSnapshotsRow : OpenClaim := { program := "ytkhljboeffhciaagreat", sum := "ef1633c1b5b4884cb7b22b5934afb14c00279d94c06599fd94f46ea1f953edd4", func := "folio/foliolaw15.StoreSnapshots", spec := "storeSnapshots", inPlace := ["sync/atomic.StoreUint64", "sync/atomic.LoadUint64", "internal/bytealg.abigen_runtime_cmpstring", "internal/bytealg.IndexByteString", "internal/bytealg.IndexString", "sync/atomic.CompareAndSwapUint64", "sync/atomic.LoadInt64", "sync/atomic.CompareAndSwapInt64"], unfollowed := true, recurses := true, named := ["internal/bytealg.MaxLen"], plainKeys := false, apart := false }
def StoreSnapshotsSaid : Prop := storeSnapshotsRow.holds Tryz.pinned (OpenSpec.ofChange storeSnapshotsSpec)

/-- ITS FALSE NEIGHBOUR: 'it returns false'. Refute it at one input. -/
def storeSnapshotsWrong : ChangeSpec := { name := "storeSnapshots", fn := fun _ => fun
  | [d1, d2, d3] => { results := [.lit (.bool false)], args := [d1, d2, d3] }
  | _ => none }
def StoreSnapshotsWrongFalsely : Prop := storeSnapshotsRow.holds Tryz.pinned (OpenSpec.ofChange storeSnapshotsWrong)

/-- 'foliolaw15.StoreWhole': WHATEVER THE INPUT: true; the input reads as it did. -/
def storeWholeSpec : ChangeSpec := { name := "storeWhole", fn := fun _ => fun
  | [d1, d2, d3] => { results := [.lit (.bool true)], args := [d1, d2, d3] }
  | _ => none }
def storeWholeRow : OpenClaim := { program := "ytkhljboeffhciaagreat", sum := "ef1633c1b5b4884cb7b22b5934afb14c00279d94c06599fd94f46ea1f953edd4", func := "folio/foliolaw15.StoreWhole", spec := "storeWhole", inPlace := ["sync/atomic.StoreUint64", "sync/atomic.LoadUint64", "internal/bytealg.abigen_runtime_cmpstring", "internal/bytealg.IndexByteString", "internal/bytealg.IndexString", "sync/atomic.CompareAndSwapUint64", "sync/atomic.LoadInt64", "sync/atomic.CompareAndSwapInt64"], unfollowed := true, recurses := true, named := ["internal/bytealg.MaxLen"], plainKeys := false, apart := false }
def StoreWholeSaid : Prop := storeWholeRow.holds Tryz.pinned (OpenSpec.ofChange storeWholeSpec)

/-- ITS FALSE NEIGHBOUR: 'it returns false'. Refute it at one input. -/
def storeWholeWrong : ChangeSpec := { name := "storeWhole", fn := fun _ => fun
  | [d1, d2, d3] => { results := [.lit (.bool false)], args := [d1, d2, d3] }
  | _ => none }
def StoreWholeWrongFalsely : Prop := storeWholeRow.holds Tryz.pinned (OpenSpec.ofChange storeWholeWrong)

/-- 'foliolaw15.StoreAlone': WHATEVER THE INPUT: true; the input reads as it did. -/
def storeAloneSpec : ChangeSpec := { name := "storeAlone", fn := fun _ => fun
  | [d1, d2, d3] => { results := [.lit (.bool true)], args := [d1, d2, d3] }
  | _ => none }
def storeAloneRow : OpenClaim := { program := "ytkhljboeffhciaagreat", sum := "ef1633c1b5b4884cb7b22b5934afb14c00279d94c06599fd94f46ea1f953edd4", func := "folio/foliolaw15.StoreAlone", spec := "storeAlone", inPlace := ["sync/atomic.StoreUint64", "sync/atomic.LoadUint64", "internal/bytealg.abigen_runtime_cmpstring", "internal/bytealg.IndexByteString", "internal/bytealg.IndexString", "sync/atomic.CompareAndSwapUint64", "sync/atomic.LoadInt64", "sync/atomic.CompareAndSwapInt64"], unfollowed := true, recurses := true, named := ["internal/bytealg.MaxLen"], plainKeys := false, apart := false }
def StoreAloneSaid : Prop := storeAloneRow.holds Tryz.pinned (OpenSpec.ofChange storeAloneSpec)

/-- ITS FALSE NEIGHBOUR: 'it returns false'. Refute it at one input. -/
def storeAloneWrong : ChangeSpec := { name := "storeAlone", fn := fun _ => fun
  | [d1, d2, d3] => { results := [.lit (.bool false)], args := [d1, d2, d3] }
  | _ => none }
def StoreAloneWrongFalsely : Prop := storeAloneRow.holds Tryz.pinned (OpenSpec.ofChange storeAloneWrong)

/-- 'foliolaw15.StoreVacuums': WHATEVER THE INPUT: true; the input reads as it did. -/
def storeVacuumsSpec : ChangeSpec := { name := "storeVacuums", fn := fun _ => fun
  | [d1, d2] => { results := [.lit (.bool true)], args := [d1, d2] }
  | _ => none }
def storeVacuumsRow : OpenClaim := { program := "ytkhljboeffhciaagreat", sum := "ef1633c1b5b4884cb7b22b5934afb14c00279d94c06599fd94f46ea1f953edd4", func := "folio/foliolaw15.StoreVacuums", spec := "storeVacuums", inPlace := ["sync/atomic.StoreUint64", "sync/atomic.LoadUint64", "internal/bytealg.abigen_runtime_cmpstring", "internal/bytealg.IndexByteString", "internal/bytealg.IndexString", "sync/atomic.CompareAndSwapUint64", "sync/atomic.LoadInt64", "sync/atomic.CompareAndSwapInt64"], unfollowed := true, recurses := true, named := ["internal/bytealg.MaxLen"], plainKeys := false, apart := false }
def StoreVacuumsSaid : Prop := storeVacuumsRow.holds Tryz.pinned (OpenSpec.ofChange storeVacuumsSpec)

/-- ITS FALSE NEIGHBOUR: 'it returns false'. Refute it at one input. -/
def storeVacuumsWrong : ChangeSpec := { name := "storeVacuums", fn := fun _ => fun
  | [d1, d2] => { results := [.lit (.bool false)], args := [d1, d2] }
  | _ => none }
def StoreVacuumsWrongFalsely : Prop := storeVacuumsRow.holds Tryz.pinned (OpenSpec.ofChange storeVacuumsWrong)

/- THE SECOND FORM. 'bulk': how many values and letters a reading holds, each counted each time it is reached (what is shared counts as often as it is met; a slice's spare places count too). A statement '..UptoSaid' is the law's where the arguments, and the package variables that the reading takes, are together of bulk at most 1048576: NARROWER than '..Said'. Prove '..Said' where nothing that the law and all that it calls make is longer than what came in: it says more and counts as full. Else prove '..UptoSaid'. A law counts once. -/
mutual
def uptoBulk {H : Type} : DataW H → Nat
  | .lit (.string bytes) => bytes.length + 1
  | .lit _ => 1
  | .nil => 1
  | .ptr d => uptoBulk d + 1
  | .slice elems spare => uptoBulkAll elems + uptoBulkAll spare + 1
  | .agg parts => uptoBulkAll parts + 1
  | .iface _ d => uptoBulk d + 1
  | .map entries => uptoBulkEntries entries + 1
  | .held _ => 1
def uptoBulkAll {H : Type} : List (DataW H) → Nat
  | [] => 0
  | d :: r => uptoBulk d + uptoBulkAll r
def uptoBulkEntries {H : Type} : List (Lit × DataW H) → Nat
  | [] => 0
  | x :: r => uptoBulkEntry x + uptoBulkEntries r
def uptoBulkEntry {H : Type} : Lit × DataW H → Nat
  | (.string bytes, d) => bytes.length + uptoBulk d + 1
  | (_, d) => uptoBulk d + 1
 end
def uptoSmall : (H : Type) → List (DataW H) → Bool := fun _ ds => decide (uptoBulkAll ds ≤ 1048576)
def OpenSpec.upto (s : _root_.Go.ChangeSpec) : _root_.Go.OpenSpec := { _root_.Go.OpenSpec.ofChange s with cond := some uptoSmall }

/-- 'foliolaw15.StoreSnapshots', WHERE WHAT IT READS IS OF BULK AT MOST 1048576: true; the input reads as it did. -/
def storeSnapshotsUptoRow : OpenClaim := { program := "ytkhljboeffhciaagreat", sum := "ef1633c1b5b4884cb7b22b5934afb14c00279d94c06599fd94f46ea1f953edd4", func := "folio/foliolaw15.StoreSnapshots", spec := "storeSnapshots", inPlace := ["sync/atomic.StoreUint64", "sync/atomic.LoadUint64", "internal/bytealg.abigen_runtime_cmpstring", "internal/bytealg.IndexByteString", "internal/bytealg.IndexString", "sync/atomic.CompareAndSwapUint64", "sync/atomic.LoadInt64", "sync/atomic.CompareAndSwapInt64"], unfollowed := true, recurses := true, named := ["internal/bytealg.MaxLen"], plainKeys := false, apart := false, narrowed := true }
def StoreSnapshotsUptoSaid : Prop := storeSnapshotsUptoRow.holds Tryz.pinned (OpenSpec.upto storeSnapshotsSpec)

/-- 'foliolaw15.StoreWhole', WHERE WHAT IT READS IS OF BULK AT MOST 1048576: true; the input reads as it did. -/
def storeWholeUptoRow : OpenClaim := { program := "ytkhljboeffhciaagreat", sum := "ef1633c1b5b4884cb7b22b5934afb14c00279d94c06599fd94f46ea1f953edd4", func := "folio/foliolaw15.StoreWhole", spec := "storeWhole", inPlace := ["sync/atomic.StoreUint64", "sync/atomic.LoadUint64", "internal/bytealg.abigen_runtime_cmpstring", "internal/bytealg.IndexByteString", "internal/bytealg.IndexString", "sync/atomic.CompareAndSwapUint64", "sync/atomic.LoadInt64", "sync/atomic.CompareAndSwapInt64"], unfollowed := true, recurses := true, named := ["internal/bytealg.MaxLen"], plainKeys := false, apart := false, narrowed := true }
def StoreWholeUptoSaid : Prop := storeWholeUptoRow.holds Tryz.pinned (OpenSpec.upto storeWholeSpec)

/-- 'foliolaw15.StoreAlone', WHERE WHAT IT READS IS OF BULK AT MOST 1048576: true; the input reads as it did. -/
def storeAloneUptoRow : OpenClaim := { program := "ytkhljboeffhciaagreat", sum := "ef1633c1b5b4884cb7b22b5934afb14c00279d94c06599fd94f46ea1f953edd4", func := "folio/foliolaw15.StoreAlone", spec := "storeAlone", inPlace := ["sync/atomic.StoreUint64", "sync/atomic.LoadUint64", "internal/bytealg.abigen_runtime_cmpstring", "internal/bytealg.IndexByteString", "internal/bytealg.IndexString", "sync/atomic.CompareAndSwapUint64", "sync/atomic.LoadInt64", "sync/atomic.CompareAndSwapInt64"], unfollowed := true, recurses := true, named := ["internal/bytealg.MaxLen"], plainKeys := false, apart := false, narrowed := true }
def StoreAloneUptoSaid : Prop := storeAloneUptoRow.holds Tryz.pinned (OpenSpec.upto storeAloneSpec)

/-- 'foliolaw15.StoreVacuums', WHERE WHAT IT READS IS OF BULK AT MOST 1048576: true; the input reads as it did. -/
def storeVacuumsUptoRow : OpenClaim := { program := "ytkhljboeffhciaagreat", sum := "ef1633c1b5b4884cb7b22b5934afb14c00279d94c06599fd94f46ea1f953edd4", func := "folio/foliolaw15.StoreVacuums", spec := "storeVacuums", inPlace := ["sync/atomic.StoreUint64", "sync/atomic.LoadUint64", "internal/bytealg.abigen_runtime_cmpstring", "internal/bytealg.IndexByteString", "internal/bytealg.IndexString", "sync/atomic.CompareAndSwapUint64", "sync/atomic.LoadInt64", "sync/atomic.CompareAndSwapInt64"], unfollowed := true, recurses := true, named := ["internal/bytealg.MaxLen"], plainKeys := false, apart := false, narrowed := true }
def StoreVacuumsUptoSaid : Prop := storeVacuumsUptoRow.holds Tryz.pinned (OpenSpec.upto storeVacuumsSpec)

end Rows
end Go.Proofs.YtkhljboeffhciaaGreat
