/-
  No cell of these rows narrows 'for every input' (looked for: loops, veiled, ifaces, maps, wideKeys, modest, calm, conditions, laid).
  DERIVED. THE GIVEN ROWS OF THIS SEAT. 10 by the template 'for every input the law returns true; each argument reads behind the call as it read before'; 0 by the template 'total and deterministic' (their statements: YtmhlcnmfbolgdaaGreatTotals.lean).
  GIVEN WITH THE SEED: the statements are not yours to turn. If you find one false, say at which input.
  Laid BY PROGRAM, IN A SANDBOX (cutbox-rows.mjs): the forced cells as the released guide's own fill.sh prints them over the translation 76ece76e4ff97dd1… (all of the seat's roots in one cut). By AI agents, Wed Nov 11 2026. No macro, syntax, notation, axiom, sorry.
-/
import Derived.Test.YtmhlcnmfbolgdaaGreatChecked
import GoSem.Claim
import GoSem.ClaimJoined
import GoSem.ClaimMapViews
import Derived.JoinedTies
import Derived.KernelRfl
namespace Go.Proofs.YtmhlcnmfbolgdaaGreat
/- THE CELL 'sum', in the pinned program and in every row, IS THE sha256 OF THE DUMP (.gsa) THAT YtmhlcnmfbolgdaaGreatProg.lean LOADS. Nothing in Lean hashes anything: it is a label: what it is worth is what the hold of that sum in a sandbox is worth. -/
noncomputable def Tryz.pinned : Pinned := { name := "ytmhlcnmfbolgdaagreat", sum := "76ece76e4ff97dd1dff0ec9520a9b19644d38460be3be506e8a9476d5af2c45a", checked := Tryz.checked }
namespace Rows
def none {H : Type} : Left H := { results := [], args := [] }

/-- 'foliolaw15.StorePlays': WHATEVER THE INPUT: true; the input reads as it did. -/
def storePlaysSpec : ChangeSpec := { name := "storePlays", fn := fun _ => fun
  | [d1, d2] => { results := [.lit (.bool true)], args := [d1, d2] }
  | _ => none }
def storePlaysRow : OpenClaim := { program := "ytmhlcnmfbolgdaagreat", sum := "76ece76e4ff97dd1dff0ec9520a9b19644d38460be3be506e8a9476d5af2c45a", func := "folio/foliolaw15.StorePlays", spec := "storePlays", inPlace := ["sync/atomic.StoreUint64", "sync/atomic.LoadUint64", "internal/bytealg.abigen_runtime_cmpstring", "internal/bytealg.IndexByteString", "internal/bytealg.IndexString", "sync/atomic.CompareAndSwapUint64", "sync/atomic.LoadInt64", "sync/atomic.CompareAndSwapInt64"], unfollowed := true, recurses := true, named := ["internal/bytealg.MaxLen"], plainKeys := false, apart := false }
def StorePlaysSaid : Prop := storePlaysRow.holds Tryz.pinned (OpenSpec.ofChange storePlaysSpec)

/-- ITS FALSE NEIGHBOUR: 'it returns false'. Refute it at one input. -/
def storePlaysWrong : ChangeSpec := { name := "storePlays", fn := fun _ => fun
  | [d1, d2] => { results := [.lit (.bool false)], args := [d1, d2] }
  | _ => none }
def StorePlaysWrongFalsely : Prop := storePlaysRow.holds Tryz.pinned (OpenSpec.ofChange storePlaysWrong)

/-- 'foliolaw15.StoreSnapshots': WHATEVER THE INPUT: true; the input reads as it did. -/
def storeSnapshotsSpec : ChangeSpec := { name := "storeSnapshots", fn := fun _ => fun
  | [d1, d2, d3] => { results := [.lit (.bool true)], args := [d1, d2, d3] }
  | _ => none }
def storeSnapshotsRow : OpenClaim := { program := "ytmhlcnmfbolgdaagreat", sum := "76ece76e4ff97dd1dff0ec9520a9b19644d38460be3be506e8a9476d5af2c45a", func := "folio/foliolaw15.StoreSnapshots", spec := "storeSnapshots", inPlace := ["sync/atomic.StoreUint64", "sync/atomic.LoadUint64", "internal/bytealg.abigen_runtime_cmpstring", "internal/bytealg.IndexByteString", "internal/bytealg.IndexString", "sync/atomic.CompareAndSwapUint64", "sync/atomic.LoadInt64", "sync/atomic.CompareAndSwapInt64"], unfollowed := true, recurses := true, named := ["internal/bytealg.MaxLen"], plainKeys := false, apart := false }
def StoreSnapshotsSaid : Prop := storeSnapshotsRow.holds Tryz.pinned (OpenSpec.ofChange storeSnapshotsSpec)

/-- ITS FALSE NEIGHBOUR: 'it returns false'. Refute it at one input. -/
def storeSnapshotsWrong : ChangeSpec := { name := "storeSnapshots", fn := fun _ => fun
  | [d1, d2, d3] => { results := [.lit (.bool false)], args := [d1, d2, d3] }
  | _ => none }
def StoreSnapshotsWrongFalsely : Prop := storeSnapshotsRow.holds Tryz.pinned (OpenSpec.ofChange storeSnapshotsWrong)

/-- 'foliolaw15.StoreFirst': WHATEVER THE INPUT: true; the input reads as it did. -/
def storeFirstSpec : ChangeSpec := { name := "storeFirst", fn := fun _ => fun
  | [d1, d2, d3] => { results := [.lit (.bool true)], args := [d1, d2, d3] }
  | _ => none }
def storeFirstRow : OpenClaim := { program := "ytmhlcnmfbolgdaagreat", sum := "76ece76e4ff97dd1dff0ec9520a9b19644d38460be3be506e8a9476d5af2c45a", func := "folio/foliolaw15.StoreFirst", spec := "storeFirst", inPlace := ["sync/atomic.StoreUint64", "sync/atomic.LoadUint64", "internal/bytealg.abigen_runtime_cmpstring", "internal/bytealg.IndexByteString", "internal/bytealg.IndexString", "sync/atomic.CompareAndSwapUint64", "sync/atomic.LoadInt64"], unfollowed := true, recurses := true, named := ["internal/bytealg.MaxLen"], plainKeys := false, apart := false }
def StoreFirstSaid : Prop := storeFirstRow.holds Tryz.pinned (OpenSpec.ofChange storeFirstSpec)

/-- ITS FALSE NEIGHBOUR: 'it returns false'. Refute it at one input. -/
def storeFirstWrong : ChangeSpec := { name := "storeFirst", fn := fun _ => fun
  | [d1, d2, d3] => { results := [.lit (.bool false)], args := [d1, d2, d3] }
  | _ => none }
def StoreFirstWrongFalsely : Prop := storeFirstRow.holds Tryz.pinned (OpenSpec.ofChange storeFirstWrong)

/-- 'foliolaw15.StoreSkew': WHATEVER THE INPUT: true; the input reads as it did. -/
def storeSkewSpec : ChangeSpec := { name := "storeSkew", fn := fun _ => fun
  | [d1, d2, d3] => { results := [.lit (.bool true)], args := [d1, d2, d3] }
  | _ => none }
def storeSkewRow : OpenClaim := { program := "ytmhlcnmfbolgdaagreat", sum := "76ece76e4ff97dd1dff0ec9520a9b19644d38460be3be506e8a9476d5af2c45a", func := "folio/foliolaw15.StoreSkew", spec := "storeSkew", inPlace := ["sync/atomic.StoreUint64", "sync/atomic.LoadUint64", "internal/bytealg.abigen_runtime_cmpstring", "internal/bytealg.IndexByteString", "internal/bytealg.IndexString", "sync/atomic.CompareAndSwapUint64", "sync/atomic.LoadInt64"], unfollowed := true, recurses := true, named := ["internal/bytealg.MaxLen"], plainKeys := false, apart := false }
def StoreSkewSaid : Prop := storeSkewRow.holds Tryz.pinned (OpenSpec.ofChange storeSkewSpec)

/-- ITS FALSE NEIGHBOUR: 'it returns false'. Refute it at one input. -/
def storeSkewWrong : ChangeSpec := { name := "storeSkew", fn := fun _ => fun
  | [d1, d2, d3] => { results := [.lit (.bool false)], args := [d1, d2, d3] }
  | _ => none }
def StoreSkewWrongFalsely : Prop := storeSkewRow.holds Tryz.pinned (OpenSpec.ofChange storeSkewWrong)

/-- 'foliolaw15.StoreOwn': WHATEVER THE INPUT: true; the input reads as it did. -/
def storeOwnSpec : ChangeSpec := { name := "storeOwn", fn := fun _ => fun
  | [d1, d2] => { results := [.lit (.bool true)], args := [d1, d2] }
  | _ => none }
def storeOwnRow : OpenClaim := { program := "ytmhlcnmfbolgdaagreat", sum := "76ece76e4ff97dd1dff0ec9520a9b19644d38460be3be506e8a9476d5af2c45a", func := "folio/foliolaw15.StoreOwn", spec := "storeOwn", inPlace := ["sync/atomic.StoreUint64", "sync/atomic.LoadUint64", "internal/bytealg.abigen_runtime_cmpstring", "internal/bytealg.IndexByteString", "internal/bytealg.IndexString", "sync/atomic.CompareAndSwapUint64", "sync/atomic.LoadInt64"], unfollowed := true, recurses := true, named := ["internal/bytealg.MaxLen"], plainKeys := false, apart := false }
def StoreOwnSaid : Prop := storeOwnRow.holds Tryz.pinned (OpenSpec.ofChange storeOwnSpec)

/-- ITS FALSE NEIGHBOUR: 'it returns false'. Refute it at one input. -/
def storeOwnWrong : ChangeSpec := { name := "storeOwn", fn := fun _ => fun
  | [d1, d2] => { results := [.lit (.bool false)], args := [d1, d2] }
  | _ => none }
def StoreOwnWrongFalsely : Prop := storeOwnRow.holds Tryz.pinned (OpenSpec.ofChange storeOwnWrong)

/-- 'foliolaw15.StoreSerial': WHATEVER THE INPUT: true; the input reads as it did. -/
def storeSerialSpec : ChangeSpec := { name := "storeSerial", fn := fun _ => fun
  | [d1, d2] => { results := [.lit (.bool true)], args := [d1, d2] }
  | _ => none }
def storeSerialRow : OpenClaim := { program := "ytmhlcnmfbolgdaagreat", sum := "76ece76e4ff97dd1dff0ec9520a9b19644d38460be3be506e8a9476d5af2c45a", func := "folio/foliolaw15.StoreSerial", spec := "storeSerial", inPlace := ["sync/atomic.StoreUint64", "sync/atomic.LoadUint64", "internal/bytealg.abigen_runtime_cmpstring", "internal/bytealg.IndexByteString", "internal/bytealg.IndexString", "sync/atomic.CompareAndSwapUint64", "sync/atomic.LoadInt64", "sync/atomic.CompareAndSwapInt64"], unfollowed := true, recurses := true, named := ["internal/bytealg.MaxLen"], plainKeys := false, apart := false }
def StoreSerialSaid : Prop := storeSerialRow.holds Tryz.pinned (OpenSpec.ofChange storeSerialSpec)

/-- ITS FALSE NEIGHBOUR: 'it returns false'. Refute it at one input. -/
def storeSerialWrong : ChangeSpec := { name := "storeSerial", fn := fun _ => fun
  | [d1, d2] => { results := [.lit (.bool false)], args := [d1, d2] }
  | _ => none }
def StoreSerialWrongFalsely : Prop := storeSerialRow.holds Tryz.pinned (OpenSpec.ofChange storeSerialWrong)

/-- 'foliolaw15.StoreWhole': WHATEVER THE INPUT: true; the input reads as it did. -/
def storeWholeSpec : ChangeSpec := { name := "storeWhole", fn := fun _ => fun
  | [d1, d2, d3] => { results := [.lit (.bool true)], args := [d1, d2, d3] }
  | _ => none }
def storeWholeRow : OpenClaim := { program := "ytmhlcnmfbolgdaagreat", sum := "76ece76e4ff97dd1dff0ec9520a9b19644d38460be3be506e8a9476d5af2c45a", func := "folio/foliolaw15.StoreWhole", spec := "storeWhole", inPlace := ["sync/atomic.StoreUint64", "sync/atomic.LoadUint64", "internal/bytealg.abigen_runtime_cmpstring", "internal/bytealg.IndexByteString", "internal/bytealg.IndexString", "sync/atomic.CompareAndSwapUint64", "sync/atomic.LoadInt64", "sync/atomic.CompareAndSwapInt64"], unfollowed := true, recurses := true, named := ["internal/bytealg.MaxLen"], plainKeys := false, apart := false }
def StoreWholeSaid : Prop := storeWholeRow.holds Tryz.pinned (OpenSpec.ofChange storeWholeSpec)

/-- ITS FALSE NEIGHBOUR: 'it returns false'. Refute it at one input. -/
def storeWholeWrong : ChangeSpec := { name := "storeWhole", fn := fun _ => fun
  | [d1, d2, d3] => { results := [.lit (.bool false)], args := [d1, d2, d3] }
  | _ => none }
def StoreWholeWrongFalsely : Prop := storeWholeRow.holds Tryz.pinned (OpenSpec.ofChange storeWholeWrong)

/-- 'foliolaw15.StoreAlone': WHATEVER THE INPUT: true; the input reads as it did. -/
def storeAloneSpec : ChangeSpec := { name := "storeAlone", fn := fun _ => fun
  | [d1, d2, d3] => { results := [.lit (.bool true)], args := [d1, d2, d3] }
  | _ => none }
def storeAloneRow : OpenClaim := { program := "ytmhlcnmfbolgdaagreat", sum := "76ece76e4ff97dd1dff0ec9520a9b19644d38460be3be506e8a9476d5af2c45a", func := "folio/foliolaw15.StoreAlone", spec := "storeAlone", inPlace := ["sync/atomic.StoreUint64", "sync/atomic.LoadUint64", "internal/bytealg.abigen_runtime_cmpstring", "internal/bytealg.IndexByteString", "internal/bytealg.IndexString", "sync/atomic.CompareAndSwapUint64", "sync/atomic.LoadInt64", "sync/atomic.CompareAndSwapInt64"], unfollowed := true, recurses := true, named := ["internal/bytealg.MaxLen"], plainKeys := false, apart := false }
def StoreAloneSaid : Prop := storeAloneRow.holds Tryz.pinned (OpenSpec.ofChange storeAloneSpec)

/-- ITS FALSE NEIGHBOUR: 'it returns false'. Refute it at one input. -/
def storeAloneWrong : ChangeSpec := { name := "storeAlone", fn := fun _ => fun
  | [d1, d2, d3] => { results := [.lit (.bool false)], args := [d1, d2, d3] }
  | _ => none }
def StoreAloneWrongFalsely : Prop := storeAloneRow.holds Tryz.pinned (OpenSpec.ofChange storeAloneWrong)

/-- 'foliolaw15.StoreVacuums': WHATEVER THE INPUT: true; the input reads as it did. -/
def storeVacuumsSpec : ChangeSpec := { name := "storeVacuums", fn := fun _ => fun
  | [d1, d2] => { results := [.lit (.bool true)], args := [d1, d2] }
  | _ => none }
def storeVacuumsRow : OpenClaim := { program := "ytmhlcnmfbolgdaagreat", sum := "76ece76e4ff97dd1dff0ec9520a9b19644d38460be3be506e8a9476d5af2c45a", func := "folio/foliolaw15.StoreVacuums", spec := "storeVacuums", inPlace := ["sync/atomic.StoreUint64", "sync/atomic.LoadUint64", "internal/bytealg.abigen_runtime_cmpstring", "internal/bytealg.IndexByteString", "internal/bytealg.IndexString", "sync/atomic.CompareAndSwapUint64", "sync/atomic.LoadInt64", "sync/atomic.CompareAndSwapInt64"], unfollowed := true, recurses := true, named := ["internal/bytealg.MaxLen"], plainKeys := false, apart := false }
def StoreVacuumsSaid : Prop := storeVacuumsRow.holds Tryz.pinned (OpenSpec.ofChange storeVacuumsSpec)

/-- ITS FALSE NEIGHBOUR: 'it returns false'. Refute it at one input. -/
def storeVacuumsWrong : ChangeSpec := { name := "storeVacuums", fn := fun _ => fun
  | [d1, d2] => { results := [.lit (.bool false)], args := [d1, d2] }
  | _ => none }
def StoreVacuumsWrongFalsely : Prop := storeVacuumsRow.holds Tryz.pinned (OpenSpec.ofChange storeVacuumsWrong)

/-- 'foliolaw15.StoreKeeps': WHATEVER THE INPUT: true; the input reads as it did. -/
def storeKeepsSpec : ChangeSpec := { name := "storeKeeps", fn := fun _ => fun
  | [d] => { results := [.lit (.bool true)], args := [d] }
  | _ => none }
def storeKeepsRow : OpenClaim := { program := "ytmhlcnmfbolgdaagreat", sum := "76ece76e4ff97dd1dff0ec9520a9b19644d38460be3be506e8a9476d5af2c45a", func := "folio/foliolaw15.StoreKeeps", spec := "storeKeeps", inPlace := ["sync/atomic.StoreUint64", "sync/atomic.LoadUint64", "internal/bytealg.abigen_runtime_cmpstring", "internal/bytealg.IndexByteString", "internal/bytealg.IndexString", "sync/atomic.CompareAndSwapUint64", "sync/atomic.LoadInt64", "sync/atomic.CompareAndSwapInt64"], unfollowed := true, recurses := true, named := ["internal/bytealg.MaxLen"], plainKeys := false, apart := false }
def StoreKeepsSaid : Prop := storeKeepsRow.holds Tryz.pinned (OpenSpec.ofChange storeKeepsSpec)

/-- ITS FALSE NEIGHBOUR: 'it returns false'. Refute it at one input. -/
def storeKeepsWrong : ChangeSpec := { name := "storeKeeps", fn := fun _ => fun
  | [d] => { results := [.lit (.bool false)], args := [d] }
  | _ => none }
def StoreKeepsWrongFalsely : Prop := storeKeepsRow.holds Tryz.pinned (OpenSpec.ofChange storeKeepsWrong)

/- THE SECOND FORM. 'bulk': how many values and letters a reading holds, each counted each time it is reached (what is shared counts as often as it is met; a slice's spare places count too). A statement '..UptoSaid' is the law's where the arguments, and the package variables that the reading takes, are together of bulk at most 1048576: NARROWER than '..Said'. Prove '..Said' where nothing that the law and all that it calls make is longer than what came in: it says more and counts as full. Else prove '..UptoSaid'. A law counts once. -/
mutual
def uptoBulk {H : Type} : DataW H → Nat
  | .lit (.string bytes) => bytes.length + 1
  | .lit _ => 1
  | .nil => 1
  | .ptr d => uptoBulk d + 1
  | .slice elems spare => uptoBulkAll elems + uptoBulkAll spare + 1
  | .agg parts => uptoBulkAll parts + 1
  | .iface _ d => uptoBulk d + 1
  | .map entries => uptoBulkEntries entries + 1
  | .held _ => 1
def uptoBulkAll {H : Type} : List (DataW H) → Nat
  | [] => 0
  | d :: r => uptoBulk d + uptoBulkAll r
def uptoBulkEntries {H : Type} : List (Lit × DataW H) → Nat
  | [] => 0
  | x :: r => uptoBulkEntry x + uptoBulkEntries r
def uptoBulkEntry {H : Type} : Lit × DataW H → Nat
  | (.string bytes, d) => bytes.length + uptoBulk d + 1
  | (_, d) => uptoBulk d + 1
 end
def uptoSmall : (H : Type) → List (DataW H) → Bool := fun _ ds => decide (uptoBulkAll ds ≤ 1048576)
def OpenSpec.upto (s : _root_.Go.ChangeSpec) : _root_.Go.OpenSpec := { _root_.Go.OpenSpec.ofChange s with cond := some uptoSmall }

/-- 'foliolaw15.StorePlays', WHERE WHAT IT READS IS OF BULK AT MOST 1048576: true; the input reads as it did. -/
def storePlaysUptoRow : OpenClaim := { program := "ytmhlcnmfbolgdaagreat", sum := "76ece76e4ff97dd1dff0ec9520a9b19644d38460be3be506e8a9476d5af2c45a", func := "folio/foliolaw15.StorePlays", spec := "storePlays", inPlace := ["sync/atomic.StoreUint64", "sync/atomic.LoadUint64", "internal/bytealg.abigen_runtime_cmpstring", "internal/bytealg.IndexByteString", "internal/bytealg.IndexString", "sync/atomic.CompareAndSwapUint64", "sync/atomic.LoadInt64", "sync/atomic.CompareAndSwapInt64"], unfollowed := true, recurses := true, named := ["internal/bytealg.MaxLen"], plainKeys := false, apart := false, narrowed := true }
def StorePlaysUptoSaid : Prop := storePlaysUptoRow.holds Tryz.pinned (OpenSpec.upto storePlaysSpec)

/-- 'foliolaw15.StoreSnapshots', WHERE WHAT IT READS IS OF BULK AT MOST 1048576: true; the input reads as it did. -/
def storeSnapshotsUptoRow : OpenClaim := { program := "ytmhlcnmfbolgdaagreat", sum := "76ece76e4ff97dd1dff0ec9520a9b19644d38460be3be506e8a9476d5af2c45a", func := "folio/foliolaw15.StoreSnapshots", spec := "storeSnapshots", inPlace := ["sync/atomic.StoreUint64", "sync/atomic.LoadUint64", "internal/bytealg.abigen_runtime_cmpstring", "internal/bytealg.IndexByteString", "internal/bytealg.IndexString", "sync/atomic.CompareAndSwapUint64", "sync/atomic.LoadInt64", "sync/atomic.CompareAndSwapInt64"], unfollowed := true, recurses := true, named := ["internal/bytealg.MaxLen"], plainKeys := false, apart := false, narrowed := true }
def StoreSnapshotsUptoSaid : Prop := storeSnapshotsUptoRow.holds Tryz.pinned (OpenSpec.upto storeSnapshotsSpec)

/-- 'foliolaw15.StoreFirst', WHERE WHAT IT READS IS OF BULK AT MOST 1048576: true; the input reads as it did. -/
def storeFirstUptoRow : OpenClaim := { program := "ytmhlcnmfbolgdaagreat", sum := "76ece76e4ff97dd1dff0ec9520a9b19644d38460be3be506e8a9476d5af2c45a", func := "folio/foliolaw15.StoreFirst", spec := "storeFirst", inPlace := ["sync/atomic.StoreUint64", "sync/atomic.LoadUint64", "internal/bytealg.abigen_runtime_cmpstring", "internal/bytealg.IndexByteString", "internal/bytealg.IndexString", "sync/atomic.CompareAndSwapUint64", "sync/atomic.LoadInt64"], unfollowed := true, recurses := true, named := ["internal/bytealg.MaxLen"], plainKeys := false, apart := false, narrowed := true }
def StoreFirstUptoSaid : Prop := storeFirstUptoRow.holds Tryz.pinned (OpenSpec.upto storeFirstSpec)

/-- 'foliolaw15.StoreSkew', WHERE WHAT IT READS IS OF BULK AT MOST 1048576: true; the input reads as it did. -/
def storeSkewUptoRow : OpenClaim := { program := "ytmhlcnmfbolgdaagreat", sum := "76ece76e4ff97dd1dff0ec9520a9b19644d38460be3be506e8a9476d5af2c45a", func := "folio/foliolaw15.StoreSkew", spec := "storeSkew", inPlace := ["sync/atomic.StoreUint64", "sync/atomic.LoadUint64", "internal/bytealg.abigen_runtime_cmpstring", "internal/bytealg.IndexByteString", "internal/bytealg.IndexString", "sync/atomic.CompareAndSwapUint64", "sync/atomic.LoadInt64"], unfollowed := true, recurses := true, named := ["internal/bytealg.MaxLen"], plainKeys := false, apart := false, narrowed := true }
def StoreSkewUptoSaid : Prop := storeSkewUptoRow.holds Tryz.pinned (OpenSpec.upto storeSkewSpec)

/-- 'foliolaw15.StoreOwn', WHERE WHAT IT READS IS OF BULK AT MOST 1048576: true; the input reads as it did. -/
def storeOwnUptoRow : OpenClaim := { program := "ytmhlcnmfbolgdaagreat", sum := "76ece76e4ff97dd1dff0ec9520a9b19644d38460be3be506e8a9476d5af2c45a", func := "folio/foliolaw15.StoreOwn", spec := "storeOwn", inPlace := ["sync/atomic.StoreUint64", "sync/atomic.LoadUint64", "internal/bytealg.abigen_runtime_cmpstring", "internal/bytealg.IndexByteString", "internal/bytealg.IndexString", "sync/atomic.CompareAndSwapUint64", "sync/atomic.LoadInt64"], unfollowed := true, recurses := true, named := ["internal/bytealg.MaxLen"], plainKeys := false, apart := false, narrowed := true }
def StoreOwnUptoSaid : Prop := storeOwnUptoRow.holds Tryz.pinned (OpenSpec.upto storeOwnSpec)

/-- 'foliolaw15.StoreSerial', WHERE WHAT IT READS IS OF BULK AT MOST 1048576: true; the input reads as it did. -/
def storeSerialUptoRow : OpenClaim := { program := "ytmhlcnmfbolgdaagreat", sum := "76ece76e4ff97dd1dff0ec9520a9b19644d38460be3be506e8a9476d5af2c45a", func := "folio/foliolaw15.StoreSerial", spec := "storeSerial", inPlace := ["sync/atomic.StoreUint64", "sync/atomic.LoadUint64", "internal/bytealg.abigen_runtime_cmpstring", "internal/bytealg.IndexByteString", "internal/bytealg.IndexString", "sync/atomic.CompareAndSwapUint64", "sync/atomic.LoadInt64", "sync/atomic.CompareAndSwapInt64"], unfollowed := true, recurses := true, named := ["internal/bytealg.MaxLen"], plainKeys := false, apart := false, narrowed := true }
def StoreSerialUptoSaid : Prop := storeSerialUptoRow.holds Tryz.pinned (OpenSpec.upto storeSerialSpec)

/-- 'foliolaw15.StoreWhole', WHERE WHAT IT READS IS OF BULK AT MOST 1048576: true; the input reads as it did. -/
def storeWholeUptoRow : OpenClaim := { program := "ytmhlcnmfbolgdaagreat", sum := "76ece76e4ff97dd1dff0ec9520a9b19644d38460be3be506e8a9476d5af2c45a", func := "folio/foliolaw15.StoreWhole", spec := "storeWhole", inPlace := ["sync/atomic.StoreUint64", "sync/atomic.LoadUint64", "internal/bytealg.abigen_runtime_cmpstring", "internal/bytealg.IndexByteString", "internal/bytealg.IndexString", "sync/atomic.CompareAndSwapUint64", "sync/atomic.LoadInt64", "sync/atomic.CompareAndSwapInt64"], unfollowed := true, recurses := true, named := ["internal/bytealg.MaxLen"], plainKeys := false, apart := false, narrowed := true }
def StoreWholeUptoSaid : Prop := storeWholeUptoRow.holds Tryz.pinned (OpenSpec.upto storeWholeSpec)

/-- 'foliolaw15.StoreAlone', WHERE WHAT IT READS IS OF BULK AT MOST 1048576: true; the input reads as it did. -/
def storeAloneUptoRow : OpenClaim := { program := "ytmhlcnmfbolgdaagreat", sum := "76ece76e4ff97dd1dff0ec9520a9b19644d38460be3be506e8a9476d5af2c45a", func := "folio/foliolaw15.StoreAlone", spec := "storeAlone", inPlace := ["sync/atomic.StoreUint64", "sync/atomic.LoadUint64", "internal/bytealg.abigen_runtime_cmpstring", "internal/bytealg.IndexByteString", "internal/bytealg.IndexString", "sync/atomic.CompareAndSwapUint64", "sync/atomic.LoadInt64", "sync/atomic.CompareAndSwapInt64"], unfollowed := true, recurses := true, named := ["internal/bytealg.MaxLen"], plainKeys := false, apart := false, narrowed := true }
def StoreAloneUptoSaid : Prop := storeAloneUptoRow.holds Tryz.pinned (OpenSpec.upto storeAloneSpec)

/-- 'foliolaw15.StoreVacuums', WHERE WHAT IT READS IS OF BULK AT MOST 1048576: true; the input reads as it did. -/
def storeVacuumsUptoRow : OpenClaim := { program := "ytmhlcnmfbolgdaagreat", sum := "76ece76e4ff97dd1dff0ec9520a9b19644d38460be3be506e8a9476d5af2c45a", func := "folio/foliolaw15.StoreVacuums", spec := "storeVacuums", inPlace := ["sync/atomic.StoreUint64", "sync/atomic.LoadUint64", "internal/bytealg.abigen_runtime_cmpstring", "internal/bytealg.IndexByteString", "internal/bytealg.IndexString", "sync/atomic.CompareAndSwapUint64", "sync/atomic.LoadInt64", "sync/atomic.CompareAndSwapInt64"], unfollowed := true, recurses := true, named := ["internal/bytealg.MaxLen"], plainKeys := false, apart := false, narrowed := true }
def StoreVacuumsUptoSaid : Prop := storeVacuumsUptoRow.holds Tryz.pinned (OpenSpec.upto storeVacuumsSpec)

/-- 'foliolaw15.StoreKeeps', WHERE WHAT IT READS IS OF BULK AT MOST 1048576: true; the input reads as it did. -/
def storeKeepsUptoRow : OpenClaim := { program := "ytmhlcnmfbolgdaagreat", sum := "76ece76e4ff97dd1dff0ec9520a9b19644d38460be3be506e8a9476d5af2c45a", func := "folio/foliolaw15.StoreKeeps", spec := "storeKeeps", inPlace := ["sync/atomic.StoreUint64", "sync/atomic.LoadUint64", "internal/bytealg.abigen_runtime_cmpstring", "internal/bytealg.IndexByteString", "internal/bytealg.IndexString", "sync/atomic.CompareAndSwapUint64", "sync/atomic.LoadInt64", "sync/atomic.CompareAndSwapInt64"], unfollowed := true, recurses := true, named := ["internal/bytealg.MaxLen"], plainKeys := false, apart := false, narrowed := true }
def StoreKeepsUptoSaid : Prop := storeKeepsUptoRow.holds Tryz.pinned (OpenSpec.upto storeKeepsSpec)

end Rows
end Go.Proofs.YtmhlcnmfbolgdaaGreat
