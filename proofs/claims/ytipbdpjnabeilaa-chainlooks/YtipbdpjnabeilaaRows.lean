/-
  No cell of these rows narrows 'for every input' (looked for: loops, veiled, ifaces, maps, wideKeys, modest, calm, conditions, laid).
  DERIVED. THE GIVEN ROWS OF THIS SEAT. 6 by the template 'for every input the law returns true; each argument reads behind the call as it read before'; 0 by the template 'total and deterministic' (their statements: YtipbdpjnabeilaaTotals.lean).
  GIVEN WITH THE SEED: the statements are not yours to turn. If you find one false, say at which input.
  Laid BY PROGRAM, IN A SANDBOX (cutbox-rows.mjs): the forced cells as the released guide's own fill.sh prints them over the translation 89586f99b4406ce1… (all of the seat's roots in one cut). By AI agents, Wed Nov 11 2026. No macro, syntax, notation, axiom, sorry.
-/
import Derived.Test.YtipbdpjnabeilaaChecked
import GoSem.Claim
import GoSem.ClaimJoined
import GoSem.ClaimMapViews
import Derived.JoinedTies
import Derived.KernelRfl
namespace Go.Proofs.Ytipbdpjnabeilaa
/- THE CELL 'sum', in the pinned program and in every row, IS THE sha256 OF THE DUMP (.gsa) THAT YtipbdpjnabeilaaProg.lean LOADS. Nothing in Lean hashes anything: it is a label: what it is worth is what the hold of that sum in a sandbox is worth. -/
noncomputable def Try.pinned : Pinned := { name := "ytipbdpjnabeilaa", sum := "89586f99b4406ce16996c17b3b9c1de36740ee0a320a83341490f10fb324722f", checked := Try.checked }
namespace Rows
def none {H : Type} : Left H := { results := [], args := [] }

/-- 'foliolaw06.ChainPlays': WHATEVER THE INPUT: true; the input reads as it did. -/
def chainPlaysSpec : ChangeSpec := { name := "chainPlays", fn := fun _ => fun
  | [d] => { results := [.lit (.bool true)], args := [d] }
  | _ => none }
def chainPlaysRow : OpenClaim := { program := "ytipbdpjnabeilaa", sum := "89586f99b4406ce16996c17b3b9c1de36740ee0a320a83341490f10fb324722f", func := "folio/foliolaw06.ChainPlays", spec := "chainPlays", unfollowed := true, recurses := true, apart := false }
def ChainPlaysSaid : Prop := chainPlaysRow.holds Try.pinned (OpenSpec.ofChange chainPlaysSpec)

/-- ITS FALSE NEIGHBOUR: 'it returns false'. Refute it at one input. -/
def chainPlaysWrong : ChangeSpec := { name := "chainPlays", fn := fun _ => fun
  | [d] => { results := [.lit (.bool false)], args := [d] }
  | _ => none }
def ChainPlaysWrongFalsely : Prop := chainPlaysRow.holds Try.pinned (OpenSpec.ofChange chainPlaysWrong)

/-- 'foliolaw06.ChainPrunes': WHATEVER THE INPUT: true; the input reads as it did. -/
def chainPrunesSpec : ChangeSpec := { name := "chainPrunes", fn := fun _ => fun
  | [d1, d2, d3] => { results := [.lit (.bool true)], args := [d1, d2, d3] }
  | _ => none }
def chainPrunesRow : OpenClaim := { program := "ytipbdpjnabeilaa", sum := "89586f99b4406ce16996c17b3b9c1de36740ee0a320a83341490f10fb324722f", func := "folio/foliolaw06.ChainPrunes", spec := "chainPrunes", unfollowed := true, recurses := true, apart := false }
def ChainPrunesSaid : Prop := chainPrunesRow.holds Try.pinned (OpenSpec.ofChange chainPrunesSpec)

/-- ITS FALSE NEIGHBOUR: 'it returns false'. Refute it at one input. -/
def chainPrunesWrong : ChangeSpec := { name := "chainPrunes", fn := fun _ => fun
  | [d1, d2, d3] => { results := [.lit (.bool false)], args := [d1, d2, d3] }
  | _ => none }
def ChainPrunesWrongFalsely : Prop := chainPrunesRow.holds Try.pinned (OpenSpec.ofChange chainPrunesWrong)

/-- 'foliolaw06.ChainNumbers': WHATEVER THE INPUT: true; the input reads as it did. -/
def chainNumbersSpec : ChangeSpec := { name := "chainNumbers", fn := fun _ => fun
  | [d] => { results := [.lit (.bool true)], args := [d] }
  | _ => none }
def chainNumbersRow : OpenClaim := { program := "ytipbdpjnabeilaa", sum := "89586f99b4406ce16996c17b3b9c1de36740ee0a320a83341490f10fb324722f", func := "folio/foliolaw06.ChainNumbers", spec := "chainNumbers", unfollowed := true, recurses := true, apart := false }
def ChainNumbersSaid : Prop := chainNumbersRow.holds Try.pinned (OpenSpec.ofChange chainNumbersSpec)

/-- ITS FALSE NEIGHBOUR: 'it returns false'. Refute it at one input. -/
def chainNumbersWrong : ChangeSpec := { name := "chainNumbers", fn := fun _ => fun
  | [d] => { results := [.lit (.bool false)], args := [d] }
  | _ => none }
def ChainNumbersWrongFalsely : Prop := chainNumbersRow.holds Try.pinned (OpenSpec.ofChange chainNumbersWrong)

/-- 'foliolaw06.ChainKeeps': WHATEVER THE INPUT: true; the input reads as it did. -/
def chainKeepsSpec : ChangeSpec := { name := "chainKeeps", fn := fun _ => fun
  | [d] => { results := [.lit (.bool true)], args := [d] }
  | _ => none }
def chainKeepsRow : OpenClaim := { program := "ytipbdpjnabeilaa", sum := "89586f99b4406ce16996c17b3b9c1de36740ee0a320a83341490f10fb324722f", func := "folio/foliolaw06.ChainKeeps", spec := "chainKeeps", unfollowed := true, recurses := true, apart := false }
def ChainKeepsSaid : Prop := chainKeepsRow.holds Try.pinned (OpenSpec.ofChange chainKeepsSpec)

/-- ITS FALSE NEIGHBOUR: 'it returns false'. Refute it at one input. -/
def chainKeepsWrong : ChangeSpec := { name := "chainKeeps", fn := fun _ => fun
  | [d] => { results := [.lit (.bool false)], args := [d] }
  | _ => none }
def ChainKeepsWrongFalsely : Prop := chainKeepsRow.holds Try.pinned (OpenSpec.ofChange chainKeepsWrong)

/-- 'foliolaw06.ChainLooks': WHATEVER THE INPUT: true; the input reads as it did. -/
def chainLooksSpec : ChangeSpec := { name := "chainLooks", fn := fun _ => fun
  | [d1, d2] => { results := [.lit (.bool true)], args := [d1, d2] }
  | _ => none }
def chainLooksRow : OpenClaim := { program := "ytipbdpjnabeilaa", sum := "89586f99b4406ce16996c17b3b9c1de36740ee0a320a83341490f10fb324722f", func := "folio/foliolaw06.ChainLooks", spec := "chainLooks", unfollowed := true, recurses := true, apart := false }
def ChainLooksSaid : Prop := chainLooksRow.holds Try.pinned (OpenSpec.ofChange chainLooksSpec)

/-- ITS FALSE NEIGHBOUR: 'it returns false'. Refute it at one input. -/
def chainLooksWrong : ChangeSpec := { name := "chainLooks", fn := fun _ => fun
  | [d1, d2] => { results := [.lit (.bool false)], args := [d1, d2] }
  | _ => none }
def ChainLooksWrongFalsely : Prop := chainLooksRow.holds Try.pinned (OpenSpec.ofChange chainLooksWrong)

/-- 'foliolaw06.ChainRefuses': WHATEVER THE INPUT: true; the input reads as it did. -/
def chainRefusesSpec : ChangeSpec := { name := "chainRefuses", fn := fun _ => fun
  | [d1, d2] => { results := [.lit (.bool true)], args := [d1, d2] }
  | _ => none }
def chainRefusesRow : OpenClaim := { program := "ytipbdpjnabeilaa", sum := "89586f99b4406ce16996c17b3b9c1de36740ee0a320a83341490f10fb324722f", func := "folio/foliolaw06.ChainRefuses", spec := "chainRefuses", unfollowed := true, recurses := true, apart := false }
def ChainRefusesSaid : Prop := chainRefusesRow.holds Try.pinned (OpenSpec.ofChange chainRefusesSpec)

/-- ITS FALSE NEIGHBOUR: 'it returns false'. Refute it at one input. -/
def chainRefusesWrong : ChangeSpec := { name := "chainRefuses", fn := fun _ => fun
  | [d1, d2] => { results := [.lit (.bool false)], args := [d1, d2] }
  | _ => none }
def ChainRefusesWrongFalsely : Prop := chainRefusesRow.holds Try.pinned (OpenSpec.ofChange chainRefusesWrong)

/- THE SECOND FORM. 'bulk': how many values and letters a reading holds, each counted each time it is reached (what is shared counts as often as it is met; a slice's spare places count too). A statement '..UptoSaid' is the law's where the arguments, and the package variables that the reading takes, are together of bulk at most 1048576: NARROWER than '..Said'. Prove '..Said' where nothing that the law and all that it calls make is longer than what came in: it says more and counts as full. Else prove '..UptoSaid'. A law counts once. -/
mutual
def uptoBulk {H : Type} : DataW H → Nat
  | .lit (.string bytes) => bytes.length + 1
  | .lit _ => 1
  | .nil => 1
  | .ptr d => uptoBulk d + 1
  | .slice elems spare => uptoBulkAll elems + uptoBulkAll spare + 1
  | .agg parts => uptoBulkAll parts + 1
  | .iface _ d => uptoBulk d + 1
  | .map entries => uptoBulkEntries entries + 1
  | .held _ => 1
def uptoBulkAll {H : Type} : List (DataW H) → Nat
  | [] => 0
  | d :: r => uptoBulk d + uptoBulkAll r
def uptoBulkEntries {H : Type} : List (Lit × DataW H) → Nat
  | [] => 0
  | x :: r => uptoBulkEntry x + uptoBulkEntries r
def uptoBulkEntry {H : Type} : Lit × DataW H → Nat
  | (.string bytes, d) => bytes.length + uptoBulk d + 1
  | (_, d) => uptoBulk d + 1
 end
def uptoSmall : (H : Type) → List (DataW H) → Bool := fun _ ds => decide (uptoBulkAll ds ≤ 1048576)
def OpenSpec.upto (s : _root_.Go.ChangeSpec) : _root_.Go.OpenSpec := { _root_.Go.OpenSpec.ofChange s with cond := some uptoSmall }

/-- 'foliolaw06.ChainPlays', WHERE WHAT IT READS IS OF BULK AT MOST 1048576: true; the input reads as it did. -/
def chainPlaysUptoRow : OpenClaim := { program := "ytipbdpjnabeilaa", sum := "89586f99b4406ce16996c17b3b9c1de36740ee0a320a83341490f10fb324722f", func := "folio/foliolaw06.ChainPlays", spec := "chainPlays", unfollowed := true, recurses := true, apart := false, narrowed := true }
def ChainPlaysUptoSaid : Prop := chainPlaysUptoRow.holds Try.pinned (OpenSpec.upto chainPlaysSpec)

/-- 'foliolaw06.ChainPrunes', WHERE WHAT IT READS IS OF BULK AT MOST 1048576: true; the input reads as it did. -/
def chainPrunesUptoRow : OpenClaim := { program := "ytipbdpjnabeilaa", sum := "89586f99b4406ce16996c17b3b9c1de36740ee0a320a83341490f10fb324722f", func := "folio/foliolaw06.ChainPrunes", spec := "chainPrunes", unfollowed := true, recurses := true, apart := false, narrowed := true }
def ChainPrunesUptoSaid : Prop := chainPrunesUptoRow.holds Try.pinned (OpenSpec.upto chainPrunesSpec)

/-- 'foliolaw06.ChainNumbers', WHERE WHAT IT READS IS OF BULK AT MOST 1048576: true; the input reads as it did. -/
def chainNumbersUptoRow : OpenClaim := { program := "ytipbdpjnabeilaa", sum := "89586f99b4406ce16996c17b3b9c1de36740ee0a320a83341490f10fb324722f", func := "folio/foliolaw06.ChainNumbers", spec := "chainNumbers", unfollowed := true, recurses := true, apart := false, narrowed := true }
def ChainNumbersUptoSaid : Prop := chainNumbersUptoRow.holds Try.pinned (OpenSpec.upto chainNumbersSpec)

/-- 'foliolaw06.ChainKeeps', WHERE WHAT IT READS IS OF BULK AT MOST 1048576: true; the input reads as it did. -/
def chainKeepsUptoRow : OpenClaim := { program := "ytipbdpjnabeilaa", sum := "89586f99b4406ce16996c17b3b9c1de36740ee0a320a83341490f10fb324722f", func := "folio/foliolaw06.ChainKeeps", spec := "chainKeeps", unfollowed := true, recurses := true, apart := false, narrowed := true }
def ChainKeepsUptoSaid : Prop := chainKeepsUptoRow.holds Try.pinned (OpenSpec.upto chainKeepsSpec)

/-- 'foliolaw06.ChainLooks', WHERE WHAT IT READS IS OF BULK AT MOST 1048576: true; the input reads as it did. -/
def chainLooksUptoRow : OpenClaim := { program := "ytipbdpjnabeilaa", sum := "89586f99b4406ce16996c17b3b9c1de36740ee0a320a83341490f10fb324722f", func := "folio/foliolaw06.ChainLooks", spec := "chainLooks", unfollowed := true, recurses := true, apart := false, narrowed := true }
def ChainLooksUptoSaid : Prop := chainLooksUptoRow.holds Try.pinned (OpenSpec.upto chainLooksSpec)

/-- 'foliolaw06.ChainRefuses', WHERE WHAT IT READS IS OF BULK AT MOST 1048576: true; the input reads as it did. -/
def chainRefusesUptoRow : OpenClaim := { program := "ytipbdpjnabeilaa", sum := "89586f99b4406ce16996c17b3b9c1de36740ee0a320a83341490f10fb324722f", func := "folio/foliolaw06.ChainRefuses", spec := "chainRefuses", unfollowed := true, recurses := true, apart := false, narrowed := true }
def ChainRefusesUptoSaid : Prop := chainRefusesUptoRow.holds Try.pinned (OpenSpec.upto chainRefusesSpec)

end Rows
end Go.Proofs.Ytipbdpjnabeilaa
