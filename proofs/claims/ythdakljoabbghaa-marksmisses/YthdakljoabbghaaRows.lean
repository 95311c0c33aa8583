/-
  No cell of these rows narrows 'for every input' (looked for: loops, veiled, ifaces, maps, wideKeys, modest, calm, conditions, laid).
  DERIVED. THE GIVEN ROWS OF THIS SEAT. 6 by the template 'for every input the law returns true; each argument reads behind the call as it read before'; 0 by the template 'total and deterministic' (their statements: YthdakljoabbghaaTotals.lean).
  GIVEN WITH THE SEED: the statements are not yours to turn. If you find one false, say at which input.
  Laid BY PROGRAM, IN A SANDBOX (cutbox-rows.mjs): the forced cells as the released guide's own fill.sh prints them over the translation a616e5ba0650bb01… (all of the seat's roots in one cut). By AI agents, Wed Nov 11 2026. No macro, syntax, notation, axiom, sorry.
-/
import Derived.Test.YthdakljoabbghaaChecked
import GoSem.Claim
import GoSem.ClaimJoined
import GoSem.ClaimMapViews
import Derived.JoinedTies
import Derived.KernelRfl
namespace Go.Proofs.Ythdakljoabbghaa
/- THE CELL 'sum', in the pinned program and in every row, IS THE sha256 OF THE DUMP (.gsa) THAT YthdakljoabbghaaProg.lean LOADS. Nothing in Lean hashes anything: it is a label: what it is worth is what the hold of that sum in a sandbox is worth. -/
noncomputable def Try.pinned : Pinned := { name := "ythdakljoabbghaa", sum := "a616e5ba0650bb0119fcf7d1af61145733967e6272f400902bb508159addc41b", checked := Try.checked }
namespace Rows
def none {H : Type} : Left H := { results := [], args := [] }

/-- 'foliolaw12.MarksAdds': WHATEVER THE INPUT: true; the input reads as it did. -/
def marksAddsSpec : ChangeSpec := { name := "marksAdds", fn := fun _ => fun
  | [d1, d2, d3] => { results := [.lit (.bool true)], args := [d1, d2, d3] }
  | _ => none }
def marksAddsRow : OpenClaim := { program := "ythdakljoabbghaa", sum := "a616e5ba0650bb0119fcf7d1af61145733967e6272f400902bb508159addc41b", func := "folio/foliolaw12.MarksAdds", spec := "marksAdds", inPlace := ["internal/bytealg.abigen_runtime_cmpstring", "internal/bytealg.IndexByteString", "internal/bytealg.IndexString"], unfollowed := true, recurses := true, named := ["internal/bytealg.MaxLen"], apart := false }
def MarksAddsSaid : Prop := marksAddsRow.holds Try.pinned (OpenSpec.ofChange marksAddsSpec)

/-- ITS FALSE NEIGHBOUR: 'it returns false'. Refute it at one input. -/
def marksAddsWrong : ChangeSpec := { name := "marksAdds", fn := fun _ => fun
  | [d1, d2, d3] => { results := [.lit (.bool false)], args := [d1, d2, d3] }
  | _ => none }
def MarksAddsWrongFalsely : Prop := marksAddsRow.holds Try.pinned (OpenSpec.ofChange marksAddsWrong)

/-- 'foliolaw12.MarksHits': WHATEVER THE INPUT: true; the input reads as it did. -/
def marksHitsSpec : ChangeSpec := { name := "marksHits", fn := fun _ => fun
  | [d1, d2] => { results := [.lit (.bool true)], args := [d1, d2] }
  | _ => none }
def marksHitsRow : OpenClaim := { program := "ythdakljoabbghaa", sum := "a616e5ba0650bb0119fcf7d1af61145733967e6272f400902bb508159addc41b", func := "folio/foliolaw12.MarksHits", spec := "marksHits", inPlace := ["internal/bytealg.abigen_runtime_cmpstring", "internal/bytealg.IndexByteString", "internal/bytealg.IndexString"], unfollowed := true, recurses := true, named := ["internal/bytealg.MaxLen"], apart := false }
def MarksHitsSaid : Prop := marksHitsRow.holds Try.pinned (OpenSpec.ofChange marksHitsSpec)

/-- ITS FALSE NEIGHBOUR: 'it returns false'. Refute it at one input. -/
def marksHitsWrong : ChangeSpec := { name := "marksHits", fn := fun _ => fun
  | [d1, d2] => { results := [.lit (.bool false)], args := [d1, d2] }
  | _ => none }
def MarksHitsWrongFalsely : Prop := marksHitsRow.holds Try.pinned (OpenSpec.ofChange marksHitsWrong)

/-- 'foliolaw12.MarksUnions': WHATEVER THE INPUT: true; the input reads as it did. -/
def marksUnionsSpec : ChangeSpec := { name := "marksUnions", fn := fun _ => fun
  | [d1, d2, d3] => { results := [.lit (.bool true)], args := [d1, d2, d3] }
  | _ => none }
def marksUnionsRow : OpenClaim := { program := "ythdakljoabbghaa", sum := "a616e5ba0650bb0119fcf7d1af61145733967e6272f400902bb508159addc41b", func := "folio/foliolaw12.MarksUnions", spec := "marksUnions", inPlace := ["internal/bytealg.abigen_runtime_cmpstring", "internal/bytealg.IndexByteString", "internal/bytealg.IndexString"], unfollowed := true, recurses := true, named := ["internal/bytealg.MaxLen"], apart := false }
def MarksUnionsSaid : Prop := marksUnionsRow.holds Try.pinned (OpenSpec.ofChange marksUnionsSpec)

/-- ITS FALSE NEIGHBOUR: 'it returns false'. Refute it at one input. -/
def marksUnionsWrong : ChangeSpec := { name := "marksUnions", fn := fun _ => fun
  | [d1, d2, d3] => { results := [.lit (.bool false)], args := [d1, d2, d3] }
  | _ => none }
def MarksUnionsWrongFalsely : Prop := marksUnionsRow.holds Try.pinned (OpenSpec.ofChange marksUnionsWrong)

/-- 'foliolaw12.MarksMisses': WHATEVER THE INPUT: true; the input reads as it did. -/
def marksMissesSpec : ChangeSpec := { name := "marksMisses", fn := fun _ => fun
  | [d1, d2, d3] => { results := [.lit (.bool true)], args := [d1, d2, d3] }
  | _ => none }
def marksMissesRow : OpenClaim := { program := "ythdakljoabbghaa", sum := "a616e5ba0650bb0119fcf7d1af61145733967e6272f400902bb508159addc41b", func := "folio/foliolaw12.MarksMisses", spec := "marksMisses", inPlace := ["internal/bytealg.abigen_runtime_cmpstring", "internal/bytealg.IndexByteString", "internal/bytealg.IndexString"], unfollowed := true, recurses := true, named := ["internal/bytealg.MaxLen"], apart := false }
def MarksMissesSaid : Prop := marksMissesRow.holds Try.pinned (OpenSpec.ofChange marksMissesSpec)

/-- ITS FALSE NEIGHBOUR: 'it returns false'. Refute it at one input. -/
def marksMissesWrong : ChangeSpec := { name := "marksMisses", fn := fun _ => fun
  | [d1, d2, d3] => { results := [.lit (.bool false)], args := [d1, d2, d3] }
  | _ => none }
def MarksMissesWrongFalsely : Prop := marksMissesRow.holds Try.pinned (OpenSpec.ofChange marksMissesWrong)

/-- 'foliolaw12.MarksKeeps': WHATEVER THE INPUT: true; the input reads as it did. -/
def marksKeepsSpec : ChangeSpec := { name := "marksKeeps", fn := fun _ => fun
  | [d1, d2, d3] => { results := [.lit (.bool true)], args := [d1, d2, d3] }
  | _ => none }
def marksKeepsRow : OpenClaim := { program := "ythdakljoabbghaa", sum := "a616e5ba0650bb0119fcf7d1af61145733967e6272f400902bb508159addc41b", func := "folio/foliolaw12.MarksKeeps", spec := "marksKeeps", inPlace := ["internal/bytealg.abigen_runtime_cmpstring", "internal/bytealg.IndexByteString", "internal/bytealg.IndexString"], unfollowed := true, recurses := true, named := ["internal/bytealg.MaxLen"], apart := false }
def MarksKeepsSaid : Prop := marksKeepsRow.holds Try.pinned (OpenSpec.ofChange marksKeepsSpec)

/-- ITS FALSE NEIGHBOUR: 'it returns false'. Refute it at one input. -/
def marksKeepsWrong : ChangeSpec := { name := "marksKeeps", fn := fun _ => fun
  | [d1, d2, d3] => { results := [.lit (.bool false)], args := [d1, d2, d3] }
  | _ => none }
def MarksKeepsWrongFalsely : Prop := marksKeepsRow.holds Try.pinned (OpenSpec.ofChange marksKeepsWrong)

/-- 'foliolaw12.MarksGrow': WHATEVER THE INPUT: true; the input reads as it did. -/
def marksGrowSpec : ChangeSpec := { name := "marksGrow", fn := fun _ => fun
  | [d1, d2, d3] => { results := [.lit (.bool true)], args := [d1, d2, d3] }
  | _ => none }
def marksGrowRow : OpenClaim := { program := "ythdakljoabbghaa", sum := "a616e5ba0650bb0119fcf7d1af61145733967e6272f400902bb508159addc41b", func := "folio/foliolaw12.MarksGrow", spec := "marksGrow", inPlace := ["internal/bytealg.abigen_runtime_cmpstring", "internal/bytealg.IndexByteString", "internal/bytealg.IndexString"], unfollowed := true, recurses := true, named := ["internal/bytealg.MaxLen"], apart := false }
def MarksGrowSaid : Prop := marksGrowRow.holds Try.pinned (OpenSpec.ofChange marksGrowSpec)

/-- ITS FALSE NEIGHBOUR: 'it returns false'. Refute it at one input. -/
def marksGrowWrong : ChangeSpec := { name := "marksGrow", fn := fun _ => fun
  | [d1, d2, d3] => { results := [.lit (.bool false)], args := [d1, d2, d3] }
  | _ => none }
def MarksGrowWrongFalsely : Prop := marksGrowRow.holds Try.pinned (OpenSpec.ofChange marksGrowWrong)

/- THE SECOND FORM. 'bulk': how many values and letters a reading holds, each counted each time it is reached (what is shared counts as often as it is met; a slice's spare places count too). A statement '..UptoSaid' is the law's where the arguments, and the package variables that the reading takes, are together of bulk at most 1048576: NARROWER than '..Said'. Prove '..Said' where nothing that the law and all that it calls make is longer than what came in: it says more and counts as full. Else prove '..UptoSaid'. A law counts once. -/
mutual
def uptoBulk {H : Type} : DataW H → Nat
  | .lit (.string bytes) => bytes.length + 1
  | .lit _ => 1
  | .nil => 1
  | .ptr d => uptoBulk d + 1
  | .slice elems spare => uptoBulkAll elems + uptoBulkAll spare + 1
  | .agg parts => uptoBulkAll parts + 1
  | .iface _ d => uptoBulk d + 1
  | .map entries => uptoBulkEntries entries + 1
  | .held _ => 1
def uptoBulkAll {H : Type} : List (DataW H) → Nat
  | [] => 0
  | d :: r => uptoBulk d + uptoBulkAll r
def uptoBulkEntries {H : Type} : List (Lit × DataW H) → Nat
  | [] => 0
  | x :: r => uptoBulkEntry x + uptoBulkEntries r
def uptoBulkEntry {H : Type} : Lit × DataW H → Nat
  | (.string bytes, d) => bytes.length + uptoBulk d + 1
  | (_, d) => uptoBulk d + 1
 end
def uptoSmall : (H : Type) → List (DataW H) → Bool := fun _ ds => decide (uptoBulkAll ds ≤ 1048576)
def OpenSpec.upto (s : _root_.Go.ChangeSpec) : _root_.Go.OpenSpec := { _root_.Go.OpenSpec.ofChange s with cond := some uptoSmall }

/-- 'foliolaw12.MarksAdds', WHERE WHAT IT READS IS OF BULK AT MOST 1048576: true; the input reads as it did. -/
def marksAddsUptoRow : OpenClaim := { program := "ythdakljoabbghaa", sum := "a616e5ba0650bb0119fcf7d1af61145733967e6272f400902bb508159addc41b", func := "folio/foliolaw12.MarksAdds", spec := "marksAdds", inPlace := ["internal/bytealg.abigen_runtime_cmpstring", "internal/bytealg.IndexByteString", "internal/bytealg.IndexString"], unfollowed := true, recurses := true, named := ["internal/bytealg.MaxLen"], apart := false, narrowed := true }
def MarksAddsUptoSaid : Prop := marksAddsUptoRow.holds Try.pinned (OpenSpec.upto marksAddsSpec)

/-- 'foliolaw12.MarksHits', WHERE WHAT IT READS IS OF BULK AT MOST 1048576: true; the input reads as it did. -/
def marksHitsUptoRow : OpenClaim := { program := "ythdakljoabbghaa", sum := "a616e5ba0650bb0119fcf7d1af61145733967e6272f400902bb508159addc41b", func := "folio/foliolaw12.MarksHits", spec := "marksHits", inPlace := ["internal/bytealg.abigen_runtime_cmpstring", "internal/bytealg.IndexByteString", "internal/bytealg.IndexString"], unfollowed := true, recurses := true, named := ["internal/bytealg.MaxLen"], apart := false, narrowed := true }
def MarksHitsUptoSaid : Prop := marksHitsUptoRow.holds Try.pinned (OpenSpec.upto marksHitsSpec)

/-- 'foliolaw12.MarksUnions', WHERE WHAT IT READS IS OF BULK AT MOST 1048576: true; the input reads as it did. -/
def marksUnionsUptoRow : OpenClaim := { program := "ythdakljoabbghaa", sum := "a616e5ba0650bb0119fcf7d1af61145733967e6272f400902bb508159addc41b", func := "folio/foliolaw12.MarksUnions", spec := "marksUnions", inPlace := ["internal/bytealg.abigen_runtime_cmpstring", "internal/bytealg.IndexByteString", "internal/bytealg.IndexString"], unfollowed := true, recurses := true, named := ["internal/bytealg.MaxLen"], apart := false, narrowed := true }
def MarksUnionsUptoSaid : Prop := marksUnionsUptoRow.holds Try.pinned (OpenSpec.upto marksUnionsSpec)

/-- 'foliolaw12.MarksMisses', WHERE WHAT IT READS IS OF BULK AT MOST 1048576: true; the input reads as it did. -/
def marksMissesUptoRow : OpenClaim := { program := "ythdakljoabbghaa", sum := "a616e5ba0650bb0119fcf7d1af61145733967e6272f400902bb508159addc41b", func := "folio/foliolaw12.MarksMisses", spec := "marksMisses", inPlace := ["internal/bytealg.abigen_runtime_cmpstring", "internal/bytealg.IndexByteString", "internal/bytealg.IndexString"], unfollowed := true, recurses := true, named := ["internal/bytealg.MaxLen"], apart := false, narrowed := true }
def MarksMissesUptoSaid : Prop := marksMissesUptoRow.holds Try.pinned (OpenSpec.upto marksMissesSpec)

/-- 'foliolaw12.MarksKeeps', WHERE WHAT IT READS IS OF BULK AT MOST 1048576: true; the input reads as it did. -/
def marksKeepsUptoRow : OpenClaim := { program := "ythdakljoabbghaa", sum := "a616e5ba0650bb0119fcf7d1af61145733967e6272f400902bb508159addc41b", func := "folio/foliolaw12.MarksKeeps", spec := "marksKeeps", inPlace := ["internal/bytealg.abigen_runtime_cmpstring", "internal/bytealg.IndexByteString", "internal/bytealg.IndexString"], unfollowed := true, recurses := true, named := ["internal/bytealg.MaxLen"], apart := false, narrowed := true }
def MarksKeepsUptoSaid : Prop := marksKeepsUptoRow.holds Try.pinned (OpenSpec.upto marksKeepsSpec)

/-- 'foliolaw12.MarksGrow', WHERE WHAT IT READS IS OF BULK AT MOST 1048576: true; the input reads as it did. -/
def marksGrowUptoRow : OpenClaim := { program := "ythdakljoabbghaa", sum := "a616e5ba0650bb0119fcf7d1af61145733967e6272f400902bb508159addc41b", func := "folio/foliolaw12.MarksGrow", spec := "marksGrow", inPlace := ["internal/bytealg.abigen_runtime_cmpstring", "internal/bytealg.IndexByteString", "internal/bytealg.IndexString"], unfollowed := true, recurses := true, named := ["internal/bytealg.MaxLen"], apart := false, narrowed := true }
def MarksGrowUptoSaid : Prop := marksGrowUptoRow.holds Try.pinned (OpenSpec.upto marksGrowSpec)

end Rows
end Go.Proofs.Ythdakljoabbghaa
