/-
  No cell of these rows narrows 'for every input' (looked for: loops, veiled, ifaces, maps, wideKeys, modest, calm, conditions, laid).
  DERIVED. THE GIVEN ROWS OF THIS SEAT. 5 by the template 'for every input the law returns true; each argument reads behind the call as it read before'; 0 by the template 'total and deterministic' (their statements: YticfpkodoghnnaaGreatTotals.lean).
  GIVEN WITH THE SEED: the statements are not yours to turn. If you find one false, say at which input.
  Laid BY PROGRAM, IN A SANDBOX (cutbox-rows.mjs): the forced cells as the released guide's own fill.sh prints them over the translation 29aa0487fc3612e3… (all of the seat's roots in one cut). By AI agents, Wed Nov 11 2026. No macro, syntax, notation, axiom, sorry.
-/
import Derived.Test.YticfpkodoghnnaaGreatChecked
import GoSem.Claim
import GoSem.ClaimJoined
import GoSem.ClaimMapViews
import Derived.JoinedTies
import Derived.KernelRfl
namespace Go.Proofs.YticfpkodoghnnaaGreat
/- THE CELL 'sum', in the pinned program and in every row, IS THE sha256 OF THE DUMP (.gsa) THAT YticfpkodoghnnaaGreatProg.lean LOADS. Nothing in Lean hashes anything: it is a label: what it is worth is what the hold of that sum in a sandbox is worth. -/
noncomputable def Tryz.pinned : Pinned := { name := "yticfpkodoghnnaagreat", sum := "29aa0487fc3612e3101962a890b579687da0463a8d744c645a4c6a0bab79036a", checked := Tryz.checked }
namespace Rows
def none {H : Type} : Left H := { results := [], args := [] }

/-- 'foliolaw14.PastAnswers': WHATEVER THE INPUT: true; the input reads as it did. -/
def pastAnswersSpec : ChangeSpec := { name := "pastAnswers", fn := fun _ => fun
  | [d1, d2] => { results := [.lit (.bool true)], args := [d1, d2] }
  | _ => none }
def pastAnswersRow : OpenClaim := { program := "yticfpkodoghnnaagreat", sum := "29aa0487fc3612e3101962a890b579687da0463a8d744c645a4c6a0bab79036a", func := "folio/foliolaw14.PastAnswers", spec := "pastAnswers", inPlace := ["internal/bytealg.abigen_runtime_cmpstring", "internal/bytealg.IndexByteString", "internal/bytealg.IndexString"], unfollowed := true, recurses := true, named := ["internal/bytealg.MaxLen"], plainKeys := false, apart := false }
def PastAnswersSaid : Prop := pastAnswersRow.holds Tryz.pinned (OpenSpec.ofChange pastAnswersSpec)

/-- ITS FALSE NEIGHBOUR: 'it returns false'. Refute it at one input. -/
def pastAnswersWrong : ChangeSpec := { name := "pastAnswers", fn := fun _ => fun
  | [d1, d2] => { results := [.lit (.bool false)], args := [d1, d2] }
  | _ => none }
def PastAnswersWrongFalsely : Prop := pastAnswersRow.holds Tryz.pinned (OpenSpec.ofChange pastAnswersWrong)

/-- 'foliolaw14.PastVacuum': WHATEVER THE INPUT: true; the input reads as it did. -/
def pastVacuumSpec : ChangeSpec := { name := "pastVacuum", fn := fun _ => fun
  | [d1, d2] => { results := [.lit (.bool true)], args := [d1, d2] }
  | _ => none }
def pastVacuumRow : OpenClaim := { program := "yticfpkodoghnnaagreat", sum := "29aa0487fc3612e3101962a890b579687da0463a8d744c645a4c6a0bab79036a", func := "folio/foliolaw14.PastVacuum", spec := "pastVacuum", inPlace := ["internal/bytealg.abigen_runtime_cmpstring", "internal/bytealg.IndexByteString", "internal/bytealg.IndexString"], unfollowed := true, recurses := true, named := ["internal/bytealg.MaxLen"], plainKeys := false, apart := false }
def PastVacuumSaid : Prop := pastVacuumRow.holds Tryz.pinned (OpenSpec.ofChange pastVacuumSpec)

/-- ITS FALSE NEIGHBOUR: 'it returns false'. Refute it at one input. -/
def pastVacuumWrong : ChangeSpec := { name := "pastVacuum", fn := fun _ => fun
  | [d1, d2] => { results := [.lit (.bool false)], args := [d1, d2] }
  | _ => none }
def PastVacuumWrongFalsely : Prop := pastVacuumRow.holds Tryz.pinned (OpenSpec.ofChange pastVacuumWrong)

/-- 'foliolaw14.PastStays': WHATEVER THE INPUT: true; the input reads as it did. -/
def pastStaysSpec : ChangeSpec := { name := "pastStays", fn := fun _ => fun
  | [d1, d2, d3] => { results := [.lit (.bool true)], args := [d1, d2, d3] }
  | _ => none }
def pastStaysRow : OpenClaim := { program := "yticfpkodoghnnaagreat", sum := "29aa0487fc3612e3101962a890b579687da0463a8d744c645a4c6a0bab79036a", func := "folio/foliolaw14.PastStays", spec := "pastStays", inPlace := ["internal/bytealg.abigen_runtime_cmpstring", "internal/bytealg.IndexByteString", "internal/bytealg.IndexString"], unfollowed := true, recurses := true, named := ["internal/bytealg.MaxLen"], plainKeys := false, apart := false }
def PastStaysSaid : Prop := pastStaysRow.holds Tryz.pinned (OpenSpec.ofChange pastStaysSpec)

/-- ITS FALSE NEIGHBOUR: 'it returns false'. Refute it at one input. -/
def pastStaysWrong : ChangeSpec := { name := "pastStays", fn := fun _ => fun
  | [d1, d2, d3] => { results := [.lit (.bool false)], args := [d1, d2, d3] }
  | _ => none }
def PastStaysWrongFalsely : Prop := pastStaysRow.holds Tryz.pinned (OpenSpec.ofChange pastStaysWrong)

/-- 'foliolaw14.PastKeeps': WHATEVER THE INPUT: true; the input reads as it did. -/
def pastKeepsSpec : ChangeSpec := { name := "pastKeeps", fn := fun _ => fun
  | [d1, d2] => { results := [.lit (.bool true)], args := [d1, d2] }
  | _ => none }
def pastKeepsRow : OpenClaim := { program := "yticfpkodoghnnaagreat", sum := "29aa0487fc3612e3101962a890b579687da0463a8d744c645a4c6a0bab79036a", func := "folio/foliolaw14.PastKeeps", spec := "pastKeeps", inPlace := ["internal/bytealg.abigen_runtime_cmpstring", "internal/bytealg.IndexByteString", "internal/bytealg.IndexString"], unfollowed := true, recurses := true, named := ["internal/bytealg.MaxLen"], plainKeys := false, apart := false }
def PastKeepsSaid : Prop := pastKeepsRow.holds Tryz.pinned (OpenSpec.ofChange pastKeepsSpec)

/-- ITS FALSE NEIGHBOUR: 'it returns false'. Refute it at one input. -/
def pastKeepsWrong : ChangeSpec := { name := "pastKeeps", fn := fun _ => fun
  | [d1, d2] => { results := [.lit (.bool false)], args := [d1, d2] }
  | _ => none }
def PastKeepsWrongFalsely : Prop := pastKeepsRow.holds Tryz.pinned (OpenSpec.ofChange pastKeepsWrong)

/-- 'foliolaw14.PastLogs': WHATEVER THE INPUT: true; the input reads as it did. -/
def pastLogsSpec : ChangeSpec := { name := "pastLogs", fn := fun _ => fun
  | [d1, d2] => { results := [.lit (.bool true)], args := [d1, d2] }
  | _ => none }
def pastLogsRow : OpenClaim := { program := "yticfpkodoghnnaagreat", sum := "29aa0487fc3612e3101962a890b579687da0463a8d744c645a4c6a0bab79036a", func := "folio/foliolaw14.PastLogs", spec := "pastLogs", inPlace := ["internal/bytealg.abigen_runtime_cmpstring", "internal/bytealg.IndexByteString", "internal/bytealg.IndexString"], unfollowed := true, recurses := true, named := ["internal/bytealg.MaxLen"], plainKeys := false, apart := false }
def PastLogsSaid : Prop := pastLogsRow.holds Tryz.pinned (OpenSpec.ofChange pastLogsSpec)

/-- ITS FALSE NEIGHBOUR: 'it returns false'. Refute it at one input. -/
def pastLogsWrong : ChangeSpec := { name := "pastLogs", fn := fun _ => fun
  | [d1, d2] => { results := [.lit (.bool false)], args := [d1, d2] }
  | _ => none }
def PastLogsWrongFalsely : Prop := pastLogsRow.holds Tryz.pinned (OpenSpec.ofChange pastLogsWrong)

/- THE SECOND FORM. 'bulk': how many values and letters a reading holds, each counted each time it is reached (what is shared counts as often as it is met; a slice's spare places count too). A statement '..UptoSaid' is the law's where the arguments, and the package variables that the reading takes, are together of bulk at most 1048576: NARROWER than '..Said'. Prove '..Said' where nothing that the law and all that it calls make is longer than what came in: it says more and counts as full. Else prove '..UptoSaid'. A law counts once. -/
mutual
def uptoBulk {H : Type} : DataW H → Nat
  | .lit (.string bytes) => bytes.length + 1
  | .lit _ => 1
  | .nil => 1
  | .ptr d => uptoBulk d + 1
  | .slice elems spare => uptoBulkAll elems + uptoBulkAll spare + 1
  | .agg parts => uptoBulkAll parts + 1
  | .iface _ d => uptoBulk d + 1
  | .map entries => uptoBulkEntries entries + 1
  | .held _ => 1
def uptoBulkAll {H : Type} : List (DataW H) → Nat
  | [] => 0
  | d :: r => uptoBulk d + uptoBulkAll r
def uptoBulkEntries {H : Type} : List (Lit × DataW H) → Nat
  | [] => 0
  | x :: r => uptoBulkEntry x + uptoBulkEntries r
def uptoBulkEntry {H : Type} : Lit × DataW H → Nat
  | (.string bytes, d) => bytes.length + uptoBulk d + 1
  | (_, d) => uptoBulk d + 1
 end
def uptoSmall : (H : Type) → List (DataW H) → Bool := fun _ ds => decide (uptoBulkAll ds ≤ 1048576)
def OpenSpec.upto (s : _root_.Go.ChangeSpec) : _root_.Go.OpenSpec := { _root_.Go.OpenSpec.ofChange s with cond := some uptoSmall }

/-- 'foliolaw14.PastAnswers', WHERE WHAT IT READS IS OF BULK AT MOST 1048576: true; the input reads as it did. -/
def pastAnswersUptoRow : OpenClaim := { program := "yticfpkodoghnnaagreat", sum := "29aa0487fc3612e3101962a890b579687da0463a8d744c645a4c6a0bab79036a", func := "folio/foliolaw14.PastAnswers", spec := "pastAnswers", inPlace := ["internal/bytealg.abigen_runtime_cmpstring", "internal/bytealg.IndexByteString", "internal/bytealg.IndexString"], unfollowed := true, recurses := true, named := ["internal/bytealg.MaxLen"], plainKeys := false, apart := false, narrowed := true }
def PastAnswersUptoSaid : Prop := pastAnswersUptoRow.holds Tryz.pinned (OpenSpec.upto pastAnswersSpec)

/-- 'foliolaw14.PastVacuum', WHERE WHAT IT READS IS OF BULK AT MOST 1048576: true; the input reads as it did. -/
def pastVacuumUptoRow : OpenClaim := { program := "yticfpkodoghnnaagreat", sum := "29aa0487fc3612e3101962a890b579687da0463a8d744c645a4c6a0bab79036a", func := "folio/foliolaw14.PastVacuum", spec := "pastVacuum", inPlace := ["internal/bytealg.abigen_runtime_cmpstring", "internal/bytealg.IndexByteString", "internal/bytealg.IndexString"], unfollowed := true, recurses := true, named := ["internal/bytealg.MaxLen"], plainKeys := false, apart := false, narrowed := true }
def PastVacuumUptoSaid : Prop := pastVacuumUptoRow.holds Tryz.pinned (OpenSpec.upto pastVacuumSpec)

/-- 'foliolaw14.PastStays', WHERE WHAT IT READS IS OF BULK AT MOST 1048576: true; the input reads as it did. -/
def pastStaysUptoRow : OpenClaim := { program := "yticfpkodoghnnaagreat", sum := "29aa0487fc3612e3101962a890b579687da0463a8d744c645a4c6a0bab79036a", func := "folio/foliolaw14.PastStays", spec := "pastStays", inPlace := ["internal/bytealg.abigen_runtime_cmpstring", "internal/bytealg.IndexByteString", "internal/bytealg.IndexString"], unfollowed := true, recurses := true, named := ["internal/bytealg.MaxLen"], plainKeys := false, apart := false, narrowed := true }
def PastStaysUptoSaid : Prop := pastStaysUptoRow.holds Tryz.pinned (OpenSpec.upto pastStaysSpec)

/-- 'foliolaw14.PastKeeps', WHERE WHAT IT READS IS OF BULK AT MOST 1048576: true; the input reads as it did. -/
def pastKeepsUptoRow : OpenClaim := { program := "yticfpkodoghnnaagreat", sum := "29aa0487fc3612e3101962a890b579687da0463a8d744c645a4c6a0bab79036a", func := "folio/foliolaw14.PastKeeps", spec := "pastKeeps", inPlace := ["internal/bytealg.abigen_runtime_cmpstring", "internal/bytealg.IndexByteString", "internal/bytealg.IndexString"], unfollowed := true, recurses := true, named := ["internal/bytealg.MaxLen"], plainKeys := false, apart := false, narrowed := true }
def PastKeepsUptoSaid : Prop := pastKeepsUptoRow.holds Tryz.pinned (OpenSpec.upto pastKeepsSpec)

/-- 'foliolaw14.PastLogs', WHERE WHAT IT READS IS OF BULK AT MOST 1048576: true; the input reads as it did. -/
def pastLogsUptoRow : OpenClaim := { program := "yticfpkodoghnnaagreat", sum := "29aa0487fc3612e3101962a890b579687da0463a8d744c645a4c6a0bab79036a", func := "folio/foliolaw14.PastLogs", spec := "pastLogs", inPlace := ["internal/bytealg.abigen_runtime_cmpstring", "internal/bytealg.IndexByteString", "internal/bytealg.IndexString"], unfollowed := true, recurses := true, named := ["internal/bytealg.MaxLen"], plainKeys := false, apart := false, narrowed := true }
def PastLogsUptoSaid : Prop := pastLogsUptoRow.holds Tryz.pinned (OpenSpec.upto pastLogsSpec)

end Rows
end Go.Proofs.YticfpkodoghnnaaGreat
