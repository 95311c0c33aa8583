/-
  The contract of May.
-/
import Derived.Test.YtkiandchgbldbaaMay0
namespace Go.Proofs.Ytkiandchgbldbaa
open Go.RowKit

def ltN (a b : ByteArray) : Bool := Op.bytesLess a.toList b.toList
def stepOk (fs : List Fld) (i : Nat) : Bool := fitsB (fs.getD i default) && (decide (i = 0) || ltN (fs.getD (i - 1) default).1 (fs.getD i default).1)
def mayB (fs : List Fld) : Bool := decide (fs.length ≤ 16) && (List.range fs.length).all (stepOk fs)

theorem flds_at {d : List Fx} {i : Nat} (h : i < d.length) : (d.map Fx.fld).getD i default = d[i].fld := by
  rw [List.getD_eq_getElem?_getD, List.getElem?_map, List.getElem?_eq_getElem h]; rfl

theorem may_long {fs : List Fld} (h : 16 < fs.length) : mayB fs = false := by
  unfold mayB; rw [decide_eq_false (by omega)]; rfl
theorem may_no {fs : List Fld} {i : Nat} (h : i < fs.length) (hs : stepOk fs i = false) : mayB fs = false := by
  unfold mayB
  have : (List.range fs.length).all (stepOk fs) = false := by
    rw [Bool.eq_false_iff]
    intro ha
    rw [List.all_eq_true] at ha
    have := ha i (List.mem_range.2 h)
    rw [hs] at this; cases this
  rw [this]; simp
theorem may_yes {fs : List Fld} (h : fs.length ≤ 16) (hs : ∀ i, i < fs.length → stepOk fs i = true) : mayB fs = true := by
  unfold mayB
  have : (List.range fs.length).all (stepOk fs) = true := by
    rw [List.all_eq_true]
    exact fun i hi => hs i (List.mem_range.1 hi)
  rw [this, decide_eq_true h]; rfl

end Go.Proofs.Ytkiandchgbldbaa
