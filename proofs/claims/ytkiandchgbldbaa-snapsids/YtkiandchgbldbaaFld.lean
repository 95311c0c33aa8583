/-
  Fields: the plain words, how they lie in memory, and the contracts of the functions that look at one field.
-/
import Derived.Test.YtkiandchgbldbaaTac
import Derived.Test.YtkiandchgbldbaaSpell
import Derived.Test.YtkiandchgbldbaaShelf
namespace Go.Proofs.Ytkiandchgbldbaa
open Go.RowKit

/-- A field: its name, and its texts. -/
abbrev Fld := ByteArray × List ByteArray

/-- A field as it lies: its name, its texts' address and capacity; and, beside it, what its texts are. -/
structure Fx where
  name : ByteArray
  p : Option Addr
  cap : Nat
  txt : List ByteArray
  deriving Inhabited

def Fx.sl (x : Fx) : Value := .slice x.p x.txt.length x.cap
def Fx.fld (x : Fx) : Fld := (x.name, x.txt)
def encX (x : Fx) : List Value := [.string x.name, x.sl]
def Fx.val (x : Fx) : Value := .agg (encX x).toArray

/-- The texts of x lie where its slice says. -/
def TxtAt (w : World) (p : Option Addr) (ts : List ByteArray) : Prop :=
  ts = [] ∨ ∃ b off, p = some ⟨b, off, none⟩ ∧ ∀ i, (h : i < ts.length) → w.cell? ⟨b, off + i, none⟩ = some (.string ts[i])

def Fx.at (w : World) (x : Fx) : Prop := TxtAt w x.p x.txt

/-- The fields d lie from off on in block b. -/
def XsAt (w : World) (b off : Nat) (d : List Fx) : Prop :=
  ∀ i, (h : i < d.length) → w.cell? ⟨b, off + i * 2, none⟩ = some (.string d[i].name) ∧ w.cell? ⟨b, off + i * 2 + 1, none⟩ = some d[i].sl

/-- v is a slice that holds the fields d. -/
def IsXs (w : World) (v : Value) (d : List Fx) : Prop :=
  ∃ p cap, v = .slice p d.length cap ∧ (d = [] ∨ ∃ b off, p = some ⟨b, off, none⟩ ∧ XsAt w b off d) ∧ ∀ x ∈ d, x.at w

/-- Texts, and fields, that a machine can hold. -/
def FitT (ts : List ByteArray) : Prop := ts.length ≤ maxLen ∧ ∀ t ∈ ts, t.size ≤ maxLen
def FitF (f : Fld) : Prop := f.1.size ≤ maxLen ∧ FitT f.2
def FitX (d : List Fx) : Prop := d.length ≤ maxLen ∧ ∀ x ∈ d, FitF x.fld

theorem cell_block {w : World} {a : Addr} {v : Value} (h : w.cell? a = some v) : a.block < w.heap.size := by
  rcases Nat.lt_or_ge a.block w.heap.size with h' | h'
  · exact h'
  · simp [World.cell?, Array.getElem?_eq_none h'] at h

theorem TxtAt.kept {w w' : World} {p : Option Addr} {ts : List ByteArray} (h : TxtAt w p ts) (hb : Below w.heap.size w w') : TxtAt w' p ts := by
  rcases h with h | ⟨b, off, hp, h⟩
  · exact Or.inl h
  · exact Or.inr ⟨b, off, hp, fun i hi => (hb.cell (p := ⟨b, off + i, none⟩) (cell_block (h i hi))).trans (h i hi)⟩

theorem XsAt.kept {w w' : World} {b off : Nat} {d : List Fx} (h : XsAt w b off d) (hb : Below w.heap.size w w') : XsAt w' b off d :=
  fun i hi => ⟨(hb.cell (p := ⟨b, off + i * 2, none⟩) (cell_block (h i hi).1)).trans (h i hi).1, (hb.cell (p := ⟨b, off + i * 2 + 1, none⟩) (cell_block (h i hi).2)).trans (h i hi).2⟩

theorem IsXs.at_all {w : World} {v : Value} {d : List Fx} (h : IsXs w v d) : ∀ x ∈ d, x.at w := by
  obtain ⟨_, _, _, _, h⟩ := h
  exact h

theorem IsXs.kept {w w' : World} {v : Value} {d : List Fx} (h : IsXs w v d) (hb : Below w.heap.size w w') : IsXs w' v d := by
  obtain ⟨p, cap, rfl, h, ht⟩ := h
  refine ⟨p, cap, rfl, ?_, fun x hx => (ht x hx).kept hb⟩
  rcases h with h | ⟨b, off, hp, h⟩
  · exact Or.inl h
  · exact Or.inr ⟨b, off, hp, h.kept hb⟩

/-- A field that a normal value may have. -/
def longB (t : ByteArray) : Bool := decide (128 < t.size)
def fitsB (f : Fld) : Bool := fieldB f.1.data.toList && !f.2.isEmpty && decide (f.2.length ≤ 8) && !f.2.any longB

end Go.Proofs.Ytkiandchgbldbaa
