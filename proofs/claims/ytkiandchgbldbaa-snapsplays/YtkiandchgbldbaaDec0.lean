/-
  The reader of bytes: its state, and the contracts of take, count and text.
-/
import Derived.Test.YtkiandchgbldbaaFld
import Derived.Test.YtkiandchgbldbaaBld
namespace Go.Proofs.Ytkiandchgbldbaa
open Go.RowKit

/-- A reader's state: what is left, and whether it came short. -/
abbrev Rst := List UInt8 × Bool
def takeS (n : Nat) (s : Rst) : List UInt8 × Rst := if s.1.length < n then ([], (s.1, true)) else (s.1.take n, (s.1.drop n, s.2))
def countS (s : Rst) : Nat × Rst := match takeS 1 s with
  | (c :: _, s') => (c.toNat, s')
  | ([], s') => (0, s')
def textS (s : Rst) : ByteArray × Rst := (⟨(takeS (countS s).1 (countS s).2).1.toArray⟩, (takeS (countS s).1 (countS s).2).2)
def textsS : Nat → Rst → List ByteArray × Rst
  | 0, s => ([], s)
  | n + 1, s => ((textS s).1 :: (textsS n (textS s).2).1, (textsS n (textS s).2).2)
def fieldS (s : Rst) : Fld × Rst := (((textS s).1, (textsS (countS (textS s).2).1 (countS (textS s).2).2).1), (textsS (countS (textS s).2).1 (countS (textS s).2).2).2)
def fieldsS : Nat → Rst → List Fld × Rst
  | 0, s => ([], s)
  | n + 1, s => ((fieldS s).1 :: (fieldsS n (fieldS s).2).1, (fieldsS n (fieldS s).2).2)
def valueS (s : Rst) : List Fld × Rst := fieldsS (countS s).1 (countS s).2

/-- v is a slice of the bytes l, in a block below R. -/
def RestAt (R : Nat) (w : World) (v : Value) (l : List UInt8) : Prop :=
  ∃ p cap, v = .slice p l.length cap ∧ l.length ≤ cap ∧ cap ≤ maxLen ∧ (l = [] ∨ ∃ b off, p = some ⟨b, off, none⟩ ∧ b < R ∧ ∀ i, (h : i < l.length) → w.cell? ⟨b, off + i, none⟩ = some (.int .u8 l[i].toNat))

theorem RestAt.kept {R : Nat} {w w' : World} {v : Value} {l : List UInt8} (h : RestAt R w v l) (hg : w.grownBy w' (some R)) : RestAt R w' v l := by
  obtain ⟨p, cap, rfl, h1, h2, h⟩ := h
  refine ⟨p, cap, rfl, h1, h2, ?_⟩
  rcases h with h | ⟨b, off, hp, hb, h⟩
  · exact Or.inl h
  · exact Or.inr ⟨b, off, hp, hb, fun i hi => (hg.cell_far ⟨b, off + i, none⟩ (cell_block (h i hi)) (by simp; omega)).trans (h i hi)⟩

theorem addr_add (b off i : Nat) : (⟨b, off, none⟩ : Addr).add i = ⟨b, off + i, none⟩ := by
  unfold Addr.add
  split
  · rename_i h; simp_all
  · rfl

theorem restAt_take {R : Nat} {w : World} {p : Option Addr} {cap : Nat} {l : List UInt8} (h : RestAt R w (.slice p l.length cap) l) (n : Nat) (hn : n ≤ l.length) :
    RestAt R w (.slice p n cap) (l.take n) := by
  obtain ⟨p', cap', e, h1, h2, h⟩ := h
  cases e
  refine ⟨p, cap, by rw [List.length_take, Nat.min_eq_left hn], by rw [List.length_take]; omega, h2, ?_⟩
  rcases h with h | ⟨b, off, hp, hb, h⟩
  · left; rw [h]; simp
  · by_cases h0 : n = 0
    · left; rw [h0]; simp
    · right
      refine ⟨b, off, hp, hb, fun i hi => ?_⟩
      · rw [List.length_take] at hi
        rw [h i (by omega), List.getElem_take]

theorem restAt_drop {R : Nat} {w : World} {p : Option Addr} {cap : Nat} {l : List UInt8} (h : RestAt R w (.slice p l.length cap) l) (n : Nat) (hn : n ≤ l.length) (q : Option Addr) (hq : q = if cap = n then p else p.map (·.add n)) :
    RestAt R w (.slice q (l.length - n) (cap - n)) (l.drop n) := by
  obtain ⟨p', cap', e, h1, h2, h⟩ := h
  cases e
  refine ⟨q, cap - n, by rw [List.length_drop], by rw [List.length_drop]; omega, by omega, ?_⟩
  rcases h with h | ⟨b, off, hp, hb, h⟩
  · left; rw [h]; simp
  · by_cases h0 : n = l.length
    · left; rw [h0]; simp
    · right
      refine ⟨b, off + n, ?_, hb, fun i hi => ?_⟩
      · rw [hq, if_neg (by omega), hp, Option.map_some, addr_add]
      · rw [List.length_drop] at hi
        rw [Nat.add_assoc, h (n + i) (by omega), List.getElem_drop]

theorem restAt_cons {R : Nat} {w : World} {u : Value} {c : UInt8} {r : List UInt8} (h : RestAt R w u (c :: r)) :
    ∃ b off cap, u = .slice (some ⟨b, off, none⟩) (r.length + 1) cap ∧ w.cell? ⟨b, off, none⟩ = some (.int .u8 c.toNat) := by
  obtain ⟨p, cap, rfl, _, _, h⟩ := h
  rcases h with h | ⟨b, off, rfl, _, h⟩
  · cases h
  · exact ⟨b, off, cap, rfl, h 0 (by simp)⟩

theorem grown_set (w : World) (R i : Nat) (v : Value) : w.grownBy (w.setCell ⟨R, i, none⟩ v) (some R) :=
  ⟨rfl, rfl, rfl, by simp [World.setCell], fun k _ hne => Below.heap_setCell w _ _ k (fun e => hne (by rw [e]))⟩

theorem grown_trans {a b c : World} {R : Nat} (h : a.grownBy b (some R)) (k : b.grownBy c (some R)) : a.grownBy c (some R) :=
  ⟨k.os.trans h.os, k.tape.trans h.tape, k.output.trans h.output, Nat.le_trans h.size k.size, fun i hi hn => (k.block i (Nat.lt_of_lt_of_le hi h.size) hn).trans (h.block i hi hn)⟩

theorem rd_set0 {w : World} {R : Nat} {v v' u : Value} {T : TypeId} (h : w.heap[R]? = some (.cells #[v, u] T (0, 0))) : (w.setCell ⟨R, 0, none⟩ v').heap[R]? = some (.cells #[v', u] T (0, 0)) := heap_setCell_same w R 0 _ T v' h
theorem rd_set1 {w : World} {R : Nat} {v u u' : Value} {T : TypeId} (h : w.heap[R]? = some (.cells #[v, u] T (0, 0))) : (w.setCell ⟨R, 1, none⟩ u').heap[R]? = some (.cells #[v, u'] T (0, 0)) := heap_setCell_same w R 1 _ T u' h

theorem conv_any {R : Nat} {w : World} {u : Value} {l : List UInt8} (h : RestAt R w u l) : (convert 49 9 u).run Try.prog w = .ok (.string ⟨l.toArray⟩) w := by
  obtain ⟨p, cap, rfl, _, _, h⟩ := h
  rcases h with rfl | ⟨b, off, rfl, _, h⟩
  · rw [run_convert_bytes_string w _ _ _ p _ cap Try.underlying49 Try.underlying5 Try.underlying9]
    cases p <;> simp [Conv.bytesToString, loadCells, loadCellsFrom, go_sem] <;> rfl
  · exact run_convert_bytes_back w _ _ _ ⟨b, off, none⟩ cap l Try.underlying49 Try.underlying5 Try.underlying9 (fun j hj => by rw [addr_add]; exact h j hj)

end Go.Proofs.Ytkiandchgbldbaa
