/-
  Rows of keys in memory: their cells, and what a slice of keys holds.
-/
import Derived.Test.YtgpeaepmkincaaaSortz
import Derived.Laws.OwnMore
namespace Go.Proofs.Ytgpeaepmkincaaa
open Go.RowKit

def cellsL (d : List (ByteArray × ByteArray)) : List Value := d.flatMap encKey

theorem cellsL_cons (x : ByteArray × ByteArray) (d : List (ByteArray × ByteArray)) : cellsL (x :: d) = .string x.1 :: .string x.2 :: cellsL d := rfl
theorem cellsL_append (d e : List (ByteArray × ByteArray)) : cellsL (d ++ e) = cellsL d ++ cellsL e := List.flatMap_append
theorem cellsL_length (d : List (ByteArray × ByteArray)) : (cellsL d).length = d.length * 2 := by
  induction d with
  | nil => rfl
  | cons x d ih => rw [cellsL_cons]; simp [ih]; omega
theorem cellsL_one (d : List (ByteArray × ByteArray)) : ∀ u ∈ cellsL d, u.oneCell' = true := by
  intro u hu
  obtain ⟨x, _, hx⟩ := List.mem_flatMap.1 hu
  simp [encKey] at hx
  rcases hx with rfl | rfl <;> rfl
theorem cellsL_get (d : List (ByteArray × ByteArray)) (i : Nat) (h : i < d.length) : (cellsL d)[i * 2]? = some (.string d[i].1) ∧ (cellsL d)[i * 2 + 1]? = some (.string d[i].2) := by
  induction d generalizing i with
  | nil => simp at h
  | cons x d ih =>
    rw [cellsL_cons]
    cases i with
    | zero => simp
    | succ i =>
      have := ih i (by simpa using h)
      rw [show (i + 1) * 2 = i * 2 + 1 + 1 by omega]
      simpa using this
theorem cellsL_set (d : List (ByteArray × ByteArray)) (i : Nat) (a b : ByteArray) (h : i < d.length) : ((cellsL d).set (i * 2) (.string a)).set (i * 2 + 1) (.string b) = cellsL (d.set i (a, b)) := by
  induction d generalizing i with
  | nil => simp at h
  | cons x d ih =>
    rw [cellsL_cons]
    cases i with
    | zero => simp [cellsL_cons]
    | succ i =>
      rw [show (i + 1) * 2 = i * 2 + 1 + 1 by omega]
      simp only [List.set_cons_succ, cellsL_cons]
      rw [ih i (by simpa using h)]
theorem cellsL_take (d : List (ByteArray × ByteArray)) (k : Nat) : (cellsL d).take (k * 2) = cellsL (d.take k) := by
  induction d generalizing k with
  | nil => simp [cellsL]
  | cons x d ih =>
    cases k with
    | zero => simp [cellsL]
    | succ k => rw [show (k + 1) * 2 = k * 2 + 1 + 1 by omega, cellsL_cons]; simp [ih, cellsL_cons]

/-- The keys d lie from off on in block b. -/
def KeysAt (w : World) (b off : Nat) (d : List (ByteArray × ByteArray)) : Prop :=
  ∀ i, (h : i < d.length) → w.cell? ⟨b, off + i * 2, none⟩ = some (.string d[i].1) ∧ w.cell? ⟨b, off + i * 2 + 1, none⟩ = some (.string d[i].2)

/-- v is a slice that holds the keys d. -/
def IsKeys (w : World) (v : Value) (d : List (ByteArray × ByteArray)) : Prop :=
  ∃ p cap, v = .slice p d.length cap ∧ (d = [] ∨ ∃ b off, p = some ⟨b, off, none⟩ ∧ KeysAt w b off d)

theorem KeysAt.kept {W w' : World} {b off : Nat} {d : List (ByteArray × ByteArray)} (h : KeysAt W b off d) (hq : Below W.heap.size W w') : KeysAt w' b off d := by
  intro i hi
  have hc := bcell hq
  obtain ⟨h1, h2⟩ := h i hi
  have lt : b < W.heap.size := by
    rcases Nat.lt_or_ge b W.heap.size with h' | h'
    · exact h'
    · simp [World.cell?, Array.getElem?_eq_none h'] at h1
  exact ⟨by rw [hc.1 _ _ lt]; exact h1, by rw [hc.1 _ _ lt]; exact h2⟩
theorem IsKeys.kept {W w' : World} {v : Value} {d : List (ByteArray × ByteArray)} (h : IsKeys W v d) (hq : Below W.heap.size W w') : IsKeys w' v d := by
  obtain ⟨p, cap, rfl, h | ⟨b, off, rfl, h⟩⟩ := h
  · exact ⟨p, cap, rfl, .inl h⟩
  · exact ⟨_, cap, rfl, .inr ⟨b, off, rfl, h.kept hq⟩⟩

/-- v is a slice of the call's own that holds the keys d. -/
def Own (w : World) (base : Nat) (v : Value) (d : List (ByteArray × ByteArray)) : Prop := w.ownsRow base 26 2 v d.length (cellsL d)

theorem Own.keysAt {w : World} {base g n cap : Nat} {d : List (ByteArray × ByteArray)} (h : Own w base (.slice (some ⟨g, 0, none⟩) n cap) d) : n = d.length ∧ KeysAt w g 0 d := by
  have hn : n = d.length := by
    rcases h.2 with ⟨h', _⟩ | ⟨_, _, _, h', _⟩
    · simp at h'
    · simp only [Value.slice.injEq] at h'; exact h'.2.1
  subst hn
  refine ⟨rfl, fun i hi => ?_⟩
  have e := cellsL_get d i hi
  rw [Nat.zero_add, World.ownsRow.cellAt h (i * 2) (by omega), World.ownsRow.cellAt h (i * 2 + 1) (by omega)]
  exact e
theorem Own.is {w : World} {base : Nat} {v : Value} {d : List (ByteArray × ByteArray)} (h : Own w base v d) : IsKeys w v d := by
  rcases h.2 with ⟨rfl, h0⟩ | ⟨g, cap, cur, rfl, _⟩
  · exact ⟨none, 0, by rw [h0], .inl (List.eq_nil_of_length_eq_zero h0)⟩
  · exact ⟨_, cap, rfl, .inr ⟨g, 0, rfl, h.keysAt.2⟩⟩

end Go.Proofs.Ytgpeaepmkincaaa
