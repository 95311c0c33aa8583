/-
  The contracts of the reader's value, and of Decode.
-/
import Derived.Test.YtkiandchgbldbaaDec1
import Derived.Test.YtkiandchgbldbaaMay
namespace Go.Proofs.Ytkiandchgbldbaa
open Go.RowKit

def cellsX (d : List Fx) : List Value := d.flatMap encX
theorem cellsX_append (d e : List Fx) : cellsX (d ++ e) = cellsX d ++ cellsX e := List.flatMap_append
theorem cellsX_len (d : List Fx) : (cellsX d).length = d.length * 2 := by
  induction d with
  | nil => rfl
  | cons x d ih => simp [cellsX, encX] at ih ⊢; omega
theorem cellsX_get (d : List Fx) (i : Nat) (h : i < d.length) : (cellsX d)[i * 2]? = some (.string d[i].name) ∧ (cellsX d)[i * 2 + 1]? = some d[i].sl := by
  induction d generalizing i with
  | nil => simp at h
  | cons x d ih =>
    have e : cellsX (x :: d) = .string x.name :: x.sl :: cellsX d := rfl
    rw [e]
    cases i with
    | zero => simp
    | succ i =>
      have := ih i (by simpa using h)
      rw [show (i + 1) * 2 = i * 2 + 1 + 1 by omega]
      simpa using this

theorem OwnT.txtAt {n0 : Nat} {w : World} {p : Option Addr} {cap : Nat} {ts : List ByteArray} (h : OwnT n0 w (.slice p ts.length cap) ts) : TxtAt w p ts := by
  rcases h.2 with ⟨_, h0⟩ | ⟨g, c, cur, hv, _, hg, _, _, hsz, htk⟩
  · exact Or.inl (List.length_eq_zero_iff.1 h0)
  · right
    injection hv with hp
    refine ⟨g, 0, hp, fun i hi => ?_⟩
    rw [Nat.zero_add, cell_of_row w g i cur _ _ hg]
    have : (ts.map Value.string)[i]? = cur.toList[i]? := by
      rw [← htk, List.getElem?_take, if_pos (by omega)]
    rw [← Array.getElem?_toList, ← this]
    simp [hi]

theorem fieldsS_snoc (n : Nat) (s : Rst) : fieldsS (n + 1) s = ((fieldsS n s).1 ++ [(fieldS (fieldsS n s).2).1], (fieldS (fieldsS n s).2).2) := by
  induction n generalizing s with
  | zero => rfl
  | succ n ih =>
    rw [fieldsS, ih]
    simp [fieldsS]

theorem own_slice {n0 : Nat} {w : World} {sv : Value} {ts : List ByteArray} (h : OwnT n0 w sv ts) : ∃ p cap, sv = .slice p ts.length cap := by
  rcases h.2 with ⟨hv, h0⟩ | ⟨g, cap, cur, hv, _⟩
  · exact ⟨none, 0, by rw [hv, h0]⟩
  · exact ⟨_, _, hv⟩

theorem cellsX_one (d : List Fx) : ∀ u ∈ cellsX d, u.oneCell' = true := by
  intro u hu
  obtain ⟨x, _, hx⟩ := List.mem_flatMap.1 hu
  simp [encX] at hx
  rcases hx with rfl | rfl <;> rfl

def decodeO (l : List UInt8) : Option (List Fld) := if (valueS (l, false)).2.2 = true ∨ 0 < (valueS (l, false)).2.1.length ∨ mayB (valueS (l, false)).1 = false then none else some (valueS (l, false)).1

/-- What a reader gives, a machine can hold. -/
theorem takeS_small (n : Nat) (s : Rst) : (takeS n s).1.length ≤ n := by
  unfold takeS
  split
  · simp
  · simp; omega
theorem textS_small (s : Rst) : (textS s).1.size ≤ 255 := by
  have h1 := takeS_small (countS s).1 (countS s).2
  have h2 := countS_le s
  show (takeS (countS s).1 (countS s).2).1.toArray.size ≤ 255
  rw [List.size_toArray]; omega
theorem textsS_small (n : Nat) (s : Rst) : ∀ t ∈ (textsS n s).1, t.size ≤ 255 := by
  induction n generalizing s with
  | zero => intro t ht; simp [textsS] at ht
  | succ n ih =>
    intro t ht
    rw [textsS, List.mem_cons] at ht
    rcases ht with rfl | ht
    · exact textS_small s
    · exact ih _ t ht
theorem fieldS_small (s : Rst) : FitF (fieldS s).1 := by
  refine ⟨?_, ?_, fun t ht => ?_⟩
  · have := textS_small s; show (textS s).1.size ≤ maxLen; unfold maxLen; omega
  · show (textsS _ _).1.length ≤ maxLen
    rw [textsS_len]; have := countS_le (textS s).2; unfold maxLen; omega
  · have := textsS_small _ _ t ht; unfold maxLen; omega
theorem fieldsS_small (n : Nat) (s : Rst) : ∀ f ∈ (fieldsS n s).1, FitF f := by
  induction n generalizing s with
  | zero => intro t ht; simp [fieldsS] at ht
  | succ n ih =>
    intro t ht
    rw [fieldsS, List.mem_cons] at ht
    rcases ht with rfl | ht
    · exact fieldS_small s
    · exact ih _ t ht

theorem fitX_of {d : List Fx} {fs : List Fld} (h : d.map Fx.fld = fs) (hl : d.length ≤ maxLen) (hf : ∀ f ∈ fs, FitF f) : FitX d :=
  ⟨hl, fun x hx => hf _ (by rw [← h]; exact List.mem_map.2 ⟨x, hx, rfl⟩)⟩

end Go.Proofs.Ytkiandchgbldbaa
