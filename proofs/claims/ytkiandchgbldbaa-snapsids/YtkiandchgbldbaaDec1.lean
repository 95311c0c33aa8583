/-
  The contract of the reader's field.
-/
import Derived.Test.YtkiandchgbldbaaDec0
namespace Go.Proofs.Ytkiandchgbldbaa
open Go.RowKit

theorem Try.infoStr : (Try.prog.info? 9).map (fun i => (i.zero, i.size, i.bytes)) = some (some (.string ⟨#[]⟩), 1, 16) := by kernel_rfl

/-- v owns the texts ts, in a row at or behind n0. -/
def OwnT (n0 : Nat) (w : World) (v : Value) (ts : List ByteArray) : Prop := w.ownsRow n0 9 1 v ts.length (ts.map Value.string)

theorem own_weak {w : World} {base base' : Nat} {e : TypeId} {size : Nat} {v : Value} {n : Nat} {xs : List Value} (h : w.ownsRow base e size v n xs) (hb : base' ≤ base) : w.ownsRow base' e size v n xs := by
  refine ⟨h.1, ?_⟩
  rcases h.2 with h2 | ⟨g, cap, cur, h3, h4, h5⟩
  · exact .inl h2
  · exact .inr ⟨g, cap, cur, h3, by omega, h5⟩

theorem OwnT.on {n0 : Nat} {w w' : World} {v : Value} {ts : List ByteArray} (h : OwnT n0 w v ts) (hb : Below w.heap.size w w') : OwnT n0 w' v ts := own_on h hb

theorem OwnT.grown {n0 : Nat} {w w' : World} {v : Value} {ts : List ByteArray} {R : Nat} (h : OwnT n0 w v ts) (hg : w.grownBy w' (some R)) (hR : R < n0) : OwnT n0 w' v ts := by
  refine World.ownsRow.kept h hg ?_
  rcases hv : v.ownBlock with _ | k
  · exact Or.inl rfl
  · right
    intro e
    have := (World.ownsRow.lt h k hv).1
    simp at e; omega

theorem countS_le (s : Rst) : (countS s).1 ≤ 255 := by
  unfold countS
  split
  · rename_i c _ _ _; have := c.toNat_lt; simp; omega
  · simp

theorem textsS_snoc (n : Nat) (s : Rst) : textsS (n + 1) s = ((textsS n s).1 ++ [(textS (textsS n s).2).1], (textS (textsS n s).2).2) := by
  induction n generalizing s with
  | zero => rfl
  | succ n ih =>
    rw [textsS, ih]
    simp [textsS]

theorem textsS_len (n : Nat) (s : Rst) : (textsS n s).1.length = n := by
  induction n generalizing s with
  | zero => rfl
  | succ n ih => rw [textsS]; simp [ih]

end Go.Proofs.Ytkiandchgbldbaa
