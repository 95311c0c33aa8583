/-
  Frames: which blocks have turned; and what of the rest stays.
-/
import Derived.Test.YtkiandchgbldbaaGen
namespace Go.Proofs.Ytkiandchgbldbaa
open Go.RowKit

theorem own_same {w w' : World} {n0 : Nat} {e : TypeId} {size : Nat} {v : Value} {n : Nat} {xs : List Value} (h : w.ownsRow n0 e size v n xs) (hk : ∀ k, v.ownBlock = some k → w'.heap[k]? = w.heap[k]?) : w'.ownsRow n0 e size v n xs := by
  refine ⟨h.1, ?_⟩
  rcases h.2 with h2 | ⟨g, cap, cur, hv, h3, h4, h5⟩
  · exact Or.inl h2
  · exact Or.inr ⟨g, cap, cur, hv, h3, (hk g (by rw [hv]; rfl)).trans h4, h5⟩

/-- Only blocks of P, and new ones, have turned. -/
structure Fr (P : Nat → Prop) (w W : World) : Prop where
  os : W.os = w.os
  tape : W.tape = w.tape
  output : W.output = w.output
  size : w.heap.size ≤ W.heap.size
  block : ∀ k, k < w.heap.size → ¬ P k → W.heap[k]? = w.heap[k]?

theorem Fr.refl (P : Nat → Prop) (w : World) : Fr P w w := ⟨rfl, rfl, rfl, Nat.le_refl _, fun _ _ _ => rfl⟩
theorem Fr.draws {P : Nat → Prop} {w W : World} (h : Fr P w W) (n : Nat) : Fr P w (W.drewN n) := ⟨h.os, h.tape, h.output, h.size, h.block⟩

theorem Fr.then {P Q : Nat → Prop} {a b c : World} (h : Fr P a b) (k : Fr Q b c) (hQ : ∀ k, Q k → P k ∨ a.heap.size ≤ k) : Fr P a c :=
  ⟨k.os.trans h.os, k.tape.trans h.tape, k.output.trans h.output, Nat.le_trans h.size k.size, fun j hj hn => (k.block j (Nat.lt_of_lt_of_le hj h.size) fun hq => by
    rcases hQ j hq with h1 | h1
    · exact hn h1
    · omega).trans (h.block j hj hn)⟩

theorem Fr.mono {P Q : Nat → Prop} {w W : World} (h : Fr P w W) (hPQ : ∀ k, P k → Q k) : Fr Q w W := ⟨h.os, h.tape, h.output, h.size, fun k hk hn => h.block k hk fun hp => hn (hPQ k hp)⟩
theorem Fr.of_below {P : Nat → Prop} {w W : World} (h : Below w.heap.size w W) : Fr P w W := ⟨h.os, h.tape, h.output, h.size, fun k hk _ => h.block k hk⟩
theorem Fr.of_grown {P : Nat → Prop} {w W : World} {ob : Option Nat} (h : w.grownBy W ob) (hP : ∀ k, ob = some k → P k) : Fr P w W :=
  ⟨h.os, h.tape, h.output, h.size, fun k hk hn => h.block k hk fun e => hn (hP k e.symm)⟩
theorem Fr.below {P : Nat → Prop} {w W : World} (h : Fr P w W) {N : Nat} (hN : N ≤ w.heap.size) (hP : ∀ k, P k → N ≤ k) : Below N w W :=
  ⟨h.os, h.tape, h.output, h.size, fun k hk => h.block k (by omega) fun hp => by have := hP k hp; omega⟩

theorem Fr.row {P : Nat → Prop} {w W : World} {n0 : Nat} {e : TypeId} {size : Nat} {v : Value} {n : Nat} {xs : List Value} (f : Fr P w W) (h : w.ownsRow n0 e size v n xs) (hP : ∀ k, v.ownBlock = some k → ¬ P k) : W.ownsRow n0 e size v n xs :=
  own_same h fun k hk => f.block k (World.ownsRow.lt h k hk).2 (hP k hk)

theorem Fr.cell {P : Nat → Prop} {w W : World} {a : Addr} {v : Value} (f : Fr P w W) (h : w.cell? a = some v) (hP : ¬ P a.block) : W.cell? a = some v :=
  (World.cell?_of_block (f.block a.block (cell_block h) hP)).trans h

end Go.Proofs.Ytkiandchgbldbaa
