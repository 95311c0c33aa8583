/-
  The kit's tactics that the walks of package value take, in one place.
-/
import Derived.Test.YtkiandchgbldbaaLeaf
import Derived.Laws.Rows
import Derived.Deep.LoopGhost
import Derived.Deep.QuietTactic
import Derived.Deep.DrawnRows
import Derived.Deep.RegionHeld3
import Derived.Deep.AppendLies
import Derived.BigQuiet
import Derived.BigRegion
import Derived.LoopN
import Derived.OwnWalk
import Derived.Laws.OwnMore
import Derived.Laws.MakeOwn
import Derived.Shelf.SlSortCmp.QuietGrown
namespace Go.Proofs.Ytkiandchgbldbaa
open Go.RowKit

theorem bel_drewN {B : Nat} {a w : World} (h : Below B a w) (n : Nat) : Below B a (w.drewN n) := ⟨h.os, h.tape, h.output, h.size, h.block⟩

theorem bel_then {B : Nat} {a b c : World} (h : Below B a b) (hB : B ≤ b.heap.size) (k : Below b.heap.size b c) : Below B a c := h.trans (k.mono hB)

theorem Try.mixed : Try.prog.follows .mixedOrders = true := by kernel_rfl

/-- The world has drawn, and new blocks lie behind it; nothing else has turned. -/
def Grown (w w' : World) : Prop := ∃ q os, w' = Sort.grow (w.drewN q) os

theorem Grown.refl (w : World) : Grown w w := ⟨0, #[], by rw [Sort.grow_empty]; rfl⟩
theorem Grown.draws (w : World) (n : Nat) : Grown w (w.drewN n) := ⟨n, #[], by rw [Sort.grow_empty]⟩
theorem Grown.trans {a b c : World} (h : Grown a b) (k : Grown b c) : Grown a c := by
  obtain ⟨q, os, rfl⟩ := h
  obtain ⟨q', os', rfl⟩ := k
  exact ⟨q + q', os ++ os', by show Sort.grow (Sort.grow ((a.drewN q).drewN q') os) os' = _; rw [Sort.grow_grow, World.drewN_drewN]⟩
theorem Grown.alloc {a w : World} (h : Grown a w) (o : Obj) : Grown a (w.alloc o) := h.trans ⟨0, #[o], by rw [Sort.alloc_eq_grow]; rfl⟩
theorem Grown.drewN {a w : World} (h : Grown a w) (n : Nat) : Grown a (w.drewN n) := h.trans (Grown.draws w n)
theorem Grown.on {a w : World} {q : Nat} {os : Array Obj} (h : Grown a w) : Grown a (Sort.grow (w.drewN q) os) := h.trans ⟨q, os, rfl⟩
theorem Grown.below {w w' : World} (h : Grown w w') : Below w.heap.size w w' := by
  obtain ⟨q, os, rfl⟩ := h
  refine ⟨rfl, rfl, rfl, by simp [Sort.grow, World.drewN], fun k hk => ?_⟩
  show (w.heap ++ os)[k]? = w.heap[k]?
  rw [Array.getElem?_append_left hk]

theorem drewN_heap (w : World) (n : Nat) : (w.drewN n).heap = w.heap := rfl

end Go.Proofs.Ytkiandchgbldbaa
