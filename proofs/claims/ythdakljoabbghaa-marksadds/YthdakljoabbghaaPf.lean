/-
  Texts of this claim, one behind the other: Two Mtw Mlu Mla Mfd Mfw Ma1.
-/
import Derived.Test.YthdakljoabbghaaPd
import Derived.Test.YthdakljoabbghaaPa
import Derived.Test.YthdakljoabbghaaPc
import Derived.Test.YthdakljoabbghaaRows
import Derived.Test.YthdakljoabbghaaPe
/-
  'x, y := f(..), g(..)' where x and y are variables of struct types: two calls, two variables made meanwhile, two stores. No program.
-/
namespace Go.Proofs.Ythdakljoabbghaa
open Go.RowKit

/-- The blocks of the variables that have been made. -/
def TwoP (fl : List Bool) (B1 B2 : Nat) (b : Nat) : Prop := (fl[0]? = some true ∧ b = B1) ∨ (fl[1]? = some true ∧ b = B2)

section
variable {α β : Type}
/-- k of the calls and stores have been done, fl of the variables made. -/
structure TwoAt (V : World) (ea : α → Array Value) (Ta : TypeId) (za : Array Value) (eb : β → Array Value) (Tb : TypeId) (zb : Array Value) (G1 : World → α → Prop) (G2 : World → β → Prop) (BA : α → Nat → Prop) (BB : β → Nat → Prop)
    (k : Nat) (fl : List Bool) (v1 v2 u1 u2 : Value) (w : World) (B1 B2 : Nat) (x : α) (y : β) : Prop where
  bel : Below V.heap.size V w
  s1 : 3 ≤ k → fl[0]? = some true
  s2 : 4 ≤ k → fl[1]? = some true
  b1 : fl[0]? = some true → u1 = .pointer (some ⟨B1, 0, none⟩) ∧ V.heap.size ≤ B1 ∧ w.heap[B1]? = some (.cells (if 3 ≤ k then ea x else za) Ta (0, 0))
  b2 : fl[1]? = some true → u2 = .pointer (some ⟨B2, 0, none⟩) ∧ V.heap.size ≤ B2 ∧ w.heap[B2]? = some (.cells (if 4 ≤ k then eb y else zb) Tb (0, 0))
  ne : fl[0]? = some true → fl[1]? = some true → B1 ≠ B2
  g1 : 1 ≤ k → v1 = .agg (ea x) ∧ ∀ w', Fr (TwoP fl B1 B2) w w' → G1 w' x
  g2 : 2 ≤ k → v2 = .agg (eb y) ∧ ∀ w', Fr (TwoP fl B1 B2) w w' → G2 w' y
  l1 : 1 ≤ k → ∀ b, BA x b → V.heap.size ≤ b ∧ b < w.heap.size
  l2 : 2 ≤ k → ∀ b, BB y b → V.heap.size ≤ b ∧ b < w.heap.size
  ap : 2 ≤ k → ∀ b, BA x b → ¬ BB y b
def TwoSt (V : World) (ea : α → Array Value) (Ta : TypeId) (za : Array Value) (eb : β → Array Value) (Tb : TypeId) (zb : Array Value) (G1 : World → α → Prop) (G2 : World → β → Prop) (BA : α → Nat → Prop) (BB : β → Nat → Prop)
    (k : Nat) (fl : List Bool) (v1 v2 u1 u2 : Value) (w : World) : Prop := ∃ (B1 B2 : Nat) (x : α) (y : β), TwoAt V ea Ta za eb Tb zb G1 G2 BA BB k fl v1 v2 u1 u2 w B1 B2 x y

variable {V : World} {ea : α → Array Value} {Ta : TypeId} {za : Array Value} {eb : β → Array Value} {Tb : TypeId} {zb : Array Value} {G1 : World → α → Prop} {G2 : World → β → Prop} {BA : α → Nat → Prop} {BB : β → Nat → Prop} {k : Nat} {fl : List Bool} {v1 v2 u1 u2 : Value} {w : World}

theorem TwoSt.bel (h : TwoSt V ea Ta za eb Tb zb G1 G2 BA BB k fl v1 v2 u1 u2 w) : Below V.heap.size V w := by
  obtain ⟨_, _, _, _, h⟩ := h
  exact h.bel
theorem two_start [Inhabited α] [Inhabited β] (v1 v2 u1 u2 : Value) (h : Below V.heap.size V w) : TwoSt V ea Ta za eb Tb zb G1 G2 BA BB 0 [false, false] v1 v2 u1 u2 w :=
  ⟨0, 0, default, default, h, (fun h => by omega), (fun h => by omega), (fun h => by cases h), (fun h => by cases h), (fun h => by cases h), (fun h => by omega), (fun h => by omega), (fun h => by omega), (fun h => by omega), (fun h => by omega)⟩

theorem two_call1 {w2 : World} {x' : α} (h : TwoSt V ea Ta za eb Tb zb G1 G2 BA BB 0 fl v1 v2 u1 u2 w) (hb : Below w.heap.size w w2) (hG : ∀ P w', (∀ b, P b → V.heap.size ≤ b ∧ b < w.heap.size) → Fr P w2 w' → G1 w' x') (hB : ∀ b, BA x' b → w.heap.size ≤ b ∧ b < w2.heap.size) : TwoSt V ea Ta za eb Tb zb G1 G2 BA BB 1 fl (.agg (ea x')) v2 u1 u2 w2 := by
  obtain ⟨B1, B2, x, y, h⟩ := h
  have hl1 : fl[0]? = some true → B1 < w.heap.size := fun e => (Array.getElem?_eq_some_iff.1 (h.b1 e).2.2).1
  have hl2 : fl[1]? = some true → B2 < w.heap.size := fun e => (Array.getElem?_eq_some_iff.1 (h.b2 e).2.2).1
  refine ⟨B1, B2, x', y, bel_then h.bel h.bel.size hb, (fun h => by omega), (fun h => by omega), (fun e => ?_), (fun e => ?_), h.ne, (fun _ => ⟨rfl, fun w' f => hG _ w' (fun b hb => ?_) f⟩), (fun h => by omega), (fun _ b hb => ⟨Nat.le_trans h.bel.size (hB b hb).1, (hB b hb).2⟩), (fun h => by omega), (fun h => by omega)⟩
  · obtain ⟨q1, q2, q3⟩ := h.b1 e
    exact ⟨q1, q2, (hb.block B1 (hl1 e)).trans q3⟩
  · obtain ⟨q1, q2, q3⟩ := h.b2 e
    exact ⟨q1, q2, (hb.block B2 (hl2 e)).trans q3⟩
  · rcases hb with ⟨e, rfl⟩ | ⟨e, rfl⟩
    · exact ⟨(h.b1 e).2.1, hl1 e⟩
    · exact ⟨(h.b2 e).2.1, hl2 e⟩
theorem two_call2 {w2 : World} {y' : β} (h : TwoSt V ea Ta za eb Tb zb G1 G2 BA BB 1 fl v1 v2 u1 u2 w) (hb : Below w.heap.size w w2) (hG : ∀ P w', (∀ b, P b → V.heap.size ≤ b ∧ b < w.heap.size) → Fr P w2 w' → G2 w' y') (hB : ∀ b, BB y' b → w.heap.size ≤ b ∧ b < w2.heap.size) : TwoSt V ea Ta za eb Tb zb G1 G2 BA BB 2 fl v1 (.agg (eb y')) u1 u2 w2 := by
  obtain ⟨B1, B2, x, y, h⟩ := h
  have hl1 : fl[0]? = some true → B1 < w.heap.size := fun e => (Array.getElem?_eq_some_iff.1 (h.b1 e).2.2).1
  have hl2 : fl[1]? = some true → B2 < w.heap.size := fun e => (Array.getElem?_eq_some_iff.1 (h.b2 e).2.2).1
  refine ⟨B1, B2, x, y', bel_then h.bel h.bel.size hb, (fun h => by omega), (fun h => by omega), (fun e => ?_), (fun e => ?_), h.ne, (fun _ => ?_), (fun _ => ⟨rfl, fun w' f => hG _ w' (fun b hb => ?_) f⟩), (fun _ b hx => ⟨(h.l1 (Nat.le_refl _) b hx).1, Nat.lt_of_lt_of_le (h.l1 (Nat.le_refl _) b hx).2 hb.size⟩), (fun _ b hy => ⟨Nat.le_trans h.bel.size (hB b hy).1, (hB b hy).2⟩), (fun _ b hx hy => by
    have h1 := (h.l1 (Nat.le_refl _) b hx).2
    have h2 := (hB b hy).1
    omega)⟩
  · obtain ⟨q1, q2, q3⟩ := h.b1 e
    exact ⟨q1, q2, (hb.block B1 (hl1 e)).trans q3⟩
  · obtain ⟨q1, q2, q3⟩ := h.b2 e
    exact ⟨q1, q2, (hb.block B2 (hl2 e)).trans q3⟩
  · obtain ⟨q1, q2⟩ := h.g1 (Nat.le_refl _)
    exact ⟨q1, fun w' f => q2 w' ((Fr.of_below hb).then f fun k hk => Or.inl hk)⟩
  · rcases hb with ⟨e, rfl⟩ | ⟨e, rfl⟩
    · exact ⟨(h.b1 e).2.1, hl1 e⟩
    · exact ⟨(h.b2 e).2.1, hl2 e⟩
theorem two_alloc1 {f2 : Bool} (h : TwoSt V ea Ta za eb Tb zb G1 G2 BA BB k [false, f2] v1 v2 u1 u2 w) : TwoSt V ea Ta za eb Tb zb G1 G2 BA BB k [true, f2] v1 v2 (.pointer (some ⟨w.heap.size, 0, none⟩)) u2 (w.alloc (.cells za Ta)) := by
  obtain ⟨B1, B2, x, y, h⟩ := h
  have hal : Below w.heap.size w (w.alloc (.cells za Ta)) := (Below.refl _ _).alloc (Nat.le_refl _) _
  have hk : ¬ 3 ≤ k := fun e => by have := h.s1 e; cases this
  have hl2 : f2 = true → B2 < w.heap.size := fun e => (Array.getElem?_eq_some_iff.1 (h.b2 (by rw [e]; rfl)).2.2).1
  have hfr : ∀ w', Fr (TwoP [true, f2] w.heap.size B2) (w.alloc (.cells za Ta)) w' → Fr (TwoP [false, f2] B1 B2) w w' := fun w' f => (Fr.of_below hal).then f fun b hb => by
    rcases hb with ⟨_, rfl⟩ | hb
    · exact Or.inr (Nat.le_refl _)
    · exact Or.inl (Or.inr hb)
  refine ⟨w.heap.size, B2, x, y, bel_then h.bel h.bel.size hal, (fun _ => rfl), (fun e => absurd (by omega) hk), (fun _ => ⟨rfl, h.bel.size, ?_⟩), (fun e => ?_), (fun _ e => ?_), (fun e => ?_), (fun e => ?_), (fun e b hb => ⟨(h.l1 e b hb).1, Nat.lt_of_lt_of_le (h.l1 e b hb).2 hal.size⟩), (fun e b hb => ⟨(h.l2 e b hb).1, Nat.lt_of_lt_of_le (h.l2 e b hb).2 hal.size⟩), h.ap⟩
  · rw [if_neg hk]
    exact heap_alloc_new w _
  · obtain ⟨q1, q2, q3⟩ := h.b2 e
    exact ⟨q1, q2, (hal.block B2 (hl2 (by simpa using e))).trans q3⟩
  · have := hl2 (by simpa using e)
    omega
  · obtain ⟨q1, q2⟩ := h.g1 e
    exact ⟨q1, fun w' f => q2 w' (hfr w' f)⟩
  · obtain ⟨q1, q2⟩ := h.g2 e
    exact ⟨q1, fun w' f => q2 w' (hfr w' f)⟩
theorem two_alloc2 {f1 : Bool} (h : TwoSt V ea Ta za eb Tb zb G1 G2 BA BB k [f1, false] v1 v2 u1 u2 w) : TwoSt V ea Ta za eb Tb zb G1 G2 BA BB k [f1, true] v1 v2 u1 (.pointer (some ⟨w.heap.size, 0, none⟩)) (w.alloc (.cells zb Tb)) := by
  obtain ⟨B1, B2, x, y, h⟩ := h
  have hal : Below w.heap.size w (w.alloc (.cells zb Tb)) := (Below.refl _ _).alloc (Nat.le_refl _) _
  have hk : ¬ 4 ≤ k := fun e => by have := h.s2 e; cases this
  have hl1 : f1 = true → B1 < w.heap.size := fun e => (Array.getElem?_eq_some_iff.1 (h.b1 (by rw [e]; rfl)).2.2).1
  have hfr : ∀ w', Fr (TwoP [f1, true] B1 w.heap.size) (w.alloc (.cells zb Tb)) w' → Fr (TwoP [f1, false] B1 B2) w w' := fun w' f => (Fr.of_below hal).then f fun b hb => by
    rcases hb with hb | ⟨_, rfl⟩
    · exact Or.inl (Or.inl hb)
    · exact Or.inr (Nat.le_refl _)
  refine ⟨B1, w.heap.size, x, y, bel_then h.bel h.bel.size hal, (fun e => h.s1 e), (fun e => absurd e hk), (fun e => ?_), (fun _ => ⟨rfl, h.bel.size, ?_⟩), (fun e _ => ?_), (fun e => ?_), (fun e => ?_), (fun e b hb => ⟨(h.l1 e b hb).1, Nat.lt_of_lt_of_le (h.l1 e b hb).2 hal.size⟩), (fun e b hb => ⟨(h.l2 e b hb).1, Nat.lt_of_lt_of_le (h.l2 e b hb).2 hal.size⟩), h.ap⟩
  · obtain ⟨q1, q2, q3⟩ := h.b1 e
    exact ⟨q1, q2, (hal.block B1 (hl1 (by simpa using e))).trans q3⟩
  · rw [if_neg hk]
    exact heap_alloc_new w _
  · have := hl1 (by simpa using e)
    omega
  · obtain ⟨q1, q2⟩ := h.g1 e
    exact ⟨q1, fun w' f => q2 w' (hfr w' f)⟩
  · obtain ⟨q1, q2⟩ := h.g2 e
    exact ⟨q1, fun w' f => q2 w' (hfr w' f)⟩
/-- The first store: what is there, and what must be shown of the world behind it. -/
theorem two_store1 {f2 : Bool} (h : TwoSt V ea Ta za eb Tb zb G1 G2 BA BB 2 [true, f2] v1 v2 u1 u2 w) : ∃ B1 x, u1 = .pointer (some ⟨B1, 0, none⟩) ∧ v1 = .agg (ea x) ∧ w.heap[B1]? = some (.cells za Ta (0, 0)) ∧
    ∀ w', w'.heap[B1]? = some (.cells (ea x) Ta (0, 0)) → Fr (fun b => b = B1) w w' → TwoSt V ea Ta za eb Tb zb G1 G2 BA BB 3 [true, f2] v1 v2 u1 u2 w' := by
  obtain ⟨B1, B2, x, y, h⟩ := h
  obtain ⟨q1, q2, q3⟩ := h.b1 rfl
  rw [if_neg (by omega)] at q3
  obtain ⟨p1, p2⟩ := h.g1 (by omega)
  obtain ⟨p3, p4⟩ := h.g2 (by omega)
  refine ⟨B1, x, q1, p1, q3, fun w' hw f => ?_⟩
  have hlt := (Array.getElem?_eq_some_iff.1 q3).1
  have hfr : Fr (TwoP [true, f2] B1 B2) w w' := f.mono fun b hb => Or.inl ⟨rfl, hb⟩
  refine ⟨B1, B2, x, y, h.bel.trans (f.below (by have := h.bel.size; omega) fun b hb => by omega), (fun _ => rfl), (fun e => by omega), (fun _ => ⟨q1, q2, ?_⟩), (fun e => ?_), h.ne, (fun _ => ⟨p1, fun w3 f3 => p2 w3 (hfr.then f3 fun b hb => Or.inl hb)⟩), (fun _ => ⟨p3, fun w3 f3 => p4 w3 (hfr.then f3 fun b hb => Or.inl hb)⟩), (fun _ b hb => ⟨(h.l1 (by omega) b hb).1, Nat.lt_of_lt_of_le (h.l1 (by omega) b hb).2 f.size⟩), (fun _ b hb => ⟨(h.l2 (by omega) b hb).1, Nat.lt_of_lt_of_le (h.l2 (by omega) b hb).2 f.size⟩), (fun _ => h.ap (by omega))⟩
  · rw [if_pos (by omega)]
    exact hw
  · obtain ⟨r1, r2, r3⟩ := h.b2 e
    refine ⟨r1, r2, ?_⟩
    rw [if_neg (by omega)] at r3 ⊢
    exact (f.block B2 (Array.getElem?_eq_some_iff.1 r3).1 (h.ne rfl e).symm).trans r3
theorem two_store2 {f1 : Bool} (h : TwoSt V ea Ta za eb Tb zb G1 G2 BA BB 3 [f1, true] v1 v2 u1 u2 w) : ∃ B2 y, u2 = .pointer (some ⟨B2, 0, none⟩) ∧ v2 = .agg (eb y) ∧ w.heap[B2]? = some (.cells zb Tb (0, 0)) ∧
    ∀ w', w'.heap[B2]? = some (.cells (eb y) Tb (0, 0)) → Fr (fun b => b = B2) w w' → TwoSt V ea Ta za eb Tb zb G1 G2 BA BB 4 [f1, true] v1 v2 u1 u2 w' := by
  obtain ⟨B1, B2, x, y, h⟩ := h
  obtain ⟨q1, q2, q3⟩ := h.b2 rfl
  rw [if_neg (by omega)] at q3
  obtain ⟨p1, p2⟩ := h.g1 (by omega)
  obtain ⟨p3, p4⟩ := h.g2 (by omega)
  have hf1 : f1 = true := by simpa using h.s1 (Nat.le_refl _)
  refine ⟨B2, y, q1, p3, q3, fun w' hw f => ?_⟩
  have hlt := (Array.getElem?_eq_some_iff.1 q3).1
  have hfr : Fr (TwoP [f1, true] B1 B2) w w' := f.mono fun b hb => Or.inr ⟨rfl, hb⟩
  refine ⟨B1, B2, x, y, h.bel.trans (f.below (by have := h.bel.size; omega) fun b hb => by omega), (fun _ => h.s1 (Nat.le_refl _)), (fun e => rfl), (fun e => ?_), (fun _ => ⟨q1, q2, ?_⟩), h.ne, (fun _ => ⟨p1, fun w3 f3 => p2 w3 (hfr.then f3 fun b hb => Or.inl hb)⟩), (fun _ => ⟨p3, fun w3 f3 => p4 w3 (hfr.then f3 fun b hb => Or.inl hb)⟩), (fun _ b hb => ⟨(h.l1 (by omega) b hb).1, Nat.lt_of_lt_of_le (h.l1 (by omega) b hb).2 f.size⟩), (fun _ b hb => ⟨(h.l2 (by omega) b hb).1, Nat.lt_of_lt_of_le (h.l2 (by omega) b hb).2 f.size⟩), (fun _ => h.ap (by omega))⟩
  · obtain ⟨r1, r2, r3⟩ := h.b1 e
    refine ⟨r1, r2, ?_⟩
    rw [if_pos (by omega)] at r3 ⊢
    exact (f.block B1 (Array.getElem?_eq_some_iff.1 r3).1 (h.ne e rfl)).trans r3
  · rw [if_pos (by omega)]
    exact hw
/-- What lies behind. -/
structure TwoEnd (V : World) (ea : α → Array Value) (Ta : TypeId) (eb : β → Array Value) (Tb : TypeId) (G1 : World → α → Prop) (G2 : World → β → Prop) (BA : α → Nat → Prop) (BB : β → Nat → Prop) (B1 B2 : Nat) (x : α) (y : β) (w : World) : Prop where
  bel : Below V.heap.size V w
  low1 : V.heap.size ≤ B1
  low2 : V.heap.size ≤ B2
  box1 : w.heap[B1]? = some (.cells (ea x) Ta (0, 0))
  box2 : w.heap[B2]? = some (.cells (eb y) Tb (0, 0))
  ne : B1 ≠ B2
  g1 : G1 w x
  g2 : G2 w y
  l1 : ∀ b, BA x b → V.heap.size ≤ b ∧ b < w.heap.size
  l2 : ∀ b, BB y b → V.heap.size ≤ b ∧ b < w.heap.size
  ap : ∀ b, BA x b → ¬ BB y b
theorem two_end (h : TwoSt V ea Ta za eb Tb zb G1 G2 BA BB 4 [true, true] v1 v2 u1 u2 w) : ∃ B1 B2 x y, u1 = .pointer (some ⟨B1, 0, none⟩) ∧ u2 = .pointer (some ⟨B2, 0, none⟩) ∧ TwoEnd V ea Ta eb Tb G1 G2 BA BB B1 B2 x y w := by
  obtain ⟨B1, B2, x, y, h⟩ := h
  obtain ⟨q1, q2, q3⟩ := h.b1 rfl
  obtain ⟨r1, r2, r3⟩ := h.b2 rfl
  rw [if_pos (by omega)] at q3 r3
  exact ⟨B1, B2, x, y, q1, r1, h.bel, q2, r2, q3, r3, h.ne rfl rfl, (h.g1 (by omega)).2 w (Fr.refl _ _), (h.g2 (by omega)).2 w (Fr.refl _ _), h.l1 (by omega), h.l2 (by omega), h.ap (by omega)⟩
end

/-- A struct of two cells stored into its block. -/
theorem store_two {w : World} {B : Nat} {a b z1 z2 : Value} {T : TypeId} (h : w.heap[B]? = some (.cells #[z1, z2] T (0, 0))) :
    (w.cell? ⟨B, 0, none⟩ = some z1 ∧ w.cell? ⟨B, 1, none⟩ = some z2 ∧ w.frozen? ⟨B, 0, none⟩ = false ∧ w.frozen? ⟨B, 1, none⟩ = false) ∧ ((w.setCell ⟨B, 0, none⟩ a).setCell ⟨B, 1, none⟩ b).heap[B]? = some (.cells #[a, b] T (0, 0)) ∧ Fr (fun k => k = B) w ((w.setCell ⟨B, 0, none⟩ a).setCell ⟨B, 1, none⟩ b) := by
  have e1 : (w.setCell ⟨B, 0, none⟩ a).heap[B]? = some (.cells #[a, z2] T (0, 0)) := heap_setCell_same w B 0 _ _ _ h
  have e2 : ((w.setCell ⟨B, 0, none⟩ a).setCell ⟨B, 1, none⟩ b).heap[B]? = some (.cells #[a, b] T (0, 0)) := heap_setCell_same _ B 1 _ _ _ e1
  refine ⟨⟨by rw [Lib.cell_of_heap h]; rfl, by rw [Lib.cell_of_heap h]; rfl, Lib.frozen_of_heap h 0, Lib.frozen_of_heap h 1⟩, e2, ⟨rfl, rfl, rfl, by simp, fun k _ hn => ?_⟩⟩
  rw [heap_setCell_other _ _ k _ hn, heap_setCell_other _ _ k _ hn]

end Go.Proofs.Ythdakljoabbghaa

/-
  Marks that two calls answer, kept apart from the variables they are laid into (stage 12). No function.
-/
namespace Go.Proofs.Ythdakljoabbghaa
open Go.RowKit

/-- Ranges, keys that lie in what was there at V. -/
def PrV (V : World) (r : Rx) : Prop := ∀ W', Below V.heap.size V W' → r.at W'
def KrV (V : World) (v : Value) (l : List Ky) : Prop := ∀ W', Below V.heap.size V W' → KK.Is W' v l

theorem mark_fr {V w w2 w' : World} {m : Mx} {P : Nat → Prop} (hV : Below V.heap.size V w) (hb2 : Below w.heap.size w w2) (hk : KK.Own w.heap.size w2 m.ksl m.ks ∨ (KK.Is w m.ksl m.ks ∧ KrV V m.ksl m.ks)) (hr : KRx.Own w.heap.size w2 m.rsl m.rs) (he : ∀ r ∈ m.rs, r.atP (PrV V) w)
    (hP : ∀ b, P b → V.heap.size ≤ b ∧ b < w.heap.size) (f : Fr P w2 w') : MIn w' m := by
  have hbV : Below V.heap.size V w' := (bel_then hV hV.size hb2).trans (f.below (by have := hV.size; have := hb2.size; omega) fun b hb => (hP b hb).1)
  refine ⟨?_, ?_, fun r hr' => (he r hr').2 w' hbV⟩
  · rcases hk with hk | hk
    · exact Kind.own_is (f.row (show w2.ownsRow w.heap.size KK.T KK.k m.ksl m.ks.length (KK.cells m.ks) from hk) fun k h1 h2 => by
        have := (World.ownsRow.lt (show w2.ownsRow w.heap.size KK.T KK.k m.ksl m.ks.length (KK.cells m.ks) from hk) k h1).1
        have := (hP k h2).2
        omega)
    · exact hk.2 w' hbV
  · exact Kind.own_is (f.row (show w2.ownsRow w.heap.size KRx.T KRx.k m.rsl m.rs.length (KRx.cells m.rs) from hr) fun k h1 h2 => by
      have := (World.ownsRow.lt (show w2.ownsRow w.heap.size KRx.T KRx.k m.rsl m.rs.length (KRx.cells m.rs) from hr) k h1).1
      have := (hP k h2).2
      omega)
/-- Marks that say mk. -/
def GMk (mk : Mk) (W : World) (m : Mx) : Prop := MIn W m ∧ m.mk' = mk
theorem gmk_own {V w w2 : World} {m : Mx} {mk : Mk} (ho : MOwn w.heap.size w2 m) (hk : m.mk' = mk) (P : Nat → Prop) (w' : World) (hP : ∀ b, P b → V.heap.size ≤ b ∧ b < w.heap.size) (f : Fr P w2 w') : GMk mk w' m := ⟨(ho.fr f fun k h => (hP k h).2).inn, hk⟩
theorem gmk_ref {V w w2 : World} {m : Mx} {mk : Mk} (hV : Below V.heap.size V w) (hb2 : Below w.heap.size w w2) (hk : m.mk' = mk) (hks : KK.Own w.heap.size w2 m.ksl m.ks ∨ (KK.Is w m.ksl m.ks ∧ KrV V m.ksl m.ks)) (hr : KRx.Own w.heap.size w2 m.rsl m.rs) (he : ∀ r ∈ m.rs, r.atP (PrV V) w) (P : Nat → Prop) (w' : World) (hP : ∀ b, P b → V.heap.size ≤ b ∧ b < w.heap.size) (f : Fr P w2 w') : GMk mk w' m := ⟨mark_fr hV hb2 hks hr he hP f, hk⟩
def encA (m : Mx) : Array Value := #[m.ksl, m.rsl]
/-- Two variables of marks. -/
abbrev TwoM (V : World) (mk1 mk2 : Mk) := TwoSt V encA 25 #[.slice none 0 0, .slice none 0 0] encA 25 #[.slice none 0 0, .slice none 0 0] (GMk mk1) (GMk mk2) (fun _ _ => False) (fun _ _ => False)
abbrev TwoMEnd (V : World) (mk1 mk2 : Mk) := TwoEnd V encA 25 encA 25 (GMk mk1) (GMk mk2) (fun _ _ => False) (fun _ _ => False)

end Go.Proofs.Ythdakljoabbghaa

/-
  MarksUnions (stage 12): what hits one of two hits their union, and nothing else does.
-/
namespace Go.Proofs.Ythdakljoabbghaa
open Go.RowKit

/-- Two marks that are few together. -/
def Few2 (a b : Mx) : Prop := a.ks.length + b.ks.length + 1 < 1500000000000 ∧ a.rs.length + b.rs.length + 1 < 1500000000000
theorem sortK_len (l : List Ky) : (sortK l).length ≤ l.length := by
  have := inss_len l []
  unfold sortK
  simpa using this
theorem few_union {a b m : Mx} (h : Few2 a b) (hm : m.mk' = unionM a.mk' b.mk') : FewM m := by
  obtain ⟨h1, h2⟩ := h
  have e1 : m.ks = (unionM a.mk' b.mk').1 := congrArg Prod.fst hm
  have e2 : m.rs.length = (unionM a.mk' b.mk').2.length := by rw [← hm]; simp [Mx.mk']
  have l1 := inss_len b.mk'.1 (sortK a.mk'.1)
  have l2 := sortK_len a.mk'.1
  have l3 := putsR_len b.mk'.2 (a.mk'.2.foldl putR [])
  have l4 := putsR_len a.mk'.2 []
  constructor
  · rw [e1]
    simp only [unionM, Mx.mk'] at *
    omega
  · rw [e2]
    simp only [unionM, Mx.mk', List.length_map, List.length_nil] at *
    omega
theorem few_key {a m : Mx} {k : Ky} (h1 : a.ks.length + 1 < 1500000000000) (h2 : a.rs.length < 1500000000000) (hm : m.mk' = keyM a.mk' k) : FewM m := by
  have e1 : m.ks = (keyM a.mk' k).1 := congrArg Prod.fst hm
  have e2 : m.rs.length = (keyM a.mk' k).2.length := by rw [← hm]; simp [Mx.mk']
  have l1 := insK_len k (sortK a.mk'.1)
  have l2 := sortK_len a.mk'.1
  constructor
  · rw [e1]
    simp only [keyM, Mx.mk'] at *
    omega
  · rw [e2]
    simp only [keyM, Mx.mk', List.length_map] at *
    omega
theorem few_range {a m : Mx} {r : Rg} (h1 : a.ks.length < 1500000000000) (h2 : a.rs.length + 1 < 1500000000000) (hm : m.mk' = rangeM a.mk' r) : FewM m := by
  have e1 : m.ks = (rangeM a.mk' r).1 := congrArg Prod.fst hm
  have e2 : m.rs.length = (rangeM a.mk' r).2.length := by rw [← hm]; simp [Mx.mk']
  have l1 := putR_len a.mk'.2 r
  constructor
  · rw [e1]
    simp only [rangeM, Mx.mk'] at *
    omega
  · rw [e2]
    simp only [rangeM, Mx.mk', List.length_map] at *
    omega

/-- One change out of a list; the first ones of a list. -/
theorem ChgIn.one {W : World} {b off n cap : Nat} {l : List Cx} (h : ChgIn W (.slice (some ⟨b, off, none⟩) n cap) l) (i : Nat) (hi : i < l.length) (c' : Nat) : ChgIn W (.slice (some ⟨b, off + i * 6, none⟩) 1 c') [l[i]] := by
  refine ⟨⟨_, _, rfl, Or.inr ⟨_, _, rfl, fun j hj k u hu => ?_⟩⟩, fun c hc => ?_⟩
  · have hj' : j = 0 := by simpa using hj
    subst hj'
    obtain ⟨p', c'', he, h'⟩ := h.is
    injection he with e1 e2 e3
    subst e1
    rcases h' with h' | ⟨b', off', e4, h'⟩
    · rw [h'] at hi; simp at hi
    · injection e4 with e4
      injection e4 with e5 e6 e7
      subst e5 e6
      have := h' i hi k u hu
      simpa [show KCx.k = 6 from rfl] using this
  · rw [List.mem_singleton] at hc
    subst hc
    exact h.each _ (List.getElem_mem hi)
theorem ChgIn.first {W : World} {p : Option Addr} {n cap : Nat} {l : List Cx} (h : ChgIn W (.slice p n cap) l) (i : Nat) (hi : i ≤ l.length) : ChgIn W (.slice p i cap) (l.take i) := by
  have hlen : (l.take i).length = i := by simp; omega
  refine ⟨⟨p, cap, by rw [hlen], ?_⟩, fun c hc => h.each c (List.mem_of_mem_take hc)⟩
  obtain ⟨p', c'', he, h'⟩ := h.is
  injection he with e1 e2 e3
  subst e1
  rcases h' with h' | ⟨b', off', e4, h'⟩
  · exact Or.inl (by rw [h']; simp)
  · refine Or.inr ⟨b', off', e4, fun j hj k u hu => ?_⟩
    have hj' : j < l.length := by rw [hlen] at hj; omega
    have e : (l.take i)[j] = l[j] := List.getElem_take
    rw [e] at hu
    exact h' j hj' k u hu

theorem hits_one (a b : Mk) (c : Ch) : hitsM (unionM a b) [c] = (hitsM a [c] || hitsM b [c]) := by
  unfold hitsM
  simp [hit_union]
theorem hits_union (a b : Mk) (l : List Ch) : hitsM (unionM a b) l = (hitsM a l || hitsM b l) := by
  unfold hitsM
  induction l with
  | nil => rfl
  | cons c r ih =>
    simp only [List.any_cons, hit_union, ih]
    cases hitM a c <;> cases hitM b c <;> simp
theorem hits_more (a : Mk) (l : List Ch) (i : Nat) (h : hitsM a (l.take i) = true) : hitsM a l = true := by
  unfold hitsM at *
  obtain ⟨c, hc, h1⟩ := List.any_eq_true.1 h
  exact List.any_eq_true.2 ⟨c, List.mem_of_mem_take hc, h1⟩
theorem hits_key (a : Mk) (c : Ch) : hitsM (keyM a c.key) [c] = true := by
  unfold hitsM
  simp [hit_key]
theorem hits_none (l : List Ch) : hitsM ([], []) l = false := by
  unfold hitsM
  induction l with
  | nil => rfl
  | cons c r ih => rw [List.any_cons, ih]; rfl

set_option linter.unusedSimpArgs false in
set_option maxHeartbeats 8000000 in
set_option maxRecDepth 100000 in
theorem munions12_any (S : MarksApi) (hF : Fixed12) (a b : Mx) (p : Option Addr) (cap : Nat) (l : List Cx) (w : World) (ha : MIn w a) (hb : MIn w b) (h2 : Few2 a b) (hka : ∀ x ∈ a.ks, FitKy12 x) (hkb : ∀ x ∈ b.ks, FitKy12 x) (hc : ChgIn w (.slice p l.length cap) l) (hcap : l.length ≤ cap) (hl : l.length < 1500000000000) (hlk : ∀ c ∈ l, FitKy12 (c.a, c.b)) :
    Calls Try.prog 5 #[.agg (encMx a).toArray, .agg (encMx b).toArray, .slice p l.length cap] w fun e w' => e = .returned (.bool true) ∧ Below w.heap.size w w' := by
  obtain ⟨V, hV⟩ : ∃ V, (w.alloc (.cells (encMx a).toArray 25)).alloc (.cells (encMx b).toArray 25) = V := ⟨_, rfl⟩
  obtain ⟨M, hM⟩ : ∃ M, w.heap.size = M := ⟨_, rfl⟩
  obtain ⟨hbV, hba, hbb, hs⟩ := two_boxes w (encMx a).toArray (encMx b).toArray 25 25
  rw [hV] at hbV hba hbb hs
  rw [hM] at hba hbb hs
  have fa : FewM a := ⟨by have := h2.1; omega, by have := h2.2; omega⟩
  have fb : FewM b := ⟨by have := h2.1; omega, by have := h2.2; omega⟩
  have HF := hid (hF V)
  have HIN : Hid (∀ W', Below V.heap.size V W' → MIn W' a ∧ MIn W' b ∧ ChgIn W' (.slice p l.length cap) l ∧ Below w.heap.size w W' ∧ (W'.cell? ⟨M, 0, none⟩ = some a.ksl ∧ W'.cell? ⟨M, 1, none⟩ = some a.rsl ∧ W'.cell? ⟨M + 1, 0, none⟩ = some b.ksl ∧ W'.cell? ⟨M + 1, 1, none⟩ = some b.rsl)) := fun W' hW => by
    have hb' : Below w.heap.size w W' := bel_then hbV hbV.size hW
    have e1 := (hW.block M (by omega)).trans hba
    have e2 := (hW.block (M + 1) (by omega)).trans hbb
    exact ⟨ha.on hb', hb.on hb', hc.on hb', hb', by rw [Lib.cell_of_heap e1]; rfl, by rw [Lib.cell_of_heap e1]; rfl, by rw [Lib.cell_of_heap e2]; rfl, by rw [Lib.cell_of_heap e2]; rfl⟩
  have HHI : Hid (∀ W' m u q, Below V.heap.size V W' → MIn W' m → FewM m → ChgIn W' u q → q.length < 1500000000000 → Calls Try.prog 19 #[.agg #[m.ksl, m.rsl], u] W' fun e w' => BoolPost W' (hitsM m.mk' (q.map Cx.ch)) e w') := fun W' m u q hW hm hf hq hn => S.hits W' m u q hm hf.len hq hn
  have HUP : Hid (∀ W', Below V.heap.size V W' → Calls Try.prog 12 #[.agg #[a.ksl, a.rsl], .agg #[b.ksl, b.rsl]] W' fun e w' => MOwnPost W' (unionM a.mk' b.mk') e w') := fun W' hW => S.union W' a b (HIN.out W' hW).1 (HIN.out W' hW).2.1 fa fb hka hkb
  have HKP : Hid (∀ W' (k : Ky), Below V.heap.size V W' → FitKy12 k → Calls Try.prog 10 #[.agg #[a.ksl, a.rsl], .agg #[.string k.1, .string k.2]] W' fun e w' => MOwnPost W' (keyM a.mk' k) e w') := fun W' k hW hk => S.key W' a k (HIN.out W' hW).1 fa hk hka
  have HF2 := hid h2
  have HFA := hid fa
  have HFB := hid fb
  have HLK := hid hlk
  have hl' := hl
  obtain ⟨_, _, _, _, a0, a1, b0, b1⟩ := HIN.out V (Below.refl _ _)
  obtain ⟨mka, hmka⟩ : ∃ x, a.mk' = x := ⟨_, rfl⟩
  obtain ⟨mkb, hmkb⟩ : ∃ x, b.mk' = x := ⟨_, rfl⟩
  have HMA := hid hmka
  have HMB := hid hmkb
  rw [hmka, hmkb] at HUP
  rw [hmka] at HKP
  clear ha hb h2 hka hkb hc hbV hba hbb hs hF hlk fa fb hmka hmkb
  obtain ⟨akp, akc, aks, arp, arc, ars⟩ := a
  obtain ⟨bkp, bkc, bks, brp, brc, brs⟩ := b
  simp only [encMx, Mx.ksl, Mx.rsl] at *
  go_enter Try.func5, Try.ntmps5
  go_wp2_with fail
  try rw [hV]
  try rw [hM]
  clear hV a0 a1 b0 b1
  refine HF.out.mono ?_
  rintro e w1 ⟨rfl, hb1⟩
  obtain ⟨_, _, _, _, a0, a1, b0, b1⟩ := HIN.out w1 hb1
  have H1 := hid (HUP.out w1 hb1)
  have HB1 := hid hb1
  clear hb1 HF HUP
  go_wp2_with fail
  refine H1.out.mono ?_
  rintro e w2 ⟨u, rfl, ho2, hk2, hb2⟩
  have hb2' : Below V.heap.size V w2 := bel_then HB1.out HB1.out.size hb2
  have fu : FewM u := few_union HF2.out (by rw [hk2, HMA.out, HMB.out])
  obtain ⟨U, hU⟩ : ∃ U, w2.heap.size = U := ⟨_, rfl⟩
  obtain ⟨W3, hW3⟩ : ∃ W3, w2.alloc (.cells #[u.ksl, u.rsl] 25) = W3 := ⟨_, rfl⟩
  obtain ⟨h31, h32, h33⟩ := one_box w2 #[u.ksl, u.rsl] 25
  rw [hW3] at h31 h32 h33
  rw [hU] at h32 h33
  have hb3 : Below V.heap.size V W3 := bel_then hb2' hb2'.size h31
  have HIU : Hid (∀ W', Below W3.heap.size W3 W' → Below V.heap.size V W' ∧ MIn W' u ∧ W'.cell? ⟨U, 0, none⟩ = some u.ksl ∧ W'.cell? ⟨U, 1, none⟩ = some u.rsl) := fun W' hW => by
    have e1 := (hW.block U (by omega)).trans h32
    exact ⟨bel_then hb3 hb3.size hW, (ho2.on (bel_then h31 h31.size hW)).inn, by rw [Lib.cell_of_heap e1]; rfl, by rw [Lib.cell_of_heap e1]; rfl⟩
  have HFU := hid fu
  have HMU := hid hk2
  clear ho2 hk2 hb2 hb2' H1 HB1 fu h31 h32 h33 hb3
  obtain ⟨ukp, ukc, uks, urp, urc, urs⟩ := u
  simp only [encMx, Mx.ksl, Mx.rsl] at *
  -- what the calls answer
  have HCU : Hid (∀ W' u' q, Below W3.heap.size W3 W' → ChgIn W' u' q → q.length < 1500000000000 → Calls Try.prog 19 #[.agg #[.slice ukp uks.length ukc, .slice urp urs.length urc], u'] W' fun e w' => BoolPost W' (hitsM (unionM mka mkb) (q.map Cx.ch)) e w') := fun W' u' q hW hq hn => by
    have := HHI.out W' ⟨ukp, ukc, uks, urp, urc, urs⟩ u' q (HIU.out W' hW).1 (HIU.out W' hW).2.1 HFU.out hq hn
    rw [HMU.out] at this
    exact this
  have HCA : Hid (∀ W' u' q, Below W3.heap.size W3 W' → ChgIn W' u' q → q.length < 1500000000000 → Calls Try.prog 19 #[.agg #[.slice akp aks.length akc, .slice arp ars.length arc], u'] W' fun e w' => BoolPost W' (hitsM mka (q.map Cx.ch)) e w') := fun W' u' q hW hq hn => by
    have := HHI.out W' ⟨akp, akc, aks, arp, arc, ars⟩ u' q (HIU.out W' hW).1 (HIN.out W' (HIU.out W' hW).1).1 HFA.out hq hn
    rw [HMA.out] at this
    exact this
  have HCB : Hid (∀ W' u' q, Below W3.heap.size W3 W' → ChgIn W' u' q → q.length < 1500000000000 → Calls Try.prog 19 #[.agg #[.slice bkp bks.length bkc, .slice brp brs.length brc], u'] W' fun e w' => BoolPost W' (hitsM mkb (q.map Cx.ch)) e w') := fun W' u' q hW hq hn => by
    have := HHI.out W' ⟨bkp, bkc, bks, brp, brc, brs⟩ u' q (HIU.out W' hW).1 (HIN.out W' (HIU.out W' hW).1).2.1 HFB.out hq hn
    rw [HMB.out] at this
    exact this
  have HCL : Hid (∀ W', Below W3.heap.size W3 W' → ChgIn W' (.slice p l.length cap) l) := fun W' hW => (HIN.out W' (HIU.out W' hW).1).2.2.1
  have HCE : Hid (∀ W', Below W3.heap.size W3 W' → W'.cell? ⟨M, 0, none⟩ = some (.slice akp aks.length akc) ∧ W'.cell? ⟨M, 1, none⟩ = some (.slice arp ars.length arc) ∧ W'.cell? ⟨M + 1, 0, none⟩ = some (.slice bkp bks.length bkc) ∧ W'.cell? ⟨M + 1, 1, none⟩ = some (.slice brp brs.length brc) ∧ W'.cell? ⟨U, 0, none⟩ = some (.slice ukp uks.length ukc) ∧ W'.cell? ⟨U, 1, none⟩ = some (.slice urp urs.length urc)) := fun W' hW => by
    obtain ⟨h1, _, h3, h4⟩ := HIU.out W' hW
    obtain ⟨_, _, _, _, q0, q1, q2, q3⟩ := HIN.out W' h1
    exact ⟨q0, q1, q2, q3, h3, h4⟩
  have HBW : Hid (∀ W', Below W3.heap.size W3 W' → Below w.heap.size w W') := fun W' hW => (HIN.out W' (HIU.out W' hW).1).2.2.2.1
  go_wp2_with fail
  try rw [hW3]
  try rw [hU]
  clear hW3 a0 a1 b0 b1
  go_loopg [17] l.length (fun gg vi wr => ∃ i : Nat, vi = .int .i64 i ∧ i ≤ l.length ∧ l.length - i ≤ gg ∧ Hid (Below W3.heap.size W3 wr))
  case atStart => exact ⟨0, rfl, by omega, by omega, Below.refl _ _⟩
  case round =>
    obtain ⟨i, rfl, hi, hgk, HI⟩ := hrel
    by_cases hlt : i < l.length
    · have hltz : (i : Int) < (l.length : Int) := by omega
      have hiz : (0 : Int) ≤ i := by omega
      obtain ⟨b7, o7, rfl, _⟩ : ∃ b off, p = some ⟨b, off, none⟩ ∧ KCx.At wr b off l := by
        obtain ⟨p', c', he, h⟩ := (HCL.out wr HI.out).is
        injection he with e1 _ _
        subst e1
        rcases h with h | h
        · rw [h] at hlt; simp at hlt
        · exact h
      have HCO : Hid (∀ W', Below W3.heap.size W3 W' → ChgIn W' (.slice (some ⟨b7, o7 + i * 6, none⟩) 1 (cap - i)) [l[i]]) := fun W' hW => (HCL.out W' hW).one i hlt _
      have HCF : Hid (∀ W', Below W3.heap.size W3 W' → ChgIn W' (.slice (some ⟨b7, o7, none⟩) i cap) (l.take i)) := fun W' hW => (HCL.out W' hW).first i (by omega)
      have hlt' : (l.take i).length < 1500000000000 := by rw [List.length_take]; omega
      obtain ⟨BF, hBF⟩ : ∃ x, hitsM mka ((l.take i).map Cx.ch) = x := ⟨_, rfl⟩
      obtain ⟨BL, hBL⟩ : ∃ x, hitsM mka (l.map Cx.ch) = x := ⟨_, rfl⟩
      have HML : Hid (BF = true → BL = true) := fun h => by
        rw [← hBL]
        refine hits_more mka _ i ?_
        rw [← List.map_take, hBF, h]
      have HQF : Hid (∀ W', Below W3.heap.size W3 W' → Calls Try.prog 19 #[.agg #[.slice akp aks.length akc, .slice arp ars.length arc], .slice (some ⟨b7, o7, none⟩) i cap] W' fun e w' => BoolPost W' BF e w') := fun W' hW => by
        have := HCA.out W' _ _ hW (HCF.out W' hW) hlt'
        rwa [hBF] at this
      have HQL : Hid (∀ W', Below W3.heap.size W3 W' → Calls Try.prog 19 #[.agg #[.slice akp aks.length akc, .slice arp ars.length arc], .slice (some ⟨b7, o7, none⟩) l.length cap] W' fun e w' => BoolPost W' BL e w') := fun W' hW => by
        have := HCA.out W' _ _ hW (HCL.out W' hW) hl
        rwa [hBL] at this
      have hfk := HLK.out _ (List.getElem_mem hlt)
      have HKA : Hid (∀ W', Below W3.heap.size W3 W' → (W'.cell? ⟨b7, o7 + i * 6, none⟩ = some (.string (l[i]).a) ∧ W'.cell? ⟨b7, o7 + i * 6 + 1, none⟩ = some (.string (l[i]).b))) := fun W' hW => by
        obtain ⟨p', c', he, h⟩ := (HCL.out W' hW).is
        injection he with e1 _ _
        subst e1
        rcases h with h | ⟨b', o', e2, h⟩
        · rw [h] at hlt; simp at hlt
        · injection e2 with e2
          injection e2 with e3 e4 e5
          subst e3 e4
          exact ⟨h i hlt 0 _ rfl, h i hlt 1 _ rfl⟩
      clear hBF hBL HCF
      generalize l[i] = c at *
      have HFK := hid hfk
      obtain ⟨BU, hBU⟩ : ∃ x, hitsM (unionM mka mkb) [c.ch] = x := ⟨_, rfl⟩
      obtain ⟨BA, hBA⟩ : ∃ x, hitsM mka [c.ch] = x := ⟨_, rfl⟩
      obtain ⟨BB', hBB⟩ : ∃ x, hitsM mkb [c.ch] = x := ⟨_, rfl⟩
      have hbu : BU = (BA || BB') := by rw [← hBU, ← hBA, ← hBB]; exact hits_one mka mkb c.ch
      have HQU : Hid (∀ W', Below W3.heap.size W3 W' → Calls Try.prog 19 #[.agg #[.slice ukp uks.length ukc, .slice urp urs.length urc], .slice (some ⟨b7, o7 + i * 6, none⟩) 1 (cap - i)] W' fun e w' => BoolPost W' BU e w') := fun W' hW => by
        have := HCU.out W' _ _ hW (HCO.out W' hW) (by simp)
        rwa [show [c].map Cx.ch = [c.ch] from rfl, hBU] at this
      have HQA : Hid (∀ W', Below W3.heap.size W3 W' → Calls Try.prog 19 #[.agg #[.slice akp aks.length akc, .slice arp ars.length arc], .slice (some ⟨b7, o7 + i * 6, none⟩) 1 (cap - i)] W' fun e w' => BoolPost W' BA e w') := fun W' hW => by
        have := HCA.out W' _ _ hW (HCO.out W' hW) (by simp)
        rwa [show [c].map Cx.ch = [c.ch] from rfl, hBA] at this
      have HQB : Hid (∀ W', Below W3.heap.size W3 W' → Calls Try.prog 19 #[.agg #[.slice bkp bks.length bkc, .slice brp brs.length brc], .slice (some ⟨b7, o7 + i * 6, none⟩) 1 (cap - i)] W' fun e w' => BoolPost W' BB' e w') := fun W' hW => by
        have := HCB.out W' _ _ hW (HCO.out W' hW) (by simp)
        rwa [show [c].map Cx.ch = [c.ch] from rfl, hBB] at this
      have HQK : Hid (∀ W', Below W3.heap.size W3 W' → Calls Try.prog 10 #[.agg #[.slice akp aks.length akc, .slice arp ars.length arc], .agg #[.string c.a, .string c.b]] W' fun e w' => MOwnPost W' (keyM mka (c.a, c.b)) e w') := fun W' hW => HKP.out W' (c.a, c.b) (HIU.out W' hW).1 HFK.out
      have HQM : Hid (∀ W' W'' m, Below W3.heap.size W3 W' → MOwn W'.heap.size W'' m → m.mk' = keyM mka (c.a, c.b) → Below W'.heap.size W' W'' → Calls Try.prog 19 #[.agg #[m.ksl, m.rsl], .slice (some ⟨b7, o7 + i * 6, none⟩) 1 (cap - i)] W'' fun e w' => BoolPost W'' true e w') := fun W' W'' m hW ho hk hb => by
        have hW2 : Below W3.heap.size W3 W'' := bel_then hW hW.size hb
        have := HHI.out W'' m _ _ (HIU.out W'' hW2).1 ho.inn (few_key (a := ⟨akp, akc, aks, arp, arc, ars⟩) (k := (c.a, c.b)) (by have := HF2.out.1; simp only at this ⊢; omega) (by have := HF2.out.2; simp only at this ⊢; omega) (by rw [hk, HMA.out])) (HCO.out W'' hW2) (by simp)
        rw [show [c].map Cx.ch = [c.ch] from rfl, hk] at this
        rwa [show hitsM (keyM mka (c.a, c.b)) [c.ch] = true from hits_key mka c.ch] at this
      clear hBU hBA hBB hfk
      have HS8 : Hid (∀ W, Below W3.heap.size W3 W → W.cell? ⟨M, 0, none⟩ = some (.slice akp aks.length akc) ∧ W.cell? ⟨M, 1, none⟩ = some (.slice arp ars.length arc) ∧ W.cell? ⟨M + 1, 0, none⟩ = some (.slice bkp bks.length bkc) ∧ W.cell? ⟨M + 1, 1, none⟩ = some (.slice brp brs.length brc) ∧ W.cell? ⟨U, 0, none⟩ = some (.slice ukp uks.length ukc) ∧ W.cell? ⟨U, 1, none⟩ = some (.slice urp urs.length urc) ∧ W.cell? ⟨b7, o7 + i * 6, none⟩ = some (.string c.a) ∧ W.cell? ⟨b7, o7 + i * 6 + 1, none⟩ = some (.string c.b)) := fun W hW => by
        obtain ⟨q0, q1, q2, q3, q4, q5⟩ := HCE.out W hW
        obtain ⟨q6, q7⟩ := HKA.out W hW
        exact ⟨q0, q1, q2, q3, q4, q5, q6, q7⟩
      have hcz : (i : Int) + 1 ≤ (cap : Int) := by omega
      have hcz1 : (i : Int) ≤ (i : Int) + 1 := by omega
      have hcz0 : (0 : Int) ≤ (i : Int) + 1 := by omega
      have hci : ¬ cap = i := by omega
      have hcs : ((i : Int) + 1 - (i : Int)).toNat = 1 := by omega
      clear HCO HKA HCL HCU HCA HCB
      go_upto_region 8 with fail
      go_cut [48] from 25 to 60 (fun v wx => v = .bool false ∧ Hid (Below W3.heap.size W3 wx))
      case first =>
        refine wp_region_held_drew (S := fun W => W.cell? ⟨M, 0, none⟩ = some (.slice akp aks.length akc) ∧ W.cell? ⟨M, 1, none⟩ = some (.slice arp ars.length arc) ∧ W.cell? ⟨M + 1, 0, none⟩ = some (.slice bkp bks.length bkc) ∧ W.cell? ⟨M + 1, 1, none⟩ = some (.slice brp brs.length brc) ∧ W.cell? ⟨U, 0, none⟩ = some (.slice ukp uks.length ukc) ∧ W.cell? ⟨U, 1, none⟩ = some (.slice urp urs.length urc) ∧ W.cell? ⟨b7, o7 + i * 6, none⟩ = some (.string c.a) ∧ W.cell? ⟨b7, o7 + i * 6 + 1, none⟩ = some (.string c.b)) (by kernel_rfl) (HS8.out wr.drew (bel_drewN HI.out 1)) (fun hHeld => ?_)
        refine take_val (i := 0) (.agg #[.slice ukp uks.length ukc, .slice urp urs.length urc]) rfl (by kernel_rfl) (by kernel_rfl) (by kernel_rfl) (fun _ _ _ h => h) (by rfl) (fun w hSw => by go_simp) hHeld ?_
        simp only [Act.put, List.setIfInBounds_toArray, List.set_cons_zero, List.set_cons_succ]
        refine take_val (i := 1) (.slice (some ⟨b7, o7 + i * 6, none⟩) 1 (cap - i)) rfl (by kernel_rfl) (by kernel_rfl) (by kernel_rfl) (fun _ _ _ h => h) (by rfl) (fun w hSw => by go_simp) hHeld ?_
        simp only [Act.put, List.setIfInBounds_toArray, List.set_cons_zero, List.set_cons_succ]
        refine take_val (i := 3) (.agg #[.slice akp aks.length akc, .slice arp ars.length arc]) rfl (by kernel_rfl) (by kernel_rfl) (by kernel_rfl) (fun _ _ _ h => h) (by rfl) (fun w hSw => by go_simp) hHeld ?_
        simp only [Act.put, List.setIfInBounds_toArray, List.set_cons_zero, List.set_cons_succ]
        refine take_val (i := 4) (.slice (some ⟨b7, o7 + i * 6, none⟩) 1 (cap - i)) rfl (by kernel_rfl) (by kernel_rfl) (by kernel_rfl) (fun _ _ _ h => h) (by rfl) (fun w hSw => by go_simp) hHeld ?_
        simp only [Act.put, List.setIfInBounds_toArray, List.set_cons_zero, List.set_cons_succ]
        clear hHeld
        refine wpAnyH_ready (rs := [2]) (by kernel_rfl) (by simp) ?_
        refine AllReadyH.cons (at_drop0 rfl) (fun K hK => ?_) AllReadyH.nil
        rw [if_pos (by rfl)]
        go_simp
        refine (HQU.out wr.drew (bel_drewN HI.out 1)).mono ?_
        rintro e x1 ⟨rfl, hb1⟩
        have HX1 : Hid (Below W3.heap.size W3 x1) := bel_then (bel_drewN HI.out 1) (bel_drewN HI.out 1).size hb1
        clear hb1
        go_wp2_with fail
        refine hK.out _ _ ((HS8.out x1 HX1.out)) (fun hHeld => ?_)
        clear hK K
        try simp only [Act.put, List.setIfInBounds_toArray, List.set_cons_zero, List.set_cons_succ]
        clear hHeld
        refine wpAnyH_ready (rs := [5]) (by kernel_rfl) (by simp) ?_
        refine AllReadyH.cons (at_drop0 rfl) (fun K hK => ?_) AllReadyH.nil
        rw [if_pos (by rfl)]
        go_simp
        refine (HQA.out x1 HX1.out).mono ?_
        rintro e x2 ⟨rfl, hb2⟩
        have HX2 : Hid (Below W3.heap.size W3 x2) := bel_then HX1.out HX1.out.size hb2
        clear hb2 HX1
        cases BA with
        | true =>
          obtain rfl : BU = true := hbu
          try clear hbu
          go_wp2_with fail
          refine hK.out _ _ ((HS8.out x2 HX2.out)) (fun hHeld => ?_)
          clear hK K
          try simp only [Act.put, List.setIfInBounds_toArray, List.set_cons_zero, List.set_cons_succ]
          refine take_val (i := 6) (.bool true) rfl (by kernel_rfl) (by kernel_rfl) (by kernel_rfl) (fun _ _ _ h => h) (by rfl) (fun w hSw => by go_simp) hHeld ?_
          simp only [Act.put, List.setIfInBounds_toArray, List.set_cons_zero, List.set_cons_succ]
          refine take_not (i := 7) rfl (by kernel_rfl) (by kernel_rfl) (by kernel_rfl) (fun _ _ _ h => h) (by rfl) hHeld ?_
          simp only [Act.put, List.setIfInBounds_toArray, List.set_cons_zero, List.set_cons_succ]
          refine take_not (i := 8) rfl (by kernel_rfl) (by kernel_rfl) (by kernel_rfl) (fun _ _ _ h => h) (by rfl) hHeld ?_
          simp only [Act.put, List.setIfInBounds_toArray, List.set_cons_zero, List.set_cons_succ]
          refine take_not (i := 9) rfl (by kernel_rfl) (by kernel_rfl) (by kernel_rfl) (fun _ _ _ h => h) (by rfl) hHeld ?_
          simp only [Act.put, List.setIfInBounds_toArray, List.set_cons_zero, List.set_cons_succ]
          refine take_val (i := 10) (.bool true) rfl (by kernel_rfl) (by kernel_rfl) (by kernel_rfl) (fun _ _ _ h => h) (by rfl) (fun w hSw => by go_simp) hHeld ?_
          simp only [Act.put, List.setIfInBounds_toArray, List.set_cons_zero, List.set_cons_succ]
          have hg11 : (true != true) = false := by first | rfl | (cases true <;> rfl)
          refine take_val (i := 11) (.bool false) rfl (by kernel_rfl) (by kernel_rfl) (by kernel_rfl) (fun _ _ _ h => h) (by rfl) (fun w hSw => by go_simp) hHeld ?_
          simp only [Act.put, List.setIfInBounds_toArray, List.set_cons_zero, List.set_cons_succ]
          refine take_val (i := 12) (.bool false) rfl (by kernel_rfl) (by kernel_rfl) (by kernel_rfl) (fun _ _ _ h => h) (by rfl) (fun w hSw => by go_simp) hHeld ?_
          simp only [Act.put, List.setIfInBounds_toArray, List.set_cons_zero, List.set_cons_succ]
          refine take_val (i := 13) (.agg #[.slice akp aks.length akc, .slice arp ars.length arc]) rfl (by kernel_rfl) (by kernel_rfl) (by kernel_rfl) (fun _ _ _ h => h) (by rfl) (fun w hSw => by go_simp) hHeld ?_
          simp only [Act.put, List.setIfInBounds_toArray, List.set_cons_zero, List.set_cons_succ]
          refine take_val (i := 14) (.slice (some ⟨b7, o7, none⟩) l.length cap) rfl (by kernel_rfl) (by kernel_rfl) (by kernel_rfl) (fun _ _ _ h => h) (by rfl) (fun w hSw => by go_simp) hHeld ?_
          simp only [Act.put, List.setIfInBounds_toArray, List.set_cons_zero, List.set_cons_succ]
          refine take_val (i := 15) (.int .i64 i) rfl (by kernel_rfl) (by kernel_rfl) (by kernel_rfl) (fun _ _ _ h => h) (by rfl) (fun w hSw => by go_simp) hHeld ?_
          simp only [Act.put, List.setIfInBounds_toArray, List.set_cons_zero, List.set_cons_succ]
          refine take_val (i := 16) (.pointer (some ⟨b7, o7 + i * 6, none⟩)) rfl (by kernel_rfl) (by kernel_rfl) (by kernel_rfl) (fun _ _ _ h => h) (by rfl) (fun w hSw => by go_simp) hHeld ?_
          simp only [Act.put, List.setIfInBounds_toArray, List.set_cons_zero, List.set_cons_succ]
          refine take_val (i := 17) (.pointer (some ⟨b7, o7 + i * 6, none⟩)) rfl (by kernel_rfl) (by kernel_rfl) (by kernel_rfl) (fun _ _ _ h => h) (by rfl) (fun w hSw => by go_simp) hHeld ?_
          simp only [Act.put, List.setIfInBounds_toArray, List.set_cons_zero, List.set_cons_succ]
          refine take_val (i := 18) (.agg #[.string c.a, .string c.b]) rfl (by kernel_rfl) (by kernel_rfl) (by kernel_rfl) (fun _ _ _ h => h) (by rfl) (fun w hSw => by go_simp) hHeld ?_
          simp only [Act.put, List.setIfInBounds_toArray, List.set_cons_zero, List.set_cons_succ]
          refine take_val (i := 20) (.slice (some ⟨b7, o7 + i * 6, none⟩) 1 (cap - i)) rfl (by kernel_rfl) (by kernel_rfl) (by kernel_rfl) (fun _ _ _ h => h) (by rfl) (fun w hSw => by go_simp) hHeld ?_
          simp only [Act.put, List.setIfInBounds_toArray, List.set_cons_zero, List.set_cons_succ]
          clear hHeld hg11
          refine wpAnyH_ready (rs := [19]) (by kernel_rfl) (by simp) ?_
          refine AllReadyH.cons (at_drop0 rfl) (fun K hK => ?_) AllReadyH.nil
          rw [if_pos (by rfl)]
          go_simp
          refine (HQK.out x2 HX2.out).mono ?_
          rintro e x3 ⟨mk3, rfl, ho3, hk3, hb3⟩
          have H21 := hid (HQM.out x2 x3 mk3 HX2.out ho3 hk3 hb3)
          have HX3 : Hid (Below W3.heap.size W3 x3) := bel_then HX2.out HX2.out.size hb3
          clear ho3 hk3 hb3
          obtain ⟨gkp, gkc, gks, grp, grc, grs⟩ := mk3
          simp only [encMx, Mx.ksl, Mx.rsl] at H21 ⊢
          go_wp2_with fail
          refine hK.out _ _ ((HS8.out x3 HX3.out)) (fun hHeld => ?_)
          clear hK K
          try simp only [Act.put, List.setIfInBounds_toArray, List.set_cons_zero, List.set_cons_succ]
          clear hHeld
          refine wpAnyH_ready (rs := [21]) (by kernel_rfl) (by simp) ?_
          refine AllReadyH.cons (at_drop0 rfl) (fun K hK => ?_) AllReadyH.nil
          rw [if_pos (by rfl)]
          go_simp
          refine H21.out.mono ?_
          rintro e x4 ⟨rfl, hb4⟩
          have HX4 : Hid (Below W3.heap.size W3 x4) := bel_then HX3.out HX3.out.size hb4
          clear hb4 H21 HX3
          go_wp2_with fail
          refine hK.out _ _ ((HS8.out x4 HX4.out)) (fun hHeld => ?_)
          clear hK K
          try simp only [Act.put, List.setIfInBounds_toArray, List.set_cons_zero, List.set_cons_succ]
          refine take_val (i := 22) (.bool false) rfl (by kernel_rfl) (by kernel_rfl) (by kernel_rfl) (fun _ _ _ h => h) (by rfl) (fun w hSw => by go_simp) hHeld ?_
          simp only [Act.put, List.setIfInBounds_toArray, List.set_cons_zero, List.set_cons_succ]
          refine take_val (i := 23) (.bool false) rfl (by kernel_rfl) (by kernel_rfl) (by kernel_rfl) (fun _ _ _ h => h) (by rfl) (fun w hSw => by go_simp) hHeld ?_
          simp only [Act.put, List.setIfInBounds_toArray, List.set_cons_zero, List.set_cons_succ]
          refine wpAnyH_done (by kernel_rfl) ?_ _
          clear hHeld
          go_wp2_with fail
          go_meet
          case rel => exact ⟨rfl, HX4.out⟩
        | false =>
          obtain rfl : BU = BB' := hbu
          go_wp2_with fail
          refine hK.out _ _ ((HS8.out x2 HX2.out)) (fun hHeld => ?_)
          clear hK K
          try simp only [Act.put, List.setIfInBounds_toArray, List.set_cons_zero, List.set_cons_succ]
          refine take_val (i := 6) (.bool false) rfl (by kernel_rfl) (by kernel_rfl) (by kernel_rfl) (fun _ _ _ h => h) (by rfl) (fun w hSw => by go_simp) hHeld ?_
          simp only [Act.put, List.setIfInBounds_toArray, List.set_cons_zero, List.set_cons_succ]
          refine take_val (i := 7) (.agg #[.slice bkp bks.length bkc, .slice brp brs.length brc]) rfl (by kernel_rfl) (by kernel_rfl) (by kernel_rfl) (fun _ _ _ h => h) (by rfl) (fun w hSw => by go_simp) hHeld ?_
          simp only [Act.put, List.setIfInBounds_toArray, List.set_cons_zero, List.set_cons_succ]
          refine take_val (i := 8) (.slice (some ⟨b7, o7 + i * 6, none⟩) 1 (cap - i)) rfl (by kernel_rfl) (by kernel_rfl) (by kernel_rfl) (fun _ _ _ h => h) (by rfl) (fun w hSw => by go_simp) hHeld ?_
          simp only [Act.put, List.setIfInBounds_toArray, List.set_cons_zero, List.set_cons_succ]
          clear hHeld
          refine wpAnyH_ready (rs := [9]) (by kernel_rfl) (by simp) ?_
          refine AllReadyH.cons (at_drop0 rfl) (fun K hK => ?_) AllReadyH.nil
          rw [if_pos (by rfl)]
          go_simp
          refine (HQB.out x2 HX2.out).mono ?_
          rintro e wz ⟨rfl, hbz⟩
          have HBZ : Hid (Below W3.heap.size W3 wz) := bel_then HX2.out HX2.out.size hbz
          clear hbz HX2
          go_wp2_with fail
          refine hK.out _ _ ((HS8.out wz HBZ.out)) (fun hHeld => ?_)
          clear hK K
          try simp only [Act.put, List.setIfInBounds_toArray, List.set_cons_zero, List.set_cons_succ]
          refine take_val (i := 10) (.bool BU) rfl (by kernel_rfl) (by kernel_rfl) (by kernel_rfl) (fun _ _ _ h => h) (by rfl) (fun w hSw => by go_simp) hHeld ?_
          simp only [Act.put, List.setIfInBounds_toArray, List.set_cons_zero, List.set_cons_succ]
          have hg11 : (BU != BU) = false := by first | rfl | (cases BU <;> rfl)
          refine take_val (i := 11) (.bool false) rfl (by kernel_rfl) (by kernel_rfl) (by kernel_rfl) (fun _ _ _ h => h) (by rfl) (fun w hSw => by go_simp) hHeld ?_
          simp only [Act.put, List.setIfInBounds_toArray, List.set_cons_zero, List.set_cons_succ]
          refine take_val (i := 12) (.bool false) rfl (by kernel_rfl) (by kernel_rfl) (by kernel_rfl) (fun _ _ _ h => h) (by rfl) (fun w hSw => by go_simp) hHeld ?_
          simp only [Act.put, List.setIfInBounds_toArray, List.set_cons_zero, List.set_cons_succ]
          refine take_val (i := 13) (.agg #[.slice akp aks.length akc, .slice arp ars.length arc]) rfl (by kernel_rfl) (by kernel_rfl) (by kernel_rfl) (fun _ _ _ h => h) (by rfl) (fun w hSw => by go_simp) hHeld ?_
          simp only [Act.put, List.setIfInBounds_toArray, List.set_cons_zero, List.set_cons_succ]
          refine take_val (i := 14) (.slice (some ⟨b7, o7, none⟩) l.length cap) rfl (by kernel_rfl) (by kernel_rfl) (by kernel_rfl) (fun _ _ _ h => h) (by rfl) (fun w hSw => by go_simp) hHeld ?_
          simp only [Act.put, List.setIfInBounds_toArray, List.set_cons_zero, List.set_cons_succ]
          refine take_val (i := 15) (.int .i64 i) rfl (by kernel_rfl) (by kernel_rfl) (by kernel_rfl) (fun _ _ _ h => h) (by rfl) (fun w hSw => by go_simp) hHeld ?_
          simp only [Act.put, List.setIfInBounds_toArray, List.set_cons_zero, List.set_cons_succ]
          refine take_val (i := 16) (.pointer (some ⟨b7, o7 + i * 6, none⟩)) rfl (by kernel_rfl) (by kernel_rfl) (by kernel_rfl) (fun _ _ _ h => h) (by rfl) (fun w hSw => by go_simp) hHeld ?_
          simp only [Act.put, List.setIfInBounds_toArray, List.set_cons_zero, List.set_cons_succ]
          refine take_val (i := 17) (.pointer (some ⟨b7, o7 + i * 6, none⟩)) rfl (by kernel_rfl) (by kernel_rfl) (by kernel_rfl) (fun _ _ _ h => h) (by rfl) (fun w hSw => by go_simp) hHeld ?_
          simp only [Act.put, List.setIfInBounds_toArray, List.set_cons_zero, List.set_cons_succ]
          refine take_val (i := 18) (.agg #[.string c.a, .string c.b]) rfl (by kernel_rfl) (by kernel_rfl) (by kernel_rfl) (fun _ _ _ h => h) (by rfl) (fun w hSw => by go_simp) hHeld ?_
          simp only [Act.put, List.setIfInBounds_toArray, List.set_cons_zero, List.set_cons_succ]
          refine take_val (i := 20) (.slice (some ⟨b7, o7 + i * 6, none⟩) 1 (cap - i)) rfl (by kernel_rfl) (by kernel_rfl) (by kernel_rfl) (fun _ _ _ h => h) (by rfl) (fun w hSw => by go_simp) hHeld ?_
          simp only [Act.put, List.setIfInBounds_toArray, List.set_cons_zero, List.set_cons_succ]
          clear hHeld hg11
          refine wpAnyH_ready (rs := [19]) (by kernel_rfl) (by simp) ?_
          refine AllReadyH.cons (at_drop0 rfl) (fun K hK => ?_) AllReadyH.nil
          rw [if_pos (by rfl)]
          go_simp
          refine (HQK.out wz HBZ.out).mono ?_
          rintro e x3 ⟨mk3, rfl, ho3, hk3, hb3⟩
          have H21 := hid (HQM.out wz x3 mk3 HBZ.out ho3 hk3 hb3)
          have HX3 : Hid (Below W3.heap.size W3 x3) := bel_then HBZ.out HBZ.out.size hb3
          clear ho3 hk3 hb3
          obtain ⟨gkp, gkc, gks, grp, grc, grs⟩ := mk3
          simp only [encMx, Mx.ksl, Mx.rsl] at H21 ⊢
          go_wp2_with fail
          refine hK.out _ _ ((HS8.out x3 HX3.out)) (fun hHeld => ?_)
          clear hK K
          try simp only [Act.put, List.setIfInBounds_toArray, List.set_cons_zero, List.set_cons_succ]
          clear hHeld
          refine wpAnyH_ready (rs := [21]) (by kernel_rfl) (by simp) ?_
          refine AllReadyH.cons (at_drop0 rfl) (fun K hK => ?_) AllReadyH.nil
          rw [if_pos (by rfl)]
          go_simp
          refine H21.out.mono ?_
          rintro e x4 ⟨rfl, hb4⟩
          have HX4 : Hid (Below W3.heap.size W3 x4) := bel_then HX3.out HX3.out.size hb4
          clear hb4 H21 HX3
          go_wp2_with fail
          refine hK.out _ _ ((HS8.out x4 HX4.out)) (fun hHeld => ?_)
          clear hK K
          try simp only [Act.put, List.setIfInBounds_toArray, List.set_cons_zero, List.set_cons_succ]
          refine take_val (i := 22) (.bool false) rfl (by kernel_rfl) (by kernel_rfl) (by kernel_rfl) (fun _ _ _ h => h) (by rfl) (fun w hSw => by go_simp) hHeld ?_
          simp only [Act.put, List.setIfInBounds_toArray, List.set_cons_zero, List.set_cons_succ]
          refine take_val (i := 23) (.bool false) rfl (by kernel_rfl) (by kernel_rfl) (by kernel_rfl) (fun _ _ _ h => h) (by rfl) (fun w hSw => by go_simp) hHeld ?_
          simp only [Act.put, List.setIfInBounds_toArray, List.set_cons_zero, List.set_cons_succ]
          refine wpAnyH_done (by kernel_rfl) ?_ _
          clear hHeld
          go_wp2_with fail
          go_meet
          case rel => exact ⟨rfl, HX4.out⟩
      case rest =>
        obtain ⟨rfl, HWC⟩ := hcut
        clear HQU HQA HQB HQK HQM HI hbu
        have j1 : (i : Int) ≤ (cap : Int) := by omega
        have j2 : (i : Int) - 0 = (i : Int) := by omega
        go_upto_region 10 with fail
        go_cut [59] from 25 to 60 (fun v wx => v = .bool false ∧ Hid (Below W3.heap.size W3 wx))
        case first =>
          refine wp_region_held_drew (S := fun W => W.cell? ⟨M, 0, none⟩ = some (.slice akp aks.length akc) ∧ W.cell? ⟨M, 1, none⟩ = some (.slice arp ars.length arc) ∧ W.cell? ⟨M + 1, 0, none⟩ = some (.slice bkp bks.length bkc) ∧ W.cell? ⟨M + 1, 1, none⟩ = some (.slice brp brs.length brc) ∧ W.cell? ⟨U, 0, none⟩ = some (.slice ukp uks.length ukc) ∧ W.cell? ⟨U, 1, none⟩ = some (.slice urp urs.length urc) ∧ W.cell? ⟨b7, o7 + i * 6, none⟩ = some (.string c.a) ∧ W.cell? ⟨b7, o7 + i * 6 + 1, none⟩ = some (.string c.b)) (by kernel_rfl) (HS8.out wc.drew (bel_drewN HWC.out 1)) (fun hHeld => ?_)
          refine take_val (i := 0) (.agg #[.slice akp aks.length akc, .slice arp ars.length arc]) rfl (by kernel_rfl) (by kernel_rfl) (by kernel_rfl) (fun _ _ _ h => h) (by rfl) (fun w hSw => by go_simp) hHeld ?_
          simp only [Act.put, List.setIfInBounds_toArray, List.set_cons_zero, List.set_cons_succ]
          refine take_val (i := 1) (.slice (some ⟨b7, o7, none⟩) l.length cap) rfl (by kernel_rfl) (by kernel_rfl) (by kernel_rfl) (fun _ _ _ h => h) (by rfl) (fun w hSw => by go_simp) hHeld ?_
          simp only [Act.put, List.setIfInBounds_toArray, List.set_cons_zero, List.set_cons_succ]
          refine take_val (i := 2) (.int .i64 i) rfl (by kernel_rfl) (by kernel_rfl) (by kernel_rfl) (fun _ _ _ h => h) (by rfl) (fun w hSw => by go_simp) hHeld ?_
          simp only [Act.put, List.setIfInBounds_toArray, List.set_cons_zero, List.set_cons_succ]
          refine take_val (i := 3) (.slice (some ⟨b7, o7, none⟩) i cap) rfl (by kernel_rfl) (by kernel_rfl) (by kernel_rfl) (fun _ _ _ h => h) (by rfl) (fun w hSw => by go_simp) hHeld ?_
          simp only [Act.put, List.setIfInBounds_toArray, List.set_cons_zero, List.set_cons_succ]
          clear hHeld
          refine wpAnyH_ready (rs := [4]) (by kernel_rfl) (by simp) ?_
          refine AllReadyH.cons (at_drop0 rfl) (fun K hK => ?_) AllReadyH.nil
          rw [if_pos (by rfl)]
          go_simp
          refine (HQF.out wc.drew (bel_drewN HWC.out 1)).mono ?_
          rintro e x1 ⟨rfl, hb1⟩
          have HX1 : Hid (Below W3.heap.size W3 x1) := bel_then (bel_drewN HWC.out 1) (bel_drewN HWC.out 1).size hb1
          clear hb1
          cases BF with
          | false =>
            go_wp2_with fail
            refine hK.out _ _ ((HS8.out x1 HX1.out)) (fun hHeld => ?_)
            clear hK K
            try simp only [Act.put, List.setIfInBounds_toArray, List.set_cons_zero, List.set_cons_succ]
            refine take_val (i := 5) (.bool false) rfl (by kernel_rfl) (by kernel_rfl) (by kernel_rfl) (fun _ _ _ h => h) (by rfl) (fun w hSw => by go_simp) hHeld ?_
            simp only [Act.put, List.setIfInBounds_toArray, List.set_cons_zero, List.set_cons_succ]
            refine take_not (i := 6) rfl (by kernel_rfl) (by kernel_rfl) (by kernel_rfl) (fun _ _ _ h => h) (by rfl) hHeld ?_
            simp only [Act.put, List.setIfInBounds_toArray, List.set_cons_zero, List.set_cons_succ]
            refine take_not (i := 7) rfl (by kernel_rfl) (by kernel_rfl) (by kernel_rfl) (fun _ _ _ h => h) (by rfl) hHeld ?_
            simp only [Act.put, List.setIfInBounds_toArray, List.set_cons_zero, List.set_cons_succ]
            refine take_not (i := 8) rfl (by kernel_rfl) (by kernel_rfl) (by kernel_rfl) (fun _ _ _ h => h) (by rfl) hHeld ?_
            simp only [Act.put, List.setIfInBounds_toArray, List.set_cons_zero, List.set_cons_succ]
            refine take_not (i := 9) rfl (by kernel_rfl) (by kernel_rfl) (by kernel_rfl) (fun _ _ _ h => h) (by rfl) hHeld ?_
            simp only [Act.put, List.setIfInBounds_toArray, List.set_cons_zero, List.set_cons_succ]
            refine take_val (i := 10) (.bool false) rfl (by kernel_rfl) (by kernel_rfl) (by kernel_rfl) (fun _ _ _ h => h) (by rfl) (fun w hSw => by go_simp) hHeld ?_
            simp only [Act.put, List.setIfInBounds_toArray, List.set_cons_zero, List.set_cons_succ]
            refine wpAnyH_done (by kernel_rfl) ?_ _
            clear hHeld
            go_wp2_with fail
            go_meet
            case rel => exact ⟨rfl, HX1.out⟩
          | true =>
            obtain rfl : BL = true := HML.out rfl
            go_wp2_with fail
            refine hK.out _ _ ((HS8.out x1 HX1.out)) (fun hHeld => ?_)
            clear hK K
            try simp only [Act.put, List.setIfInBounds_toArray, List.set_cons_zero, List.set_cons_succ]
            refine take_val (i := 5) (.bool true) rfl (by kernel_rfl) (by kernel_rfl) (by kernel_rfl) (fun _ _ _ h => h) (by rfl) (fun w hSw => by go_simp) hHeld ?_
            simp only [Act.put, List.setIfInBounds_toArray, List.set_cons_zero, List.set_cons_succ]
            refine take_val (i := 6) (.agg #[.slice akp aks.length akc, .slice arp ars.length arc]) rfl (by kernel_rfl) (by kernel_rfl) (by kernel_rfl) (fun _ _ _ h => h) (by rfl) (fun w hSw => by go_simp) hHeld ?_
            simp only [Act.put, List.setIfInBounds_toArray, List.set_cons_zero, List.set_cons_succ]
            refine take_val (i := 7) (.slice (some ⟨b7, o7, none⟩) l.length cap) rfl (by kernel_rfl) (by kernel_rfl) (by kernel_rfl) (fun _ _ _ h => h) (by rfl) (fun w hSw => by go_simp) hHeld ?_
            simp only [Act.put, List.setIfInBounds_toArray, List.set_cons_zero, List.set_cons_succ]
            clear hHeld
            refine wpAnyH_ready (rs := [8]) (by kernel_rfl) (by simp) ?_
            refine AllReadyH.cons (at_drop0 rfl) (fun K hK => ?_) AllReadyH.nil
            rw [if_pos (by rfl)]
            go_simp
            refine (HQL.out x1 HX1.out).mono ?_
            rintro e x2 ⟨rfl, hb2⟩
            have HX2 : Hid (Below W3.heap.size W3 x2) := bel_then HX1.out HX1.out.size hb2
            clear hb2
            go_wp2_with fail
            refine hK.out _ _ ((HS8.out x2 HX2.out)) (fun hHeld => ?_)
            clear hK K
            try simp only [Act.put, List.setIfInBounds_toArray, List.set_cons_zero, List.set_cons_succ]
            refine take_val (i := 9) (.bool false) rfl (by kernel_rfl) (by kernel_rfl) (by kernel_rfl) (fun _ _ _ h => h) (by rfl) (fun w hSw => by go_simp) hHeld ?_
            simp only [Act.put, List.setIfInBounds_toArray, List.set_cons_zero, List.set_cons_succ]
            refine take_val (i := 10) (.bool false) rfl (by kernel_rfl) (by kernel_rfl) (by kernel_rfl) (fun _ _ _ h => h) (by rfl) (fun w hSw => by go_simp) hHeld ?_
            simp only [Act.put, List.setIfInBounds_toArray, List.set_cons_zero, List.set_cons_succ]
            refine wpAnyH_done (by kernel_rfl) ?_ _
            clear hHeld
            go_wp2_with fail
            go_meet
            case rel => exact ⟨rfl, HX2.out⟩
        case rest =>
          obtain ⟨rfl, HWD⟩ := hcut
          clear HQF HQL HML HWC
          go_wp2_with fail
          go_roundg (l.length - (i + 1))
          case measure => omega
          exact ⟨i + 1, by go_num, by omega, by omega, HWD.out⟩
    · have hltz : ¬ (i : Int) < (l.length : Int) := by omega
      obtain ⟨BU, hBU⟩ : ∃ x, hitsM (unionM mka mkb) (l.map Cx.ch) = x := ⟨_, rfl⟩
      obtain ⟨BA, hBA⟩ : ∃ x, hitsM mka (l.map Cx.ch) = x := ⟨_, rfl⟩
      obtain ⟨BB', hBB⟩ : ∃ x, hitsM mkb (l.map Cx.ch) = x := ⟨_, rfl⟩
      have hbu : BU = (BA || BB') := by rw [← hBU, ← hBA, ← hBB]; exact hits_union mka mkb _
      have HQU : Hid (∀ W', Below W3.heap.size W3 W' → Calls Try.prog 19 #[.agg #[.slice ukp uks.length ukc, .slice urp urs.length urc], .slice p l.length cap] W' fun e w' => BoolPost W' BU e w') := fun W' hW => by
        have := HCU.out W' _ _ hW (HCL.out W' hW) hl
        rwa [hBU] at this
      have HQA : Hid (∀ W', Below W3.heap.size W3 W' → Calls Try.prog 19 #[.agg #[.slice akp aks.length akc, .slice arp ars.length arc], .slice p l.length cap] W' fun e w' => BoolPost W' BA e w') := fun W' hW => by
        have := HCA.out W' _ _ hW (HCL.out W' hW) hl
        rwa [hBA] at this
      have HQB : Hid (∀ W', Below W3.heap.size W3 W' → Calls Try.prog 19 #[.agg #[.slice bkp bks.length bkc, .slice brp brs.length brc], .slice p l.length cap] W' fun e w' => BoolPost W' BB' e w') := fun W' hW => by
        have := HCB.out W' _ _ hW (HCL.out W' hW) hl
        rwa [hBB] at this
      have HQE : Hid (∀ W', Below W3.heap.size W3 W' → Calls Try.prog 19 #[.agg #[.slice none 0 0, .slice none 0 0], .slice p l.length cap] W' fun e w' => BoolPost W' false e w') := fun W' hW => by
        have := HHI.out W' ⟨none, 0, [], none, 0, []⟩ _ _ (HIU.out W' hW).1 ⟨KK.is_nil W', KRx.is_nil W', fun r hr => by cases hr⟩ ⟨by decide, by decide⟩ (HCL.out W' hW) hl
        rwa [show hitsM (⟨none, 0, [], none, 0, []⟩ : Mx).mk' (l.map Cx.ch) = false from hits_none _] at this
      clear hBU hBA hBB HCU HCA HCB HCL HHI
      go_upto_region 13 with fail
      refine wp_region_held_drew (S := fun W => W.cell? ⟨M, 0, none⟩ = some (.slice akp aks.length akc) ∧ W.cell? ⟨M, 1, none⟩ = some (.slice arp ars.length arc) ∧ W.cell? ⟨M + 1, 0, none⟩ = some (.slice bkp bks.length bkc) ∧ W.cell? ⟨M + 1, 1, none⟩ = some (.slice brp brs.length brc) ∧ W.cell? ⟨U, 0, none⟩ = some (.slice ukp uks.length ukc) ∧ W.cell? ⟨U, 1, none⟩ = some (.slice urp urs.length urc)) (by kernel_rfl) (HCE.out wr.drew (bel_drewN HI.out 1)) (fun hHeld => ?_)
      refine take_val (i := 0) (.agg #[.slice ukp uks.length ukc, .slice urp urs.length urc]) rfl (by kernel_rfl) (by kernel_rfl) (by kernel_rfl) (fun _ _ _ h => h) (by rfl) (fun w hSw => by go_simp) hHeld ?_
      simp only [Act.put, List.setIfInBounds_toArray, List.set_cons_zero, List.set_cons_succ]
      refine take_val (i := 1) (.slice p l.length cap) rfl (by kernel_rfl) (by kernel_rfl) (by kernel_rfl) (fun _ _ _ h => h) (by rfl) (fun w hSw => by go_simp) hHeld ?_
      simp only [Act.put, List.setIfInBounds_toArray, List.set_cons_zero, List.set_cons_succ]
      refine take_val (i := 3) (.agg #[.slice akp aks.length akc, .slice arp ars.length arc]) rfl (by kernel_rfl) (by kernel_rfl) (by kernel_rfl) (fun _ _ _ h => h) (by rfl) (fun w hSw => by go_simp) hHeld ?_
      simp only [Act.put, List.setIfInBounds_toArray, List.set_cons_zero, List.set_cons_succ]
      refine take_val (i := 4) (.slice p l.length cap) rfl (by kernel_rfl) (by kernel_rfl) (by kernel_rfl) (fun _ _ _ h => h) (by rfl) (fun w hSw => by go_simp) hHeld ?_
      simp only [Act.put, List.setIfInBounds_toArray, List.set_cons_zero, List.set_cons_succ]
      clear hHeld
      refine wpAnyH_ready (rs := [2]) (by kernel_rfl) (by simp) ?_
      refine AllReadyH.cons (at_drop0 rfl) (fun K hK => ?_) AllReadyH.nil
      rw [if_pos (by rfl)]
      go_simp
      refine (HQU.out wr.drew (bel_drewN HI.out 1)).mono ?_
      rintro e x1 ⟨rfl, hb1⟩
      have HX1 : Hid (Below W3.heap.size W3 x1) := bel_then (bel_drewN HI.out 1) (bel_drewN HI.out 1).size hb1
      clear hb1
      go_wp2_with fail
      refine hK.out _ _ ((HCE.out x1 HX1.out)) (fun hHeld => ?_)
      clear hK K
      try simp only [Act.put, List.setIfInBounds_toArray, List.set_cons_zero, List.set_cons_succ]
      clear hHeld
      refine wpAnyH_ready (rs := [5]) (by kernel_rfl) (by simp) ?_
      refine AllReadyH.cons (at_drop0 rfl) (fun K hK => ?_) AllReadyH.nil
      rw [if_pos (by rfl)]
      go_simp
      refine (HQA.out x1 HX1.out).mono ?_
      rintro e x2 ⟨rfl, hb2⟩
      have HX2 : Hid (Below W3.heap.size W3 x2) := bel_then HX1.out HX1.out.size hb2
      clear hb2 HX1
      cases BA with
      | true =>
        obtain rfl : BU = true := hbu
        try clear hbu
        go_wp2_with fail
        refine hK.out _ _ ((HCE.out x2 HX2.out)) (fun hHeld => ?_)
        clear hK K
        try simp only [Act.put, List.setIfInBounds_toArray, List.set_cons_zero, List.set_cons_succ]
        refine take_val (i := 6) (.bool true) rfl (by kernel_rfl) (by kernel_rfl) (by kernel_rfl) (fun _ _ _ h => h) (by rfl) (fun w hSw => by go_simp) hHeld ?_
        simp only [Act.put, List.setIfInBounds_toArray, List.set_cons_zero, List.set_cons_succ]
        refine take_not (i := 7) rfl (by kernel_rfl) (by kernel_rfl) (by kernel_rfl) (fun _ _ _ h => h) (by rfl) hHeld ?_
        simp only [Act.put, List.setIfInBounds_toArray, List.set_cons_zero, List.set_cons_succ]
        refine take_not (i := 8) rfl (by kernel_rfl) (by kernel_rfl) (by kernel_rfl) (fun _ _ _ h => h) (by rfl) hHeld ?_
        simp only [Act.put, List.setIfInBounds_toArray, List.set_cons_zero, List.set_cons_succ]
        refine take_not (i := 9) rfl (by kernel_rfl) (by kernel_rfl) (by kernel_rfl) (fun _ _ _ h => h) (by rfl) hHeld ?_
        simp only [Act.put, List.setIfInBounds_toArray, List.set_cons_zero, List.set_cons_succ]
        refine take_val (i := 10) (.bool true) rfl (by kernel_rfl) (by kernel_rfl) (by kernel_rfl) (fun _ _ _ h => h) (by rfl) (fun w hSw => by go_simp) hHeld ?_
        simp only [Act.put, List.setIfInBounds_toArray, List.set_cons_zero, List.set_cons_succ]
        have hg12 : (true == true) = true := by first | rfl | (cases true <;> rfl)
        refine take_val (i := 11) (.bool true) rfl (by kernel_rfl) (by kernel_rfl) (by kernel_rfl) (fun _ _ _ h => h) (by rfl) (fun w hSw => by go_simp) hHeld ?_
        simp only [Act.put, List.setIfInBounds_toArray, List.set_cons_zero, List.set_cons_succ]
        refine take_val (i := 12) (.bool true) rfl (by kernel_rfl) (by kernel_rfl) (by kernel_rfl) (fun _ _ _ h => h) (by rfl) (fun w hSw => by go_simp) hHeld ?_
        simp only [Act.put, List.setIfInBounds_toArray, List.set_cons_zero, List.set_cons_succ]
        refine take_val (i := 13) (.agg #[.slice none 0 0, .slice none 0 0]) rfl (by kernel_rfl) (by kernel_rfl) (by kernel_rfl) (fun _ _ _ h => h) (by rfl) (fun w hSw => by go_simp) hHeld ?_
        simp only [Act.put, List.setIfInBounds_toArray, List.set_cons_zero, List.set_cons_succ]
        refine take_val (i := 14) (.slice p l.length cap) rfl (by kernel_rfl) (by kernel_rfl) (by kernel_rfl) (fun _ _ _ h => h) (by rfl) (fun w hSw => by go_simp) hHeld ?_
        simp only [Act.put, List.setIfInBounds_toArray, List.set_cons_zero, List.set_cons_succ]
        clear hHeld
        refine wpAnyH_ready (rs := [15]) (by kernel_rfl) (by simp) ?_
        refine AllReadyH.cons (at_drop0 rfl) (fun K hK => ?_) AllReadyH.nil
        rw [if_pos (by rfl)]
        go_simp
        refine (HQE.out x2 HX2.out).mono ?_
        rintro e x4 ⟨rfl, hb4⟩
        have HX4 : Hid (Below W3.heap.size W3 x4) := bel_then HX2.out HX2.out.size hb4
        clear hb4
        go_wp2_with fail
        refine hK.out _ _ ((HCE.out x4 HX4.out)) (fun hHeld => ?_)
        clear hK K
        try simp only [Act.put, List.setIfInBounds_toArray, List.set_cons_zero, List.set_cons_succ]
        refine take_val (i := 16) (.bool true) rfl (by kernel_rfl) (by kernel_rfl) (by kernel_rfl) (fun _ _ _ h => h) (by rfl) (fun w hSw => by go_simp) hHeld ?_
        simp only [Act.put, List.setIfInBounds_toArray, List.set_cons_zero, List.set_cons_succ]
        refine take_val (i := 17) (.bool true) rfl (by kernel_rfl) (by kernel_rfl) (by kernel_rfl) (fun _ _ _ h => h) (by rfl) (fun w hSw => by go_simp) hHeld ?_
        simp only [Act.put, List.setIfInBounds_toArray, List.set_cons_zero, List.set_cons_succ]
        refine take_val (i := 18) (.bool true) rfl (by kernel_rfl) (by kernel_rfl) (by kernel_rfl) (fun _ _ _ h => h) (by rfl) (fun w hSw => by go_simp) hHeld ?_
        simp only [Act.put, List.setIfInBounds_toArray, List.set_cons_zero, List.set_cons_succ]
        refine wpAnyH_done (by kernel_rfl) ?_ _
        clear hHeld
        have HE := hid (HBW.out x4 HX4.out)
        go_wp2_with fail
        go_ret
        exact ⟨rfl, HE.out⟩
      | false =>
        obtain rfl : BU = BB' := hbu
        go_wp2_with fail
        refine hK.out _ _ ((HCE.out x2 HX2.out)) (fun hHeld => ?_)
        clear hK K
        try simp only [Act.put, List.setIfInBounds_toArray, List.set_cons_zero, List.set_cons_succ]
        refine take_val (i := 6) (.bool false) rfl (by kernel_rfl) (by kernel_rfl) (by kernel_rfl) (fun _ _ _ h => h) (by rfl) (fun w hSw => by go_simp) hHeld ?_
        simp only [Act.put, List.setIfInBounds_toArray, List.set_cons_zero, List.set_cons_succ]
        refine take_val (i := 7) (.agg #[.slice bkp bks.length bkc, .slice brp brs.length brc]) rfl (by kernel_rfl) (by kernel_rfl) (by kernel_rfl) (fun _ _ _ h => h) (by rfl) (fun w hSw => by go_simp) hHeld ?_
        simp only [Act.put, List.setIfInBounds_toArray, List.set_cons_zero, List.set_cons_succ]
        refine take_val (i := 8) (.slice p l.length cap) rfl (by kernel_rfl) (by kernel_rfl) (by kernel_rfl) (fun _ _ _ h => h) (by rfl) (fun w hSw => by go_simp) hHeld ?_
        simp only [Act.put, List.setIfInBounds_toArray, List.set_cons_zero, List.set_cons_succ]
        clear hHeld
        refine wpAnyH_ready (rs := [9]) (by kernel_rfl) (by simp) ?_
        refine AllReadyH.cons (at_drop0 rfl) (fun K hK => ?_) AllReadyH.nil
        rw [if_pos (by rfl)]
        go_simp
        refine (HQB.out x2 HX2.out).mono ?_
        rintro e wz ⟨rfl, hbz⟩
        have HBZ : Hid (Below W3.heap.size W3 wz) := bel_then HX2.out HX2.out.size hbz
        clear hbz HX2
        go_wp2_with fail
        refine hK.out _ _ ((HCE.out wz HBZ.out)) (fun hHeld => ?_)
        clear hK K
        try simp only [Act.put, List.setIfInBounds_toArray, List.set_cons_zero, List.set_cons_succ]
        refine take_val (i := 10) (.bool BU) rfl (by kernel_rfl) (by kernel_rfl) (by kernel_rfl) (fun _ _ _ h => h) (by rfl) (fun w hSw => by go_simp) hHeld ?_
        simp only [Act.put, List.setIfInBounds_toArray, List.set_cons_zero, List.set_cons_succ]
        have hg12 : (BU == BU) = true := by first | rfl | (cases BU <;> rfl)
        refine take_val (i := 11) (.bool true) rfl (by kernel_rfl) (by kernel_rfl) (by kernel_rfl) (fun _ _ _ h => h) (by rfl) (fun w hSw => by go_simp) hHeld ?_
        simp only [Act.put, List.setIfInBounds_toArray, List.set_cons_zero, List.set_cons_succ]
        refine take_val (i := 12) (.bool true) rfl (by kernel_rfl) (by kernel_rfl) (by kernel_rfl) (fun _ _ _ h => h) (by rfl) (fun w hSw => by go_simp) hHeld ?_
        simp only [Act.put, List.setIfInBounds_toArray, List.set_cons_zero, List.set_cons_succ]
        refine take_val (i := 13) (.agg #[.slice none 0 0, .slice none 0 0]) rfl (by kernel_rfl) (by kernel_rfl) (by kernel_rfl) (fun _ _ _ h => h) (by rfl) (fun w hSw => by go_simp) hHeld ?_
        simp only [Act.put, List.setIfInBounds_toArray, List.set_cons_zero, List.set_cons_succ]
        refine take_val (i := 14) (.slice p l.length cap) rfl (by kernel_rfl) (by kernel_rfl) (by kernel_rfl) (fun _ _ _ h => h) (by rfl) (fun w hSw => by go_simp) hHeld ?_
        simp only [Act.put, List.setIfInBounds_toArray, List.set_cons_zero, List.set_cons_succ]
        clear hHeld
        refine wpAnyH_ready (rs := [15]) (by kernel_rfl) (by simp) ?_
        refine AllReadyH.cons (at_drop0 rfl) (fun K hK => ?_) AllReadyH.nil
        rw [if_pos (by rfl)]
        go_simp
        refine (HQE.out wz HBZ.out).mono ?_
        rintro e x4 ⟨rfl, hb4⟩
        have HX4 : Hid (Below W3.heap.size W3 x4) := bel_then HBZ.out HBZ.out.size hb4
        clear hb4
        go_wp2_with fail
        refine hK.out _ _ ((HCE.out x4 HX4.out)) (fun hHeld => ?_)
        clear hK K
        try simp only [Act.put, List.setIfInBounds_toArray, List.set_cons_zero, List.set_cons_succ]
        refine take_val (i := 16) (.bool true) rfl (by kernel_rfl) (by kernel_rfl) (by kernel_rfl) (fun _ _ _ h => h) (by rfl) (fun w hSw => by go_simp) hHeld ?_
        simp only [Act.put, List.setIfInBounds_toArray, List.set_cons_zero, List.set_cons_succ]
        refine take_val (i := 17) (.bool true) rfl (by kernel_rfl) (by kernel_rfl) (by kernel_rfl) (fun _ _ _ h => h) (by rfl) (fun w hSw => by go_simp) hHeld ?_
        simp only [Act.put, List.setIfInBounds_toArray, List.set_cons_zero, List.set_cons_succ]
        refine take_val (i := 18) (.bool true) rfl (by kernel_rfl) (by kernel_rfl) (by kernel_rfl) (fun _ _ _ h => h) (by rfl) (fun w hSw => by go_simp) hHeld ?_
        simp only [Act.put, List.setIfInBounds_toArray, List.set_cons_zero, List.set_cons_succ]
        refine wpAnyH_done (by kernel_rfl) ?_ _
        clear hHeld
        have HE := hid (HBW.out x4 HX4.out)
        go_wp2_with fail
        go_ret
        exact ⟨rfl, HE.out⟩

end Go.Proofs.Ythdakljoabbghaa

/-
  MarksAdds (stage 12): every Key, Range, Union and Equal, of any marks. (Written by mkmla.py.)
-/
namespace Go.Proofs.Ythdakljoabbghaa
open Go.RowKit
set_option linter.unusedSimpArgs false in
set_option maxHeartbeats 16000000 in
set_option maxRecDepth 100000 in
theorem madds12_any (S : MarksApi) (hF : Fixed12) (a b : Mx) (k : Ky) (w : World) (ha : MIn w a) (hb : MIn w b) (h2 : Few2 a b) (hka : ∀ x ∈ a.ks, FitKy12 x) (hkb : ∀ x ∈ b.ks, FitKy12 x) (hkk : FitKy12 k) :
    Calls Try.prog 3 #[.agg (encMx a).toArray, .agg (encMx b).toArray, .agg #[.string k.1, .string k.2]] w fun e w' => e = .returned (.bool true) ∧ Below w.heap.size w w' := by
  obtain ⟨V, hV⟩ : ∃ V, ((w.alloc (.cells (encMx a).toArray 25)).alloc (.cells (encMx b).toArray 25)).alloc (.cells #[.string k.1, .string k.2] 27) = V := ⟨_, rfl⟩
  obtain ⟨M, hM⟩ : ∃ M, w.heap.size = M := ⟨_, rfl⟩
  obtain ⟨hbV, hba, hbb, hbk, hs⟩ := three_boxes w _ _ _ _ _ _ V hV
  rw [hM] at hba hbb hbk hs
  have fa : FewM a := ⟨by have := h2.1; omega, by have := h2.2; omega⟩
  have fb : FewM b := ⟨by have := h2.1; omega, by have := h2.2; omega⟩
  have HF := hid (hF V)
  have HIN : Hid (∀ W', Below V.heap.size V W' → MIn W' a ∧ MIn W' b ∧ Below w.heap.size w W' ∧ (W'.cell? ⟨M, 0, none⟩ = some a.ksl ∧ W'.cell? ⟨M, 1, none⟩ = some a.rsl ∧ W'.cell? ⟨M + 1, 0, none⟩ = some b.ksl ∧ W'.cell? ⟨M + 1, 1, none⟩ = some b.rsl ∧ W'.cell? ⟨M + 2, 0, none⟩ = some (.string k.1) ∧ W'.cell? ⟨M + 2, 1, none⟩ = some (.string k.2))) := fun W' hW => by
    have hb' : Below w.heap.size w W' := bel_then hbV hbV.size hW
    have e1 := (hW.block M (by omega)).trans hba
    have e2 := (hW.block (M + 1) (by omega)).trans hbb
    have e3 := (hW.block (M + 2) (by omega)).trans hbk
    exact ⟨ha.on hb', hb.on hb', hb', by rw [Lib.cell_of_heap e1]; rfl, by rw [Lib.cell_of_heap e1]; rfl, by rw [Lib.cell_of_heap e2]; rfl, by rw [Lib.cell_of_heap e2]; rfl, by rw [Lib.cell_of_heap e3]; rfl, by rw [Lib.cell_of_heap e3]; rfl⟩
  have HKP : Hid (∀ W', Below V.heap.size V W' → Calls Try.prog 10 #[.agg #[a.ksl, a.rsl], .agg #[.string k.1, .string k.2]] W' fun e w' => MOwnPost W' (keyM a.mk' k) e w') := fun W' hW => S.key W' a k (HIN.out W' hW).1 fa hkk hka
  have HKR : Hid (∀ V1 W', Below V.heap.size V V1 → Below V1.heap.size V1 W' → Calls Try.prog 11 #[.agg #[a.ksl, a.rsl], .agg #[.string k.1, .string k.2]] W' fun e w' => MarkPost (PrV V1) (KrV V1) W' (keyM a.mk' k) e w') := fun V1 W' h1 hW => key12_any (PrV V1) (KrV V1) a k W' (HIN.out W' (bel_then h1 h1.size hW)).1 fa (fun r hr W2 h2 => (HIN.out W2 (bel_then h1 h1.size h2)).1.each r hr)
  have HUP : Hid (∀ W', Below V.heap.size V W' → Calls Try.prog 12 #[.agg #[a.ksl, a.rsl], .agg #[b.ksl, b.rsl]] W' fun e w' => MOwnPost W' (unionM a.mk' b.mk') e w') := fun W' hW => S.union W' a b (HIN.out W' hW).1 (HIN.out W' hW).2.1 fa fb hka hkb
  have HUR : Hid (∀ V1 W', Below V.heap.size V V1 → Below V1.heap.size V1 W' → Calls Try.prog 13 #[.agg #[a.ksl, a.rsl], .agg #[b.ksl, b.rsl]] W' fun e w' => MarkPost (PrV V1) (KrV V1) W' (unionM a.mk' b.mk') e w') := fun V1 W' h1 hW => union12_any (PrV V1) (KrV V1) a b W' (HIN.out W' (bel_then h1 h1.size hW)).1 (HIN.out W' (bel_then h1 h1.size hW)).2.1 fa fb (fun r hr W2 h2 => (HIN.out W2 (bel_then h1 h1.size h2)).1.each r hr) (fun r hr W2 h2 => (HIN.out W2 (bel_then h1 h1.size h2)).2.1.each r hr)
  have HRP : Hid (∀ W' (r : Rx), Below V.heap.size V W' → r.at W' → Calls Try.prog 16 #[.agg #[a.ksl, a.rsl], .string r.typ, r.sl] W' fun e w' => MOwnPost W' (rangeM a.mk' r.rg) e w') := fun W' r hW hr => S.range W' a r (HIN.out W' hW).1 fa hr
  have HRR : Hid (∀ W' (r : Rx), Below V.heap.size V W' → r.at W' → Calls Try.prog 17 #[.agg #[a.ksl, a.rsl], .string r.typ, r.sl] W' fun e w' => MarkPost (fun _ => True) (fun _ _ => True) W' (rangeM a.mk' r.rg) e w') := fun W' r hW hr => range12_any _ _ a r W' (HIN.out W' hW).1 fa hr (fun _ _ => trivial) trivial trivial
  have HQR : Hid (∀ W' m1 m2, MIn W' m1 → MIn W' m2 → FewM m1 → FewM m2 → m1.mk' = m2.mk' → Calls Try.prog 14 #[.agg #[m1.ksl, m1.rsl], .agg #[m2.ksl, m2.rsl]] W' fun e w' => e = .returned (.bool true) ∧ Below W'.heap.size W' w') := fun W' m1 m2 h1 h2 f1 f2 he => by
    have := equal12_any m1 m2 W' h1 h2 f1.len f2.len
    rwa [decide_eq_true he] at this
  obtain ⟨E, hE⟩ : ∃ E, decide (a.mk' = b.mk') = E := ⟨_, rfl⟩
  have HEP : Hid (∀ W', Below V.heap.size V W' → Calls Try.prog 15 #[.agg #[a.ksl, a.rsl], .agg #[b.ksl, b.rsl]] W' fun e w' => BoolPost W' E e w') := fun W' hW => by
    have := S.equal W' a b (HIN.out W' hW).1 (HIN.out W' hW).2.1 fa.len fb.len
    rwa [hE] at this
  have HER : Hid (∀ W', Below V.heap.size V W' → Calls Try.prog 14 #[.agg #[a.ksl, a.rsl], .agg #[b.ksl, b.rsl]] W' fun e w' => e = .returned (.bool E) ∧ Below W'.heap.size W' w') := fun W' hW => by
    have := equal12_any a b W' (HIN.out W' hW).1 (HIN.out W' hW).2.1 fa.len fb.len
    rwa [hE] at this
  have HEA : Hid (∀ W', Below V.heap.size V W' → Calls Try.prog 15 #[.agg #[a.ksl, a.rsl], .agg #[a.ksl, a.rsl]] W' fun e w' => BoolPost W' true e w') := fun W' hW => by
    have := S.equal W' a a (HIN.out W' hW).1 (HIN.out W' hW).1 fa.len fa.len
    rwa [decide_eq_true rfl] at this
  have HFK : Hid (∀ m : Mx, m.mk' = keyM a.mk' k → FewM m) := fun m hm => few_key (by have := h2.1; omega) (by have := h2.2; omega) hm
  have HFU : Hid (∀ m : Mx, m.mk' = unionM a.mk' b.mk' → FewM m) := fun m hm => few_union h2 hm
  have HFR : Hid (∀ (m : Mx) (r : Rg), m.mk' = rangeM a.mk' r → FewM m) := fun m r hm => few_range (by have := h2.1; omega) (by have := h2.2; omega) hm
  have HBR : Hid (∀ W', Below V.heap.size V W' → KRx.Is W' b.rsl b.rs ∧ ∀ r ∈ b.rs, r.at W') := fun W' hW => ⟨(HIN.out W' hW).2.1.rows, (HIN.out W' hW).2.1.each⟩
  have hbl : b.rs.length < 1500000000000 := fb.2
  obtain ⟨_, _, _, a0, a1, b0, b1, k0, k1⟩ := HIN.out V (Below.refl _ _)
  obtain ⟨mka, hmka⟩ : ∃ x, a.mk' = x := ⟨_, rfl⟩
  obtain ⟨mkk, hmkk⟩ : ∃ x, keyM a.mk' k = x := ⟨_, rfl⟩
  obtain ⟨mku, hmku⟩ : ∃ x, unionM a.mk' b.mk' = x := ⟨_, rfl⟩
  rw [hmkk] at HKP HKR HFK
  rw [hmku] at HUP HUR HFU
  rw [hmka] at HRP HRR HFR
  clear ha hb h2 hka hkb hkk hbV hba hbb hbk hs hF fa fb hmka hmkk hmku hE
  obtain ⟨akp, akc, aks, arp, arc, ars⟩ := a
  obtain ⟨bkp, bkc, bks, brp, brc, brs⟩ := b
  obtain ⟨ka, kb⟩ := k
  simp only [encMx, Mx.ksl, Mx.rsl] at *
  go_enter Try.func3, Try.ntmps3
  go_wp2_with fail
  try rw [hV]
  try rw [hM]
  clear hV a0 a1 b0 b1 k0 k1
  refine HF.out.mono ?_
  rintro e w1 ⟨rfl, hb1⟩
  have HCE : Hid (∀ W, Below V.heap.size V W → W.cell? ⟨M, 0, none⟩ = some (.slice akp aks.length akc) ∧ W.cell? ⟨M, 1, none⟩ = some (.slice arp ars.length arc) ∧ W.cell? ⟨M + 1, 0, none⟩ = some (.slice bkp bks.length bkc) ∧ W.cell? ⟨M + 1, 1, none⟩ = some (.slice brp brs.length brc) ∧ W.cell? ⟨M + 2, 0, none⟩ = some (.string ka) ∧ W.cell? ⟨M + 2, 1, none⟩ = some (.string kb)) := fun W hW => (HIN.out W hW).2.2.2
  have HBW0 : Hid (∀ W, Below V.heap.size V W → Below w.heap.size w W) := fun W hW => (HIN.out W hW).2.2.1
  have HB1 := hid hb1
  have HB1d : Hid (∀ W, Below w1.heap.size w1 W → Below V.heap.size V W) := fun W h => bel_then HB1.out HB1.out.size h
  clear hb1 HF HIN
  go_upto_region 3 with fail
  refine wp_region_held_drew (S := fun W => W.cell? ⟨M, 0, none⟩ = some (.slice akp aks.length akc) ∧ W.cell? ⟨M, 1, none⟩ = some (.slice arp ars.length arc) ∧ W.cell? ⟨M + 1, 0, none⟩ = some (.slice bkp bks.length bkc) ∧ W.cell? ⟨M + 1, 1, none⟩ = some (.slice brp brs.length brc) ∧ W.cell? ⟨M + 2, 0, none⟩ = some (.string ka) ∧ W.cell? ⟨M + 2, 1, none⟩ = some (.string kb)) (by kernel_rfl) (HCE.out w1.drew (bel_drewN HB1.out 1)) (fun hHeld => ?_)
  refine take_val (i := 0) (.agg #[.slice akp aks.length akc, .slice arp ars.length arc]) rfl (by kernel_rfl) (by kernel_rfl) (by kernel_rfl) (fun _ _ _ h => h) (by rfl) (fun w hSw => by go_simp) hHeld ?_
  simp only [Act.put, List.setIfInBounds_toArray, List.set_cons_zero, List.set_cons_succ]
  refine take_val (i := 1) (.agg #[.string ka, .string kb]) rfl (by kernel_rfl) (by kernel_rfl) (by kernel_rfl) (fun _ _ _ h => h) (by rfl) (fun w hSw => by go_simp) hHeld ?_
  simp only [Act.put, List.setIfInBounds_toArray, List.set_cons_zero, List.set_cons_succ]
  refine take_val (i := 3) (.agg #[.slice akp aks.length akc, .slice arp ars.length arc]) rfl (by kernel_rfl) (by kernel_rfl) (by kernel_rfl) (fun _ _ _ h => h) (by rfl) (fun w hSw => by go_simp) hHeld ?_
  simp only [Act.put, List.setIfInBounds_toArray, List.set_cons_zero, List.set_cons_succ]
  refine take_val (i := 4) (.agg #[.string ka, .string kb]) rfl (by kernel_rfl) (by kernel_rfl) (by kernel_rfl) (fun _ _ _ h => h) (by rfl) (fun w hSw => by go_simp) hHeld ?_
  simp only [Act.put, List.setIfInBounds_toArray, List.set_cons_zero, List.set_cons_succ]
  clear hHeld
  refine wpAnyH_floats [2, 5, 8, 9] [6, 7] (fun a0 k fl a w' => ∃ v1 v2 u1 u2, a = putS a0 [(17, v1), (20, v2), (7, u1), (8, u2)] ∧ TwoM w1 mkk mkk k fl v1 v2 u1 u2 w') (by kernel_rfl) (by decide) ⟨_, _, _, _, (putS_self _ [17, 20, 7, 8]).symm, two_start _ _ _ _ (bel_drewN (Below.refl _ _) 1)⟩ ?hS ?hmain ?halloc ?hend
  case hS =>
    rintro k fl a w' ⟨v1, v2, u1, u2, _, h⟩
    exact (fun W h => HCE.out W (HB1d.out W h)) w' h.bel
  case hmain =>
    rintro k i fl a w' hk hfl hrd ⟨v1, v2, u1, u2, rfl, hst⟩
    obtain ⟨f1, f2, rfl⟩ : ∃ f1 f2, fl = [f1, f2] := by
      match fl, hfl with
      | [f1, f2], _ => exact ⟨f1, f2, rfl⟩
    rcases k with _ | _ | _ | _ | k
    · obtain rfl : i = 2 := by simpa using hk.symm
      have hbw := hst.bel
      have HC := hid (HKP.out w' (HB1d.out w' hbw))
      have HST := hid hst
      have HBW := hid hbw
      clear hrd hst hbw
      refine ⟨_, at_drop0 rfl, fun K hK => ?_⟩
      simp only [putS, List.foldl_cons, List.foldl_nil, Act.put, List.setIfInBounds_toArray, List.set_cons_zero, List.set_cons_succ]
      rw [if_pos (by rfl)]
      go_simp
      refine HC.out.mono ?_
      rintro e w2 ⟨m2, rfl, ho2, hk2, hb2⟩
      have hG := gmk_own (V := w1) ho2 hk2
      clear ho2 hk2
      have HST2 := hid (two_call1 HST.out hb2 hG (fun _ h => h.elim))
      clear HST hG hb2
      obtain ⟨qkp, qkc, qks, qrp, qrc, qrs⟩ := m2
      simp only [encA, encMx, Mx.ksl, Mx.rsl] at HST2 ⊢
      go_wp2_with fail
      exact hK.out _ _ ⟨_, _, u1, u2, rfl, HST2.out⟩
    · obtain rfl : i = 5 := by simpa using hk.symm
      have hbw := hst.bel
      have HC := hid (HKR.out w1 w' HB1.out hbw)
      have HST := hid hst
      have HBW := hid hbw
      clear hrd hst hbw
      refine ⟨_, at_drop0 rfl, fun K hK => ?_⟩
      simp only [putS, List.foldl_cons, List.foldl_nil, Act.put, List.setIfInBounds_toArray, List.set_cons_zero, List.set_cons_succ]
      rw [if_pos (by rfl)]
      go_simp
      refine HC.out.mono ?_
      rintro e w2 ⟨m2, rfl, _, hk2, hb2, hk3, hr3, he3⟩
      have hG := gmk_ref (V := w1) HBW.out hb2 hk2 hk3 hr3 he3
      clear hk2 hk3 hr3 he3
      have HST2 := hid (two_call2 HST.out hb2 hG (fun _ h => h.elim))
      clear HST hG hb2
      obtain ⟨qkp, qkc, qks, qrp, qrc, qrs⟩ := m2
      simp only [encA, encMx, Mx.ksl, Mx.rsl] at HST2 ⊢
      go_wp2_with fail
      exact hK.out _ _ ⟨_, _, u1, u2, rfl, HST2.out⟩
    · obtain rfl : i = 8 := by simpa using hk.symm
      cases f1 with
      | false => exact (not_ready hrd (by cases f2 <;> kernel_rfl)).elim
      | true =>
        obtain ⟨B, m2, rfl, rfl, hbx, hst2⟩ := two_store1 hst
        obtain ⟨⟨c0, c1, z0, z1⟩, hbx2, hfr⟩ := store_two (a := m2.ksl) (b := m2.rsl) hbx
        have HST2 := hid (hst2 _ hbx2 hfr)
        clear hrd hst hst2 hbx hbx2 hfr
        obtain ⟨qkp, qkc, qks, qrp, qrc, qrs⟩ := m2
        simp only [encA, Mx.ksl, Mx.rsl] at HST2 ⊢
        refine ⟨_, at_drop0 rfl, fun K hK => ?_⟩
        simp only [putS, List.foldl_cons, List.foldl_nil, Act.put, List.setIfInBounds_toArray, List.set_cons_zero, List.set_cons_succ]
        rw [if_pos (by rfl)]
        go_simp
        go_wp2_with fail
        exact hK.out _ _ ⟨_, _, _, _, rfl, HST2.out⟩
    · obtain rfl : i = 9 := by simpa using hk.symm
      cases f2 with
      | false => exact (not_ready hrd (by cases f1 <;> kernel_rfl)).elim
      | true =>
        obtain ⟨B, m2, rfl, rfl, hbx, hst2⟩ := two_store2 hst
        obtain ⟨⟨c0, c1, z0, z1⟩, hbx2, hfr⟩ := store_two (a := m2.ksl) (b := m2.rsl) hbx
        have HST2 := hid (hst2 _ hbx2 hfr)
        clear hrd hst hst2 hbx hbx2 hfr
        obtain ⟨qkp, qkc, qks, qrp, qrc, qrs⟩ := m2
        simp only [encA, Mx.ksl, Mx.rsl] at HST2 ⊢
        refine ⟨_, at_drop0 rfl, fun K hK => ?_⟩
        simp only [putS, List.foldl_cons, List.foldl_nil, Act.put, List.setIfInBounds_toArray, List.set_cons_zero, List.set_cons_succ]
        rw [if_pos (by rfl)]
        go_simp
        go_wp2_with fail
        exact hK.out _ _ ⟨_, _, _, _, rfl, HST2.out⟩
    · simp at hk
  case halloc =>
    rintro j i k fl a w' hj hk hfl hf ⟨v1, v2, u1, u2, rfl, hst⟩
    obtain ⟨f1, f2, rfl⟩ : ∃ f1 f2, fl = [f1, f2] := by
      match fl, hfl with
      | [f1, f2], _ => exact ⟨f1, f2, rfl⟩
    rcases j with _ | _ | j
    · obtain rfl : i = 6 := by simpa using hj.symm
      obtain rfl : f1 = false := by simpa using hf
      have HST2 := hid (two_alloc1 hst)
      clear hst hf hj hk
      refine ⟨_, at_drop0 rfl, fun K hK => ?_⟩
      simp only [putS, List.foldl_cons, List.foldl_nil, Act.put, List.setIfInBounds_toArray, List.set_cons_zero, List.set_cons_succ]
      rw [if_pos (by rfl)]
      go_simp
      go_wp2_with fail
      exact hK.out _ _ ⟨v1, v2, _, u2, rfl, HST2.out⟩
    · obtain rfl : i = 7 := by simpa using hj.symm
      obtain rfl : f2 = false := by simpa using hf
      have HST2 := hid (two_alloc2 hst)
      clear hst hf hj hk
      refine ⟨_, at_drop0 rfl, fun K hK => ?_⟩
      simp only [putS, List.foldl_cons, List.foldl_nil, Act.put, List.setIfInBounds_toArray, List.set_cons_zero, List.set_cons_succ]
      rw [if_pos (by rfl)]
      go_simp
      go_wp2_with fail
      exact hK.out _ _ ⟨v1, v2, u1, _, rfl, HST2.out⟩
    · simp at hj
  case hend =>
    rintro a w3 ⟨v1, v2, u1, u2, rfl, hst⟩
    obtain ⟨B7, B8, x, y, rfl, rfl, hE3⟩ := two_end hst
    clear hst
    have HE3 := hid hE3
    have hl7 : B7 < w3.heap.size := (Array.getElem?_eq_some_iff.1 hE3.box1).1
    have hl8 : B8 < w3.heap.size := (Array.getElem?_eq_some_iff.1 hE3.box2).1
    have HX3 : Hid (∀ W, Below w3.heap.size w3 W → Below V.heap.size V W ∧ (W.cell? ⟨B7, 0, none⟩ = some x.ksl ∧ W.cell? ⟨B7, 1, none⟩ = some x.rsl ∧ W.cell? ⟨B8, 0, none⟩ = some y.ksl ∧ W.cell? ⟨B8, 1, none⟩ = some y.rsl) ∧ MIn W x ∧ MIn W y) := fun W hW => by
      have e1 := (hW.block B7 hl7).trans HE3.out.box1
      have e2 := (hW.block B8 hl8).trans HE3.out.box2
      exact ⟨HB1d.out W (bel_then HE3.out.bel HE3.out.bel.size hW), ⟨by rw [Lib.cell_of_heap e1]; rfl, by rw [Lib.cell_of_heap e1]; rfl, by rw [Lib.cell_of_heap e2]; rfl, by rw [Lib.cell_of_heap e2]; rfl⟩, HE3.out.g1.1.on hW, HE3.out.g2.1.on hW⟩
    have HEQ1 : Hid (∀ W, Below w3.heap.size w3 W → Calls Try.prog 14 #[.agg #[x.ksl, x.rsl], .agg #[y.ksl, y.rsl]] W fun e w' => e = .returned (.bool true) ∧ Below W.heap.size W w') := fun W hW => HQR.out W x y (HX3.out W hW).2.2.1 (HX3.out W hW).2.2.2 (HFK.out x HE3.out.g1.2) (HFK.out y HE3.out.g2.2) (HE3.out.g1.2.trans HE3.out.g2.2.symm)
    have HB3 : Hid (Below V.heap.size V w3) := (HX3.out w3 (Below.refl _ _)).1
    have HB3d : Hid (∀ W, Below w3.heap.size w3 W → Below V.heap.size V W) := fun W h => (HX3.out W h).1
    clear hE3 HKP HKR HB1d HB1
    obtain ⟨xkp, xkc, xks, xrp, xrc, xrs⟩ := x
    obtain ⟨ykp, ykc, yks, yrp, yrc, yrs⟩ := y
    simp only [Mx.ksl, Mx.rsl] at HX3 HEQ1
    simp only [putS, List.foldl_cons, List.foldl_nil, Act.put, List.setIfInBounds_toArray, List.set_cons_zero, List.set_cons_succ]
    go_upto_region 4 with fail
    refine wp_region_held_drew (S := fun W => W.cell? ⟨M, 0, none⟩ = some (.slice akp aks.length akc) ∧ W.cell? ⟨M, 1, none⟩ = some (.slice arp ars.length arc) ∧ W.cell? ⟨M + 1, 0, none⟩ = some (.slice bkp bks.length bkc) ∧ W.cell? ⟨M + 1, 1, none⟩ = some (.slice brp brs.length brc) ∧ W.cell? ⟨M + 2, 0, none⟩ = some (.string ka) ∧ W.cell? ⟨M + 2, 1, none⟩ = some (.string kb)) (by kernel_rfl) (HCE.out w3.drew (bel_drewN HB3.out 1)) (fun hHeld => ?_)
    refine take_val (i := 0) (.agg #[.slice akp aks.length akc, .slice arp ars.length arc]) rfl (by kernel_rfl) (by kernel_rfl) (by kernel_rfl) (fun _ _ _ h => h) (by rfl) (fun w hSw => by go_simp) hHeld ?_
    simp only [Act.put, List.setIfInBounds_toArray, List.set_cons_zero, List.set_cons_succ]
    refine take_val (i := 1) (.agg #[.slice bkp bks.length bkc, .slice brp brs.length brc]) rfl (by kernel_rfl) (by kernel_rfl) (by kernel_rfl) (fun _ _ _ h => h) (by rfl) (fun w hSw => by go_simp) hHeld ?_
    simp only [Act.put, List.setIfInBounds_toArray, List.set_cons_zero, List.set_cons_succ]
    refine take_val (i := 3) (.agg #[.slice akp aks.length akc, .slice arp ars.length arc]) rfl (by kernel_rfl) (by kernel_rfl) (by kernel_rfl) (fun _ _ _ h => h) (by rfl) (fun w hSw => by go_simp) hHeld ?_
    simp only [Act.put, List.setIfInBounds_toArray, List.set_cons_zero, List.set_cons_succ]
    refine take_val (i := 4) (.agg #[.slice bkp bks.length bkc, .slice brp brs.length brc]) rfl (by kernel_rfl) (by kernel_rfl) (by kernel_rfl) (fun _ _ _ h => h) (by rfl) (fun w hSw => by go_simp) hHeld ?_
    simp only [Act.put, List.setIfInBounds_toArray, List.set_cons_zero, List.set_cons_succ]
    clear hHeld
    refine wpAnyH_floats [2, 5, 8, 9] [6, 7] (fun a0 k fl a w' => ∃ v1 v2 u1 u2, a = putS a0 [(23, v1), (26, v2), (9, u1), (10, u2)] ∧ TwoM w3 mku mku k fl v1 v2 u1 u2 w') (by kernel_rfl) (by decide) ⟨_, _, _, _, (putS_self _ [23, 26, 9, 10]).symm, two_start _ _ _ _ (bel_drewN (Below.refl _ _) 1)⟩ ?hS ?hmain ?halloc ?hend
    case hS =>
      rintro k fl a w' ⟨v1, v2, u1, u2, _, h⟩
      exact (fun W h => HCE.out W (HB3d.out W h)) w' h.bel
    case hmain =>
      rintro k i fl a w' hk hfl hrd ⟨v1, v2, u1, u2, rfl, hst⟩
      obtain ⟨f1, f2, rfl⟩ : ∃ f1 f2, fl = [f1, f2] := by
        match fl, hfl with
        | [f1, f2], _ => exact ⟨f1, f2, rfl⟩
      rcases k with _ | _ | _ | _ | k
      · obtain rfl : i = 2 := by simpa using hk.symm
        have hbw := hst.bel
        have HC := hid (HUP.out w' (HB3d.out w' hbw))
        have HST := hid hst
        have HBW := hid hbw
        clear hrd hst hbw
        refine ⟨_, at_drop0 rfl, fun K hK => ?_⟩
        simp only [putS, List.foldl_cons, List.foldl_nil, Act.put, List.setIfInBounds_toArray, List.set_cons_zero, List.set_cons_succ]
        rw [if_pos (by rfl)]
        go_simp
        refine HC.out.mono ?_
        rintro e w2 ⟨m2, rfl, ho2, hk2, hb2⟩
        have hG := gmk_own (V := w3) ho2 hk2
        clear ho2 hk2
        have HST2 := hid (two_call1 HST.out hb2 hG (fun _ h => h.elim))
        clear HST hG hb2
        obtain ⟨qkp, qkc, qks, qrp, qrc, qrs⟩ := m2
        simp only [encA, encMx, Mx.ksl, Mx.rsl] at HST2 ⊢
        go_wp2_with fail
        exact hK.out _ _ ⟨_, _, u1, u2, rfl, HST2.out⟩
      · obtain rfl : i = 5 := by simpa using hk.symm
        have hbw := hst.bel
        have HC := hid (HUR.out w3 w' HB3.out hbw)
        have HST := hid hst
        have HBW := hid hbw
        clear hrd hst hbw
        refine ⟨_, at_drop0 rfl, fun K hK => ?_⟩
        simp only [putS, List.foldl_cons, List.foldl_nil, Act.put, List.setIfInBounds_toArray, List.set_cons_zero, List.set_cons_succ]
        rw [if_pos (by rfl)]
        go_simp
        refine HC.out.mono ?_
        rintro e w2 ⟨m2, rfl, _, hk2, hb2, hk3, hr3, he3⟩
        have hG := gmk_ref (V := w3) HBW.out hb2 hk2 hk3 hr3 he3
        clear hk2 hk3 hr3 he3
        have HST2 := hid (two_call2 HST.out hb2 hG (fun _ h => h.elim))
        clear HST hG hb2
        obtain ⟨qkp, qkc, qks, qrp, qrc, qrs⟩ := m2
        simp only [encA, encMx, Mx.ksl, Mx.rsl] at HST2 ⊢
        go_wp2_with fail
        exact hK.out _ _ ⟨_, _, u1, u2, rfl, HST2.out⟩
      · obtain rfl : i = 8 := by simpa using hk.symm
        cases f1 with
        | false => exact (not_ready hrd (by cases f2 <;> kernel_rfl)).elim
        | true =>
          obtain ⟨B, m2, rfl, rfl, hbx, hst2⟩ := two_store1 hst
          obtain ⟨⟨c0, c1, z0, z1⟩, hbx2, hfr⟩ := store_two (a := m2.ksl) (b := m2.rsl) hbx
          have HST2 := hid (hst2 _ hbx2 hfr)
          clear hrd hst hst2 hbx hbx2 hfr
          obtain ⟨qkp, qkc, qks, qrp, qrc, qrs⟩ := m2
          simp only [encA, Mx.ksl, Mx.rsl] at HST2 ⊢
          refine ⟨_, at_drop0 rfl, fun K hK => ?_⟩
          simp only [putS, List.foldl_cons, List.foldl_nil, Act.put, List.setIfInBounds_toArray, List.set_cons_zero, List.set_cons_succ]
          rw [if_pos (by rfl)]
          go_simp
          go_wp2_with fail
          exact hK.out _ _ ⟨_, _, _, _, rfl, HST2.out⟩
      · obtain rfl : i = 9 := by simpa using hk.symm
        cases f2 with
        | false => exact (not_ready hrd (by cases f1 <;> kernel_rfl)).elim
        | true =>
          obtain ⟨B, m2, rfl, rfl, hbx, hst2⟩ := two_store2 hst
          obtain ⟨⟨c0, c1, z0, z1⟩, hbx2, hfr⟩ := store_two (a := m2.ksl) (b := m2.rsl) hbx
          have HST2 := hid (hst2 _ hbx2 hfr)
          clear hrd hst hst2 hbx hbx2 hfr
          obtain ⟨qkp, qkc, qks, qrp, qrc, qrs⟩ := m2
          simp only [encA, Mx.ksl, Mx.rsl] at HST2 ⊢
          refine ⟨_, at_drop0 rfl, fun K hK => ?_⟩
          simp only [putS, List.foldl_cons, List.foldl_nil, Act.put, List.setIfInBounds_toArray, List.set_cons_zero, List.set_cons_succ]
          rw [if_pos (by rfl)]
          go_simp
          go_wp2_with fail
          exact hK.out _ _ ⟨_, _, _, _, rfl, HST2.out⟩
      · simp at hk
    case halloc =>
      rintro j i k fl a w' hj hk hfl hf ⟨v1, v2, u1, u2, rfl, hst⟩
      obtain ⟨f1, f2, rfl⟩ : ∃ f1 f2, fl = [f1, f2] := by
        match fl, hfl with
        | [f1, f2], _ => exact ⟨f1, f2, rfl⟩
      rcases j with _ | _ | j
      · obtain rfl : i = 6 := by simpa using hj.symm
        obtain rfl : f1 = false := by simpa using hf
        have HST2 := hid (two_alloc1 hst)
        clear hst hf hj hk
        refine ⟨_, at_drop0 rfl, fun K hK => ?_⟩
        simp only [putS, List.foldl_cons, List.foldl_nil, Act.put, List.setIfInBounds_toArray, List.set_cons_zero, List.set_cons_succ]
        rw [if_pos (by rfl)]
        go_simp
        go_wp2_with fail
        exact hK.out _ _ ⟨v1, v2, _, u2, rfl, HST2.out⟩
      · obtain rfl : i = 7 := by simpa using hj.symm
        obtain rfl : f2 = false := by simpa using hf
        have HST2 := hid (two_alloc2 hst)
        clear hst hf hj hk
        refine ⟨_, at_drop0 rfl, fun K hK => ?_⟩
        simp only [putS, List.foldl_cons, List.foldl_nil, Act.put, List.setIfInBounds_toArray, List.set_cons_zero, List.set_cons_succ]
        rw [if_pos (by rfl)]
        go_simp
        go_wp2_with fail
        exact hK.out _ _ ⟨v1, v2, u1, _, rfl, HST2.out⟩
      · simp at hj
    case hend =>
      rintro a w5 ⟨v1, v2, u1, u2, rfl, hst⟩
      obtain ⟨B9, B10, u, v, rfl, rfl, hE5⟩ := two_end hst
      clear hst
      have HE5 := hid hE5
      have hl9 : B9 < w5.heap.size := (Array.getElem?_eq_some_iff.1 hE5.box1).1
      have hl10 : B10 < w5.heap.size := (Array.getElem?_eq_some_iff.1 hE5.box2).1
      have HX5 : Hid (∀ W, Below w5.heap.size w5 W → Below w3.heap.size w3 W ∧ (W.cell? ⟨B9, 0, none⟩ = some u.ksl ∧ W.cell? ⟨B9, 1, none⟩ = some u.rsl ∧ W.cell? ⟨B10, 0, none⟩ = some v.ksl ∧ W.cell? ⟨B10, 1, none⟩ = some v.rsl) ∧ MIn W u ∧ MIn W v) := fun W hW => by
        have e1 := (hW.block B9 hl9).trans HE5.out.box1
        have e2 := (hW.block B10 hl10).trans HE5.out.box2
        exact ⟨bel_then HE5.out.bel HE5.out.bel.size hW, ⟨by rw [Lib.cell_of_heap e1]; rfl, by rw [Lib.cell_of_heap e1]; rfl, by rw [Lib.cell_of_heap e2]; rfl, by rw [Lib.cell_of_heap e2]; rfl⟩, HE5.out.g1.1.on hW, HE5.out.g2.1.on hW⟩
      have HEQ2 : Hid (∀ W, Below w5.heap.size w5 W → Calls Try.prog 14 #[.agg #[u.ksl, u.rsl], .agg #[v.ksl, v.rsl]] W fun e w' => e = .returned (.bool true) ∧ Below W.heap.size W w') := fun W hW => HQR.out W u v (HX5.out W hW).2.2.1 (HX5.out W hW).2.2.2 (HFU.out u HE5.out.g1.2) (HFU.out v HE5.out.g2.2) (HE5.out.g1.2.trans HE5.out.g2.2.symm)
      clear hE5 HUP HUR
      obtain ⟨ukp, ukc, uks, urp, urc, urs⟩ := u
      obtain ⟨vkp, vkc, vks, vrp, vrc, vrs⟩ := v
      simp only [Mx.ksl, Mx.rsl] at HX5 HEQ2
      have HS5 : Hid (∀ W, Below w5.heap.size w5 W → W.cell? ⟨M, 0, none⟩ = some (.slice akp aks.length akc) ∧ W.cell? ⟨M, 1, none⟩ = some (.slice arp ars.length arc) ∧ W.cell? ⟨M + 1, 0, none⟩ = some (.slice bkp bks.length bkc) ∧ W.cell? ⟨M + 1, 1, none⟩ = some (.slice brp brs.length brc) ∧ W.cell? ⟨M + 2, 0, none⟩ = some (.string ka) ∧ W.cell? ⟨M + 2, 1, none⟩ = some (.string kb) ∧ W.cell? ⟨B7, 0, none⟩ = some (.slice xkp xks.length xkc) ∧ W.cell? ⟨B7, 1, none⟩ = some (.slice xrp xrs.length xrc) ∧ W.cell? ⟨B8, 0, none⟩ = some (.slice ykp yks.length ykc) ∧ W.cell? ⟨B8, 1, none⟩ = some (.slice yrp yrs.length yrc) ∧ W.cell? ⟨B9, 0, none⟩ = some (.slice ukp uks.length ukc) ∧ W.cell? ⟨B9, 1, none⟩ = some (.slice urp urs.length urc) ∧ W.cell? ⟨B10, 0, none⟩ = some (.slice vkp vks.length vkc) ∧ W.cell? ⟨B10, 1, none⟩ = some (.slice vrp vrs.length vrc)) := fun W hW => by
        obtain ⟨q1, ⟨q2, q3, q4, q5⟩, _, _⟩ := HX5.out W hW
        obtain ⟨r1, ⟨r2, r3, r4, r5⟩, _, _⟩ := HX3.out W q1
        obtain ⟨s0, s1, s2, s3, s4, s5⟩ := HCE.out W r1
        exact ⟨s0, s1, s2, s3, s4, s5, r2, r3, r4, r5, q2, q3, q4, q5⟩
      have HB5V : Hid (∀ W, Below w5.heap.size w5 W → Below V.heap.size V W) := fun W h => (HX3.out W (HX5.out W h).1).1
      simp only [putS, List.foldl_cons, List.foldl_nil, Act.put, List.setIfInBounds_toArray, List.set_cons_zero, List.set_cons_succ]
      go_upto_region 5 with fail
      refine wp_region_held_drew (S := fun W => W.cell? ⟨M, 0, none⟩ = some (.slice akp aks.length akc) ∧ W.cell? ⟨M, 1, none⟩ = some (.slice arp ars.length arc) ∧ W.cell? ⟨M + 1, 0, none⟩ = some (.slice bkp bks.length bkc) ∧ W.cell? ⟨M + 1, 1, none⟩ = some (.slice brp brs.length brc) ∧ W.cell? ⟨M + 2, 0, none⟩ = some (.string ka) ∧ W.cell? ⟨M + 2, 1, none⟩ = some (.string kb) ∧ W.cell? ⟨B7, 0, none⟩ = some (.slice xkp xks.length xkc) ∧ W.cell? ⟨B7, 1, none⟩ = some (.slice xrp xrs.length xrc) ∧ W.cell? ⟨B8, 0, none⟩ = some (.slice ykp yks.length ykc) ∧ W.cell? ⟨B8, 1, none⟩ = some (.slice yrp yrs.length yrc) ∧ W.cell? ⟨B9, 0, none⟩ = some (.slice ukp uks.length ukc) ∧ W.cell? ⟨B9, 1, none⟩ = some (.slice urp urs.length urc) ∧ W.cell? ⟨B10, 0, none⟩ = some (.slice vkp vks.length vkc) ∧ W.cell? ⟨B10, 1, none⟩ = some (.slice vrp vrs.length vrc)) (by kernel_rfl) (HS5.out w5.drew (bel_drewN (Below.refl _ _) 1)) (fun hHeld => ?_)
      refine take_val (i := 0) (.agg #[.slice xkp xks.length xkc, .slice xrp xrs.length xrc]) rfl (by kernel_rfl) (by kernel_rfl) (by kernel_rfl) (fun _ _ _ h => h) (by rfl) (fun w hSw => by go_simp) hHeld ?_
      simp only [Act.put, List.setIfInBounds_toArray, List.set_cons_zero, List.set_cons_succ]
      refine take_val (i := 1) (.agg #[.slice ykp yks.length ykc, .slice yrp yrs.length yrc]) rfl (by kernel_rfl) (by kernel_rfl) (by kernel_rfl) (fun _ _ _ h => h) (by rfl) (fun w hSw => by go_simp) hHeld ?_
      simp only [Act.put, List.setIfInBounds_toArray, List.set_cons_zero, List.set_cons_succ]
      clear hHeld
      refine wpAnyH_ready (rs := [2]) (by kernel_rfl) (by simp) ?_
      refine AllReadyH.cons (at_drop0 rfl) (fun K hK => ?_) AllReadyH.nil
      rw [if_pos (by rfl)]
      go_simp
      refine (HEQ1.out w5.drew (HX5.out _ (bel_drewN (Below.refl _ _) 1)).1).mono ?_
      rintro e z1 ⟨rfl, hz1⟩
      have HZ1 : Hid (Below w5.heap.size w5 z1) := (bel_drewN (Below.refl w5.heap.size w5) 1).trans hz1
      clear hz1
      go_wp2_with fail
      refine hK.out _ _ ((HS5.out z1 HZ1.out)) (fun hHeld => ?_)
      clear hK K
      try simp only [Act.put, List.setIfInBounds_toArray, List.set_cons_zero, List.set_cons_succ]
      refine take_val (i := 3) (.bool false) rfl (by kernel_rfl) (by kernel_rfl) (by kernel_rfl) (fun _ _ _ h => h) (by rfl) (fun w hSw => by go_simp) hHeld ?_
      simp only [Act.put, List.setIfInBounds_toArray, List.set_cons_zero, List.set_cons_succ]
      refine take_val (i := 4) (.bool false) rfl (by kernel_rfl) (by kernel_rfl) (by kernel_rfl) (fun _ _ _ h => h) (by rfl) (fun w hSw => by go_simp) hHeld ?_
      simp only [Act.put, List.setIfInBounds_toArray, List.set_cons_zero, List.set_cons_succ]
      refine take_val (i := 5) (.agg #[.slice ukp uks.length ukc, .slice urp urs.length urc]) rfl (by kernel_rfl) (by kernel_rfl) (by kernel_rfl) (fun _ _ _ h => h) (by rfl) (fun w hSw => by go_simp) hHeld ?_
      simp only [Act.put, List.setIfInBounds_toArray, List.set_cons_zero, List.set_cons_succ]
      refine take_val (i := 6) (.agg #[.slice vkp vks.length vkc, .slice vrp vrs.length vrc]) rfl (by kernel_rfl) (by kernel_rfl) (by kernel_rfl) (fun _ _ _ h => h) (by rfl) (fun w hSw => by go_simp) hHeld ?_
      simp only [Act.put, List.setIfInBounds_toArray, List.set_cons_zero, List.set_cons_succ]
      clear hHeld
      refine wpAnyH_ready (rs := [7]) (by kernel_rfl) (by simp) ?_
      refine AllReadyH.cons (at_drop0 rfl) (fun K hK => ?_) AllReadyH.nil
      rw [if_pos (by rfl)]
      go_simp
      refine (HEQ2.out z1 HZ1.out).mono ?_
      rintro e z2 ⟨rfl, hz2⟩
      have HZ2 : Hid (Below w5.heap.size w5 z2) := bel_then HZ1.out HZ1.out.size hz2
      clear hz2 HZ1
      go_wp2_with fail
      refine hK.out _ _ ((HS5.out z2 HZ2.out)) (fun hHeld => ?_)
      clear hK K
      try simp only [Act.put, List.setIfInBounds_toArray, List.set_cons_zero, List.set_cons_succ]
      refine take_val (i := 8) (.bool false) rfl (by kernel_rfl) (by kernel_rfl) (by kernel_rfl) (fun _ _ _ h => h) (by rfl) (fun w hSw => by go_simp) hHeld ?_
      simp only [Act.put, List.setIfInBounds_toArray, List.set_cons_zero, List.set_cons_succ]
      refine take_val (i := 9) (.bool false) rfl (by kernel_rfl) (by kernel_rfl) (by kernel_rfl) (fun _ _ _ h => h) (by rfl) (fun w hSw => by go_simp) hHeld ?_
      simp only [Act.put, List.setIfInBounds_toArray, List.set_cons_zero, List.set_cons_succ]
      refine take_val (i := 10) (.bool false) rfl (by kernel_rfl) (by kernel_rfl) (by kernel_rfl) (fun _ _ _ h => h) (by rfl) (fun w hSw => by go_simp) hHeld ?_
      simp only [Act.put, List.setIfInBounds_toArray, List.set_cons_zero, List.set_cons_succ]
      refine take_val (i := 11) (.agg #[.slice akp aks.length akc, .slice arp ars.length arc]) rfl (by kernel_rfl) (by kernel_rfl) (by kernel_rfl) (fun _ _ _ h => h) (by rfl) (fun w hSw => by go_simp) hHeld ?_
      simp only [Act.put, List.setIfInBounds_toArray, List.set_cons_zero, List.set_cons_succ]
      refine take_val (i := 12) (.agg #[.slice bkp bks.length bkc, .slice brp brs.length brc]) rfl (by kernel_rfl) (by kernel_rfl) (by kernel_rfl) (fun _ _ _ h => h) (by rfl) (fun w hSw => by go_simp) hHeld ?_
      simp only [Act.put, List.setIfInBounds_toArray, List.set_cons_zero, List.set_cons_succ]
      refine take_val (i := 14) (.agg #[.slice akp aks.length akc, .slice arp ars.length arc]) rfl (by kernel_rfl) (by kernel_rfl) (by kernel_rfl) (fun _ _ _ h => h) (by rfl) (fun w hSw => by go_simp) hHeld ?_
      simp only [Act.put, List.setIfInBounds_toArray, List.set_cons_zero, List.set_cons_succ]
      refine take_val (i := 15) (.agg #[.slice bkp bks.length bkc, .slice brp brs.length brc]) rfl (by kernel_rfl) (by kernel_rfl) (by kernel_rfl) (fun _ _ _ h => h) (by rfl) (fun w hSw => by go_simp) hHeld ?_
      simp only [Act.put, List.setIfInBounds_toArray, List.set_cons_zero, List.set_cons_succ]
      clear hHeld
      refine wpAnyH_ready (rs := [13]) (by kernel_rfl) (by simp) ?_
      refine AllReadyH.cons (at_drop0 rfl) (fun K hK => ?_) AllReadyH.nil
      rw [if_pos (by rfl)]
      go_simp
      refine (HEP.out z2 (HB5V.out z2 HZ2.out)).mono ?_
      rintro e z3 ⟨rfl, hz3⟩
      have HZ3 : Hid (Below w5.heap.size w5 z3) := bel_then HZ2.out HZ2.out.size hz3
      clear hz3 HZ2
      go_wp2_with fail
      refine hK.out _ _ ((HS5.out z3 HZ3.out)) (fun hHeld => ?_)
      clear hK K
      try simp only [Act.put, List.setIfInBounds_toArray, List.set_cons_zero, List.set_cons_succ]
      clear hHeld
      refine wpAnyH_ready (rs := [16]) (by kernel_rfl) (by simp) ?_
      refine AllReadyH.cons (at_drop0 rfl) (fun K hK => ?_) AllReadyH.nil
      rw [if_pos (by rfl)]
      go_simp
      refine (HER.out z3 (HB5V.out z3 HZ3.out)).mono ?_
      rintro e z4 ⟨rfl, hz4⟩
      have HZ4 : Hid (Below w5.heap.size w5 z4) := bel_then HZ3.out HZ3.out.size hz4
      clear hz4 HZ3
      have hee : (E != E) = false := by cases E <;> rfl
      go_wp2_with fail
      refine hK.out _ _ ((HS5.out z4 HZ4.out)) (fun hHeld => ?_)
      clear hK K
      try simp only [Act.put, List.setIfInBounds_toArray, List.set_cons_zero, List.set_cons_succ]
      refine take_val (i := 17) (.bool false) rfl (by kernel_rfl) (by kernel_rfl) (by kernel_rfl) (fun _ _ _ h => h) (by rfl) (fun w hSw => by go_simp) hHeld ?_
      simp only [Act.put, List.setIfInBounds_toArray, List.set_cons_zero, List.set_cons_succ]
      refine take_val (i := 18) (.bool false) rfl (by kernel_rfl) (by kernel_rfl) (by kernel_rfl) (fun _ _ _ h => h) (by rfl) (fun w hSw => by go_simp) hHeld ?_
      simp only [Act.put, List.setIfInBounds_toArray, List.set_cons_zero, List.set_cons_succ]
      refine take_val (i := 19) (.bool false) rfl (by kernel_rfl) (by kernel_rfl) (by kernel_rfl) (fun _ _ _ h => h) (by rfl) (fun w hSw => by go_simp) hHeld ?_
      simp only [Act.put, List.setIfInBounds_toArray, List.set_cons_zero, List.set_cons_succ]
      refine take_val (i := 20) (.agg #[.slice akp aks.length akc, .slice arp ars.length arc]) rfl (by kernel_rfl) (by kernel_rfl) (by kernel_rfl) (fun _ _ _ h => h) (by rfl) (fun w hSw => by go_simp) hHeld ?_
      simp only [Act.put, List.setIfInBounds_toArray, List.set_cons_zero, List.set_cons_succ]
      refine take_val (i := 21) (.agg #[.slice akp aks.length akc, .slice arp ars.length arc]) rfl (by kernel_rfl) (by kernel_rfl) (by kernel_rfl) (fun _ _ _ h => h) (by rfl) (fun w hSw => by go_simp) hHeld ?_
      simp only [Act.put, List.setIfInBounds_toArray, List.set_cons_zero, List.set_cons_succ]
      clear hHeld hee
      refine wpAnyH_ready (rs := [22]) (by kernel_rfl) (by simp) ?_
      refine AllReadyH.cons (at_drop0 rfl) (fun K hK => ?_) AllReadyH.nil
      rw [if_pos (by rfl)]
      go_simp
      refine (HEA.out z4 (HB5V.out z4 HZ4.out)).mono ?_
      rintro e z5 ⟨rfl, hz5⟩
      have HZ5 : Hid (Below w5.heap.size w5 z5) := bel_then HZ4.out HZ4.out.size hz5
      clear hz5 HZ4
      go_wp2_with fail
      refine hK.out _ _ ((HS5.out z5 HZ5.out)) (fun hHeld => ?_)
      clear hK K
      try simp only [Act.put, List.setIfInBounds_toArray, List.set_cons_zero, List.set_cons_succ]
      refine take_val (i := 23) (.bool false) rfl (by kernel_rfl) (by kernel_rfl) (by kernel_rfl) (fun _ _ _ h => h) (by rfl) (fun w hSw => by go_simp) hHeld ?_
      simp only [Act.put, List.setIfInBounds_toArray, List.set_cons_zero, List.set_cons_succ]
      refine take_val (i := 24) (.bool false) rfl (by kernel_rfl) (by kernel_rfl) (by kernel_rfl) (fun _ _ _ h => h) (by rfl) (fun w hSw => by go_simp) hHeld ?_
      simp only [Act.put, List.setIfInBounds_toArray, List.set_cons_zero, List.set_cons_succ]
      refine wpAnyH_done (by kernel_rfl) ?_ _
      clear hHeld HEQ1 HEQ2 HEP HER HEA
      obtain ⟨_, _, b0, b1, _⟩ := HS5.out z5 HZ5.out
      go_wp2_with fail
      clear b0 b1
      go_loopg [55] brs.length (fun gg vi wr => ∃ i : Nat, vi = .int .i64 i ∧ i ≤ brs.length ∧ brs.length - i ≤ gg ∧ Hid (Below w5.heap.size w5 wr))
      case atStart => exact ⟨0, rfl, by omega, by omega, HZ5.out⟩
      case round =>
        clear HZ5
        obtain ⟨i, rfl, hi, hgk, HI⟩ := hrel
        by_cases hlt : i < brs.length
        · have hltz : (i : Int) < (brs.length : Int) := by omega
          have hiz : (0 : Int) ≤ i := by omega
          obtain ⟨b8, o8, rfl, k8⟩ : ∃ b off, brp = some ⟨b, off, none⟩ ∧ KRx.At wr b off brs := by
            obtain ⟨p', c', he, h⟩ := (HBR.out wr (HB5V.out wr HI.out)).1
            injection he with e1 _ _
            subst e1
            rcases h with h | h
            · have h' : brs = [] := h
              rw [h'] at hlt; simp at hlt
            · exact h
          obtain ⟨z0, z1⟩ := krx_at k8 i hlt
          have HAT : Hid (∀ W, Below V.heap.size V W → (brs[i]).at W) := fun W hW => (HBR.out W hW).2 _ (List.getElem_mem hlt)
          generalize brs[i] = r at *
          obtain ⟨T, hT⟩ : ∃ T, wr.alloc (.cells (encRx r).toArray 34) = T := ⟨_, rfl⟩
          obtain ⟨Q, hQ⟩ : ∃ Q, wr.heap.size = Q := ⟨_, rfl⟩
          obtain ⟨hbT, hTo, hTs⟩ := one_box wr (encRx r).toArray 34
          rw [hT] at hbT hTo hTs
          rw [hQ] at hTo hTs
          have HBT : Hid (Below w5.heap.size w5 T) := bel_then HI.out HI.out.size hbT
          have HS6 : Hid (∀ W, Below T.heap.size T W → (W.cell? ⟨M, 0, none⟩ = some (.slice akp aks.length akc) ∧ W.cell? ⟨M, 1, none⟩ = some (.slice arp ars.length arc) ∧ W.cell? ⟨Q, 0, none⟩ = some (.string r.typ) ∧ W.cell? ⟨Q, 1, none⟩ = some r.sl) ∧ Below w5.heap.size w5 W ∧ Below V.heap.size V W) := fun W hW => by
            have h5 : Below w5.heap.size w5 W := bel_then HBT.out HBT.out.size hW
            obtain ⟨s0, s1, _⟩ := HS5.out W h5
            have e1 := (hW.block Q (by omega)).trans hTo
            exact ⟨⟨s0, s1, by rw [Lib.cell_of_heap e1]; rfl, by rw [Lib.cell_of_heap e1]; rfl⟩, h5, HB5V.out W h5⟩
          have HP1 : Hid (∀ W, Below T.heap.size T W → Calls Try.prog 16 #[.agg #[.slice akp aks.length akc, .slice arp ars.length arc], .string r.typ, r.sl] W fun e w' => MOwnPost W (rangeM mka r.rg) e w') := fun W hW => HRP.out W r (HS6.out W hW).2.2 (HAT.out W (HS6.out W hW).2.2)
          have HP2 : Hid (∀ W, Below T.heap.size T W → Calls Try.prog 17 #[.agg #[.slice akp aks.length akc, .slice arp ars.length arc], .string r.typ, r.sl] W fun e w' => MarkPost (fun _ => True) (fun _ _ => True) W (rangeM mka r.rg) e w') := fun W hW => HRR.out W r (HS6.out W hW).2.2 (HAT.out W (HS6.out W hW).2.2)
          have HFR2 : Hid (∀ m : Mx, m.mk' = rangeM mka r.rg → FewM m) := fun m h => HFR.out m r.rg h
          generalize rangeM mka r.rg = mkr at HP1 HP2 HFR2
          clear k8 hbT hTo hTs HAT
          obtain ⟨xt, xp, xc, xm⟩ := r
          simp only [encRx, Rx.sl] at *
          go_wp2_with fail
          try rw [hT]
          try rw [hQ]
          clear z0 z1 hT
          refine wp_region_held_drew (S := fun W => W.cell? ⟨M, 0, none⟩ = some (.slice akp aks.length akc) ∧ W.cell? ⟨M, 1, none⟩ = some (.slice arp ars.length arc) ∧ W.cell? ⟨Q, 0, none⟩ = some (.string xt) ∧ W.cell? ⟨Q, 1, none⟩ = some (.slice xp xm.length xc)) (by kernel_rfl) (HS6.out T.drew (bel_drewN (Below.refl _ _) 1)).1 (fun hHeld => ?_)
          refine take_val (i := 0) (.agg #[.slice akp aks.length akc, .slice arp ars.length arc]) rfl (by kernel_rfl) (by kernel_rfl) (by kernel_rfl) (fun _ _ _ h => h) (by rfl) (fun w hSw => by go_simp) hHeld ?_
          simp only [Act.put, List.setIfInBounds_toArray, List.set_cons_zero, List.set_cons_succ]
          refine take_val (i := 1) (.pointer (some ⟨Q, 0, none⟩)) rfl (by kernel_rfl) (by kernel_rfl) (by kernel_rfl) (fun _ _ _ h => h) (by rfl) (fun w hSw => by go_simp) hHeld ?_
          simp only [Act.put, List.setIfInBounds_toArray, List.set_cons_zero, List.set_cons_succ]
          refine take_val (i := 2) (.string xt) rfl (by kernel_rfl) (by kernel_rfl) (by kernel_rfl) (fun _ _ _ h => h) (by rfl) (fun w hSw => by go_simp) hHeld ?_
          simp only [Act.put, List.setIfInBounds_toArray, List.set_cons_zero, List.set_cons_succ]
          refine take_val (i := 3) (.pointer (some ⟨Q, 1, none⟩)) rfl (by kernel_rfl) (by kernel_rfl) (by kernel_rfl) (fun _ _ _ h => h) (by rfl) (fun w hSw => by go_simp) hHeld ?_
          simp only [Act.put, List.setIfInBounds_toArray, List.set_cons_zero, List.set_cons_succ]
          refine take_val (i := 4) (.slice xp xm.length xc) rfl (by kernel_rfl) (by kernel_rfl) (by kernel_rfl) (fun _ _ _ h => h) (by rfl) (fun w hSw => by go_simp) hHeld ?_
          simp only [Act.put, List.setIfInBounds_toArray, List.set_cons_zero, List.set_cons_succ]
          refine take_val (i := 6) (.agg #[.slice akp aks.length akc, .slice arp ars.length arc]) rfl (by kernel_rfl) (by kernel_rfl) (by kernel_rfl) (fun _ _ _ h => h) (by rfl) (fun w hSw => by go_simp) hHeld ?_
          simp only [Act.put, List.setIfInBounds_toArray, List.set_cons_zero, List.set_cons_succ]
          refine take_val (i := 7) (.pointer (some ⟨Q, 0, none⟩)) rfl (by kernel_rfl) (by kernel_rfl) (by kernel_rfl) (fun _ _ _ h => h) (by rfl) (fun w hSw => by go_simp) hHeld ?_
          simp only [Act.put, List.setIfInBounds_toArray, List.set_cons_zero, List.set_cons_succ]
          refine take_val (i := 8) (.string xt) rfl (by kernel_rfl) (by kernel_rfl) (by kernel_rfl) (fun _ _ _ h => h) (by rfl) (fun w hSw => by go_simp) hHeld ?_
          simp only [Act.put, List.setIfInBounds_toArray, List.set_cons_zero, List.set_cons_succ]
          refine take_val (i := 9) (.pointer (some ⟨Q, 1, none⟩)) rfl (by kernel_rfl) (by kernel_rfl) (by kernel_rfl) (fun _ _ _ h => h) (by rfl) (fun w hSw => by go_simp) hHeld ?_
          simp only [Act.put, List.setIfInBounds_toArray, List.set_cons_zero, List.set_cons_succ]
          refine take_val (i := 10) (.slice xp xm.length xc) rfl (by kernel_rfl) (by kernel_rfl) (by kernel_rfl) (fun _ _ _ h => h) (by rfl) (fun w hSw => by go_simp) hHeld ?_
          simp only [Act.put, List.setIfInBounds_toArray, List.set_cons_zero, List.set_cons_succ]
          clear hHeld
          refine wpAnyH_ready (rs := [5]) (by kernel_rfl) (by simp) ?_
          refine AllReadyH.cons (at_drop0 rfl) (fun K hK => ?_) AllReadyH.nil
          rw [if_pos (by rfl)]
          go_simp
          refine (HP1.out T.drew (bel_drewN (Below.refl _ _) 1)).mono ?_
          rintro e y1 ⟨m1, rfl, ho1, hk1, hy1⟩
          have HY1 : Hid (Below T.heap.size T y1) := (bel_drewN (Below.refl T.heap.size T) 1).trans hy1
          have HM1 := hid (And.intro ho1.inn hk1)
          clear hy1 ho1 hk1
          obtain ⟨m1kp, m1kc, m1ks, m1rp, m1rc, m1rs⟩ := m1
          simp only [encMx, Mx.ksl, Mx.rsl]
          go_wp2_with fail
          refine hK.out _ _ ((HS6.out y1 HY1.out).1) (fun hHeld => ?_)
          clear hK K
          try simp only [Act.put, List.setIfInBounds_toArray, List.set_cons_zero, List.set_cons_succ]
          clear hHeld
          refine wpAnyH_ready (rs := [11]) (by kernel_rfl) (by simp) ?_
          refine AllReadyH.cons (at_drop0 rfl) (fun K hK => ?_) AllReadyH.nil
          rw [if_pos (by rfl)]
          go_simp
          refine (HP2.out y1 HY1.out).mono ?_
          rintro e y2 ⟨m2, rfl, hi2, hk2, hy2, _⟩
          have HY2 : Hid (Below T.heap.size T y2) := bel_then HY1.out HY1.out.size hy2
          have H12 := hid (HQR.out y2 ⟨m1kp, m1kc, m1ks, m1rp, m1rc, m1rs⟩ m2 (HM1.out.1.on hy2) hi2 (HFR2.out _ HM1.out.2) (HFR2.out _ hk2) (HM1.out.2.trans hk2.symm))
          clear hy2 hi2 hk2 HM1 HY1
          obtain ⟨m2kp, m2kc, m2ks, m2rp, m2rc, m2rs⟩ := m2
          simp only [encMx, Mx.ksl, Mx.rsl] at H12 ⊢
          go_wp2_with fail
          refine hK.out _ _ ((HS6.out y2 HY2.out).1) (fun hHeld => ?_)
          clear hK K
          try simp only [Act.put, List.setIfInBounds_toArray, List.set_cons_zero, List.set_cons_succ]
          clear hHeld
          refine wpAnyH_ready (rs := [12]) (by kernel_rfl) (by simp) ?_
          refine AllReadyH.cons (at_drop0 rfl) (fun K hK => ?_) AllReadyH.nil
          rw [if_pos (by rfl)]
          go_simp
          refine H12.out.mono ?_
          rintro e y3 ⟨rfl, hy3⟩
          have HY3 : Hid (Below T.heap.size T y3) := bel_then HY2.out HY2.out.size hy3
          clear hy3 H12 HY2
          go_wp2_with fail
          refine hK.out _ _ ((HS6.out y3 HY3.out).1) (fun hHeld => ?_)
          clear hK K
          try simp only [Act.put, List.setIfInBounds_toArray, List.set_cons_zero, List.set_cons_succ]
          refine take_val (i := 13) (.bool false) rfl (by kernel_rfl) (by kernel_rfl) (by kernel_rfl) (fun _ _ _ h => h) (by rfl) (fun w hSw => by go_simp) hHeld ?_
          simp only [Act.put, List.setIfInBounds_toArray, List.set_cons_zero, List.set_cons_succ]
          refine wpAnyH_done (by kernel_rfl) ?_ _
          clear hHeld
          have HB6 := hid (HS6.out y3 HY3.out).2.1
          go_wp2_with fail
          go_roundg (brs.length - (i + 1))
          case measure => omega
          exact ⟨i + 1, by go_num, by omega, by omega, HB6.out⟩
        · have hltz : ¬ (i : Int) < (brs.length : Int) := by omega
          have HS7 : Hid (∀ W, Below w5.heap.size w5 W → (W.cell? ⟨M, 0, none⟩ = some (.slice akp aks.length akc) ∧ W.cell? ⟨M, 1, none⟩ = some (.slice arp ars.length arc) ∧ W.cell? ⟨M + 2, 0, none⟩ = some (.string ka) ∧ W.cell? ⟨M + 2, 1, none⟩ = some (.string kb))) := fun W hW => by
            obtain ⟨s0, s1, _, _, s4, s5, _⟩ := HS5.out W hW
            exact ⟨s0, s1, s4, s5⟩
          have HRN : Hid (∀ W, (⟨ka, none, 0, []⟩ : Rx).at W) := fun W => ⟨KM.is_nil W, fitP_nil⟩
          have HP1 : Hid (∀ W, Below w5.heap.size w5 W → Calls Try.prog 16 #[.agg #[.slice akp aks.length akc, .slice arp ars.length arc], .string ka, .slice none 0 0] W fun e w' => MOwnPost W (rangeM mka (⟨ka, none, 0, []⟩ : Rx).rg) e w') := fun W hW => HRP.out W ⟨ka, none, 0, []⟩ (HB5V.out W hW) (HRN.out W)
          have HP2 : Hid (∀ W, Below w5.heap.size w5 W → Calls Try.prog 17 #[.agg #[.slice akp aks.length akc, .slice arp ars.length arc], .string ka, .slice none 0 0] W fun e w' => MarkPost (fun _ => True) (fun _ _ => True) W (rangeM mka (⟨ka, none, 0, []⟩ : Rx).rg) e w') := fun W hW => HRR.out W ⟨ka, none, 0, []⟩ (HB5V.out W hW) (HRN.out W)
          have HFR2 : Hid (∀ m : Mx, m.mk' = rangeM mka (⟨ka, none, 0, []⟩ : Rx).rg → FewM m) := fun m h => HFR.out m _ h
          generalize rangeM mka (⟨ka, none, 0, []⟩ : Rx).rg = mkr at HP1 HP2 HFR2
          go_upto_region 13 with fail
          refine wp_region_held_drew (S := fun W => W.cell? ⟨M, 0, none⟩ = some (.slice akp aks.length akc) ∧ W.cell? ⟨M, 1, none⟩ = some (.slice arp ars.length arc) ∧ W.cell? ⟨M + 2, 0, none⟩ = some (.string ka) ∧ W.cell? ⟨M + 2, 1, none⟩ = some (.string kb)) (by kernel_rfl) (HS7.out wr.drew (bel_drewN HI.out 1)) (fun hHeld => ?_)
          refine take_val (i := 0) (.agg #[.slice akp aks.length akc, .slice arp ars.length arc]) rfl (by kernel_rfl) (by kernel_rfl) (by kernel_rfl) (fun _ _ _ h => h) (by rfl) (fun w hSw => by go_simp) hHeld ?_
          simp only [Act.put, List.setIfInBounds_toArray, List.set_cons_zero, List.set_cons_succ]
          refine take_val (i := 1) (.pointer (some ⟨M + 2, 0, none⟩)) rfl (by kernel_rfl) (by kernel_rfl) (by kernel_rfl) (fun _ _ _ h => h) (by rfl) (fun w hSw => by go_simp) hHeld ?_
          simp only [Act.put, List.setIfInBounds_toArray, List.set_cons_zero, List.set_cons_succ]
          refine take_val (i := 2) (.string ka) rfl (by kernel_rfl) (by kernel_rfl) (by kernel_rfl) (fun _ _ _ h => h) (by rfl) (fun w hSw => by go_simp) hHeld ?_
          simp only [Act.put, List.setIfInBounds_toArray, List.set_cons_zero, List.set_cons_succ]
          refine take_val (i := 4) (.agg #[.slice akp aks.length akc, .slice arp ars.length arc]) rfl (by kernel_rfl) (by kernel_rfl) (by kernel_rfl) (fun _ _ _ h => h) (by rfl) (fun w hSw => by go_simp) hHeld ?_
          simp only [Act.put, List.setIfInBounds_toArray, List.set_cons_zero, List.set_cons_succ]
          refine take_val (i := 5) (.pointer (some ⟨M + 2, 0, none⟩)) rfl (by kernel_rfl) (by kernel_rfl) (by kernel_rfl) (fun _ _ _ h => h) (by rfl) (fun w hSw => by go_simp) hHeld ?_
          simp only [Act.put, List.setIfInBounds_toArray, List.set_cons_zero, List.set_cons_succ]
          refine take_val (i := 6) (.string ka) rfl (by kernel_rfl) (by kernel_rfl) (by kernel_rfl) (fun _ _ _ h => h) (by rfl) (fun w hSw => by go_simp) hHeld ?_
          simp only [Act.put, List.setIfInBounds_toArray, List.set_cons_zero, List.set_cons_succ]
          clear hHeld
          refine wpAnyH_ready (rs := [3]) (by kernel_rfl) (by simp) ?_
          refine AllReadyH.cons (at_drop0 rfl) (fun K hK => ?_) AllReadyH.nil
          rw [if_pos (by rfl)]
          go_simp
          refine (HP1.out wr.drew (bel_drewN HI.out 1)).mono ?_
          rintro e y1 ⟨m1, rfl, ho1, hk1, hy1⟩
          have HY1 : Hid (Below w5.heap.size w5 y1) := bel_then (bel_drewN HI.out 1) (bel_drewN HI.out 1).size hy1
          have HM1 := hid (And.intro ho1.inn hk1)
          clear hy1 ho1 hk1
          obtain ⟨m1kp, m1kc, m1ks, m1rp, m1rc, m1rs⟩ := m1
          simp only [encMx, Mx.ksl, Mx.rsl]
          go_wp2_with fail
          refine hK.out _ _ ((HS7.out y1 HY1.out)) (fun hHeld => ?_)
          clear hK K
          try simp only [Act.put, List.setIfInBounds_toArray, List.set_cons_zero, List.set_cons_succ]
          clear hHeld
          refine wpAnyH_ready (rs := [7]) (by kernel_rfl) (by simp) ?_
          refine AllReadyH.cons (at_drop0 rfl) (fun K hK => ?_) AllReadyH.nil
          rw [if_pos (by rfl)]
          go_simp
          refine (HP2.out y1 HY1.out).mono ?_
          rintro e y2 ⟨m2, rfl, hi2, hk2, hy2, _⟩
          have HY2 : Hid (Below w5.heap.size w5 y2) := bel_then HY1.out HY1.out.size hy2
          have H12 := hid (HQR.out y2 ⟨m1kp, m1kc, m1ks, m1rp, m1rc, m1rs⟩ m2 (HM1.out.1.on hy2) hi2 (HFR2.out _ HM1.out.2) (HFR2.out _ hk2) (HM1.out.2.trans hk2.symm))
          clear hy2 hi2 hk2 HM1 HY1
          obtain ⟨m2kp, m2kc, m2ks, m2rp, m2rc, m2rs⟩ := m2
          simp only [encMx, Mx.ksl, Mx.rsl] at H12 ⊢
          go_wp2_with fail
          refine hK.out _ _ ((HS7.out y2 HY2.out)) (fun hHeld => ?_)
          clear hK K
          try simp only [Act.put, List.setIfInBounds_toArray, List.set_cons_zero, List.set_cons_succ]
          clear hHeld
          refine wpAnyH_ready (rs := [8]) (by kernel_rfl) (by simp) ?_
          refine AllReadyH.cons (at_drop0 rfl) (fun K hK => ?_) AllReadyH.nil
          rw [if_pos (by rfl)]
          go_simp
          refine H12.out.mono ?_
          rintro e y3 ⟨rfl, hy3⟩
          have HY3 : Hid (Below w5.heap.size w5 y3) := bel_then HY2.out HY2.out.size hy3
          clear hy3 H12 HY2
          go_wp2_with fail
          refine hK.out _ _ ((HS7.out y3 HY3.out)) (fun hHeld => ?_)
          clear hK K
          try simp only [Act.put, List.setIfInBounds_toArray, List.set_cons_zero, List.set_cons_succ]
          refine take_val (i := 9) (.bool true) rfl (by kernel_rfl) (by kernel_rfl) (by kernel_rfl) (fun _ _ _ h => h) (by rfl) (fun w hSw => by go_simp) hHeld ?_
          simp only [Act.put, List.setIfInBounds_toArray, List.set_cons_zero, List.set_cons_succ]
          refine wpAnyH_done (by kernel_rfl) ?_ _
          clear hHeld
          have HE := hid (HBW0.out y3 (HB5V.out y3 HY3.out))
          go_wp2_with fail
          go_ret
          exact ⟨rfl, HE.out⟩

    end Go.Proofs.Ythdakljoabbghaa

/-
  The laws of stage 12: the chapter's examples, as data.
-/
namespace Go.Proofs.Ythdakljoabbghaa
open Go.RowKit

def gmA : ByteArray := ⟨#[65]⟩
def gma : Ky := (⟨#[65]⟩, ⟨#[97]⟩)
def gmt : Tm := (⟨#[110]⟩, 1, ⟨#[120]⟩)
def gmX : List Fld := [(⟨#[110]⟩, [⟨#[120]⟩])]
def gmY : List Fld := [(⟨#[110]⟩, [⟨#[121]⟩])]
def gmR : Rg := (⟨#[65]⟩, [gmt])
def gmC : Ch := ⟨gma, true, gmX, true, gmY⟩
def gmD : Ch := ⟨gma, false, [], true, gmY⟩
def gmM : Mk := ([gma], [gmR])
theorem gm_tc : touchesM gmR gmC = true := by decide +kernel
theorem gm_td : touchesM gmR gmD = false := by decide +kernel
theorem gm_key : keyM ([], []) gma = ([gma], []) := by rfl
theorem gm_range : rangeM ([gma], []) gmR = gmM := by rfl
theorem gm_hits : hitsM gmM [gmD] = true := by decide
theorem gm_hitc : hitM gmM gmC = true := by decide
theorem gm_which : whichM gmM [gmC] = [gma] := by
  unfold whichM
  rw [List.foldl_cons, if_pos gm_hitc]
  rfl
theorem gm_union : unionM gmM gmM = gmM := by
  have h1 : gmM.1.foldl (fun acc k => insR ltKy k acc) (sortK gmM.1) = gmM.1 := by
    refine rising_uniqR totK (inss_spec _ _ (sortK_spec _).1).1 (List.pairwise_singleton _ _) fun z => ?_
    rw [(inss_spec _ _ (sortK_spec _).1).2, (sortK_spec _).2]
    simp
  have h2 : gmM.2.foldl putR (gmM.2.foldl putR []) = gmM.2 := by
    show putR (putR [] gmR) gmR = [gmR]
    have e : putR [] gmR = [gmR] := rfl
    rw [e]
    unfold putR
    rw [if_pos (by simp)]
  unfold unionM
  rw [h1, h2]
theorem gm_ne : decide (gmM = (([], []) : Mk)) = false := decide_eq_false fun h => by
  have := congrArg (fun m : Mk => m.1.length) h
  simp [gmM] at this
theorem gm_fit : FitKy12 gma := ⟨by decide, by decide⟩

end Go.Proofs.Ythdakljoabbghaa

/-
  The laws of stage 12: the chapter's examples, walked.
-/
namespace Go.Proofs.Ythdakljoabbghaa
open Go.RowKit

/-- The field n with one text, as it lies. -/
def gmF (t : ByteArray) (b : Nat) : List Fx := [⟨⟨#[110]⟩, some ⟨b, 0, none⟩, 1, [t]⟩]
theorem gmf_is {W : World} {t : ByteArray} {b c : Nat} (h1 : W.heap[c]? = some (.cells #[.string ⟨#[110]⟩, .slice (some ⟨b, 0, none⟩) 1 1] 64 (0, 0))) (h2 : W.heap[b]? = some (.cells #[.string t] 9 (0, 0))) : IsXs W (.slice (some ⟨c, 0, none⟩) 1 1) (gmF t b) := by
  refine ⟨_, _, rfl, Or.inr ⟨_, _, rfl, fun i hi => ?_⟩, fun x hx => ?_⟩
  · have hi' : i = 0 := by simpa [gmF] using hi
    subst hi'
    exact ⟨by rw [Lib.cell_of_heap h1]; rfl, by rw [Lib.cell_of_heap h1]; rfl⟩
  · rw [gmF, List.mem_singleton] at hx
    subst hx
    refine Or.inr ⟨_, _, rfl, fun i hi => ?_⟩
    have hi' : i = 0 := by simpa using hi
    subst hi'
    rw [Lib.cell_of_heap h2]; rfl
theorem gmf_cp (t : ByteArray) (b : Nat) : CopyX (gmF t b) := by
  refine ⟨by simp [gmF], fun x hx => ?_⟩
  rw [gmF, List.mem_singleton] at hx
  subst hx
  show 1 * 16 ≤ _
  omega
theorem copyX_nil : CopyX [] := ⟨by simp, fun x hx => by cases hx⟩
theorem gmf_fit (t : ByteArray) (b : Nat) (h : t.size ≤ 1) : FitX (gmF t b) := by
  refine ⟨by unfold maxLen; simp [gmF], fun x hx => ?_⟩
  rw [gmF, List.mem_singleton] at hx
  subst hx
  refine ⟨show (⟨#[110]⟩ : ByteArray).size ≤ maxLen by decide, show [t].length ≤ maxLen by unfold maxLen; simp, fun t' ht => ?_⟩
  have e : t' = t := by simpa [Fx.fld] using ht
  subst e
  unfold maxLen
  omega

/-- The nine blocks that are laid first. -/
def gmBlocks (N : Nat) : List (Array Value × TypeId) := [
  (#[.string ⟨#[120]⟩], 9), (#[.string ⟨#[110]⟩, .slice (some ⟨N, 0, none⟩) 1 1], 64),
  (#[.string ⟨#[121]⟩], 9), (#[.string ⟨#[110]⟩, .slice (some ⟨N + 2, 0, none⟩) 1 1], 64),
  (#[.string ⟨#[65]⟩, .string ⟨#[97]⟩], 27),
  (#[.string ⟨#[110]⟩, .int .i64 1, .string ⟨#[120]⟩], 58), (#[.string ⟨#[65]⟩, .slice (some ⟨N + 5, 0, none⟩) 1 1], 34),
  (#[.string ⟨#[65]⟩, .string ⟨#[97]⟩, .bool true, .slice (some ⟨N + 1, 0, none⟩) 1 1, .bool true, .slice (some ⟨N + 3, 0, none⟩) 1 1], 43),
  (#[.string ⟨#[65]⟩, .string ⟨#[97]⟩, .bool false, .slice none 0 0, .bool true, .slice (some ⟨N + 3, 0, none⟩) 1 1], 43)]
/-- Blocks laid one behind the other. -/
def laidB (w : World) (l : List (Array Value × TypeId)) : World := l.foldl (fun w x => w.alloc (.cells x.1 x.2)) w
theorem laidB_spec : ∀ (l : List (Array Value × TypeId)) (w : World), Below w.heap.size w (laidB w l) ∧ (laidB w l).heap.size = w.heap.size + l.length ∧ ∀ i (h : i < l.length), (laidB w l).heap[w.heap.size + i]? = some (.cells (l[i]).1 (l[i]).2 (0, 0))
  | [], w => ⟨Below.refl _ _, rfl, fun i h => by simp at h⟩
  | x :: r, w => by
    obtain ⟨h1, h2, h3⟩ := laidB_spec r (w.alloc (.cells x.1 x.2))
    have hs : (w.alloc (.cells x.1 x.2)).heap.size = w.heap.size + 1 := by simp
    have hb : Below w.heap.size w (w.alloc (.cells x.1 x.2)) := (Below.refl _ _).alloc (Nat.le_refl _) _
    have e : laidB w (x :: r) = laidB (w.alloc (.cells x.1 x.2)) r := rfl
    rw [e]
    refine ⟨bel_then hb (by omega) h1, by rw [h2, hs, List.length_cons]; omega, fun i h => ?_⟩
    cases i with
    | zero =>
      rw [Nat.add_zero, h1.block _ (by omega)]
      exact heap_alloc_new w _
    | succ i =>
      have := h3 i (by simpa using h)
      rw [hs] at this
      rw [show w.heap.size + (i + 1) = w.heap.size + 1 + i by omega]
      exact this

/-- The state between the calls of 'm := marks.Range(marks.Key(..), ..)'. -/
def GmSt (V : World) (k : Nat) (fl : List Bool) (v27 v30 v7 : Value) (w : World) : Prop := ∃ (B : Nat) (m1 m : Mx), Below V.heap.size V w ∧ (k = 3 → fl = [true]) ∧
  (fl = [true] → v7 = .pointer (some ⟨B, 0, none⟩) ∧ V.heap.size ≤ B ∧ w.heap[B]? = some (.cells (if k = 3 then (encMx m).toArray else #[.slice none 0 0, .slice none 0 0]) 25 (0, 0))) ∧
  (1 ≤ k → v27 = .agg (encMx m1).toArray ∧ m1.mk' = ([gma], []) ∧ ∀ w', Fr (fun b => fl = [true] ∧ b = B) w w' → MIn w' m1) ∧
  (2 ≤ k → v30 = .agg (encMx m).toArray ∧ m.mk' = gmM ∧ ∀ w', Fr (fun b => fl = [true] ∧ b = B) w w' → MIn w' m)

theorem gmSt_start {V w : World} (v27 v30 v7 : Value) (h : Below V.heap.size V w) : GmSt V 0 [false] v27 v30 v7 w :=
  ⟨0, default, default, h, (fun h => by omega), (fun h => by cases h), (fun h => by omega), (fun h => by omega)⟩
theorem gmSt_key {V w w2 : World} {fl : List Bool} {v27 v30 v7 : Value} {m2 : Mx} (h : GmSt V 0 fl v27 v30 v7 w) (ho : MOwn w.heap.size w2 m2) (hk : m2.mk' = ([gma], [])) (hb2 : Below w.heap.size w w2) : GmSt V 1 fl (.agg (encMx m2).toArray) v30 v7 w2 := by
  obtain ⟨B, m1, m, hb, hg3, hbox, hm1, hm⟩ := h
  exact ⟨B, m2, m, bel_then hb hb.size hb2, (fun h => by omega), (fun h => by
    obtain ⟨h1, h2, h3⟩ := hbox h
    exact ⟨h1, h2, (hb2.block B (Array.getElem?_eq_some_iff.1 h3).1).trans h3⟩), (fun _ => ⟨rfl, hk, fun w3 f => (ho.fr f fun k hk => by
      obtain ⟨h, rfl⟩ := hk
      exact (Array.getElem?_eq_some_iff.1 (hbox h).2.2).1).inn⟩), (fun h => by omega)⟩
theorem gmSt_range {V w w2 : World} {fl : List Bool} {v27 v30 v7 : Value} {m2 : Mx} (h : GmSt V 1 fl v27 v30 v7 w) (ho : MOwn w.heap.size w2 m2) (hk : m2.mk' = gmM) (hb2 : Below w.heap.size w w2) : GmSt V 2 fl v27 (.agg (encMx m2).toArray) v7 w2 := by
  obtain ⟨B, m1, m, hb, hg3, hbox, hm1, hm⟩ := h
  exact ⟨B, m1, m2, bel_then hb hb.size hb2, (fun h => by omega), (fun h => by
    obtain ⟨h1, h2, h3⟩ := hbox h
    exact ⟨h1, h2, (hb2.block B (Array.getElem?_eq_some_iff.1 h3).1).trans h3⟩), (fun _ => by
    obtain ⟨h1, h2, h3⟩ := hm1 (Nat.le_refl _)
    exact ⟨h1, h2, fun w3 f => h3 w3 ((Fr.of_below hb2).then f fun k hk => Or.inl hk)⟩), (fun _ => ⟨rfl, hk, fun w3 f => (ho.fr f fun k hk => by
      obtain ⟨h, rfl⟩ := hk
      exact (Array.getElem?_eq_some_iff.1 (hbox h).2.2).1).inn⟩)⟩
theorem gmSt_alloc {V w : World} {k : Nat} {v27 v30 v7 : Value} (h : GmSt V k [false] v27 v30 v7 w) (hk3 : k ≤ 3) : GmSt V k [true] v27 v30 (.pointer (some ⟨w.heap.size, 0, none⟩)) (w.alloc (.cells #[.slice none 0 0, .slice none 0 0] 25)) := by
  obtain ⟨B, m1, m, hb, hg3, hbox, hm1, hm⟩ := h
  have hk : k ≤ 2 := by
    rcases Nat.lt_or_ge k 3 with h | h
    · omega
    · have := hg3 (by omega)
      cases this
  have hal : Below w.heap.size w (w.alloc (.cells #[.slice none 0 0, .slice none 0 0] 25)) := (Below.refl _ _).alloc (Nat.le_refl _) _
  have hfr : ∀ w', Fr (fun b => [true] = [true] ∧ b = w.heap.size) (w.alloc (.cells #[.slice none 0 0, .slice none 0 0] 25)) w' → Fr (fun b => [false] = [true] ∧ b = B) w w' := fun w' f => (Fr.of_below hal).then f fun k hk => Or.inr (Nat.le_of_eq hk.2.symm)
  refine ⟨w.heap.size, m1, m, bel_then hb hb.size hal, (fun _ => rfl), (fun _ => ⟨rfl, hb.size, ?_⟩), (fun h => ?_), (fun h => ?_)⟩
  · rw [if_neg (by omega)]
    exact heap_alloc_new w _
  · obtain ⟨h1, h2, h3⟩ := hm1 h
    exact ⟨h1, h2, fun w3 f => h3 w3 (hfr w3 f)⟩
  · obtain ⟨h1, h2, h3⟩ := hm h
    exact ⟨h1, h2, fun w3 f => h3 w3 (hfr w3 f)⟩
/-- A row of one change in a block of its own. -/
theorem one_at {W : World} {Z : Nat} {c : Cx} (h : W.heap[Z]? = some (.cells (encCx c).toArray 43 (0, 0))) : KCx.At W Z 0 [c] := fun i hi j u hu => by
  have hi' : i = 0 := by simpa using hi
  subst hi'
  have hj : j < 6 := (List.getElem?_eq_some_iff.1 hu).1
  rw [Lib.cell_of_heap h]
  rcases j with _ | _ | _ | _ | _ | _ | j
  all_goals first | exact hu | omega
/-- What lies behind the region: the marks in a box. -/
structure GmEnd (V : World) (B : Nat) (m : Mx) (w : World) : Prop where
  bel : Below V.heap.size V w
  low : V.heap.size ≤ B
  box : w.heap[B]? = some (.cells (encMx m).toArray 25 (0, 0))
  is : m.mk' = gmM
  inn : MIn w m
theorem gmSt_store {V w : World} {v27 v30 v7 : Value} (h : GmSt V 2 [true] v27 v30 v7 w) : ∃ B m, v7 = .pointer (some ⟨B, 0, none⟩) ∧ v30 = .agg (encMx m).toArray ∧ (w.cell? ⟨B, 0, none⟩ = some (.slice none 0 0) ∧ w.cell? ⟨B, 1, none⟩ = some (.slice none 0 0) ∧ w.frozen? ⟨B, 0, none⟩ = false ∧ w.frozen? ⟨B, 1, none⟩ = false) ∧ GmSt V 3 [true] v27 v30 v7 ((w.setCell ⟨B, 0, none⟩ m.ksl).setCell ⟨B, 1, none⟩ m.rsl) := by
  obtain ⟨B, m1, m, hb, hg3, hbox, hm1, hm⟩ := h
  obtain ⟨h1, h2, h3⟩ := hbox rfl
  rw [if_neg (by omega)] at h3
  obtain ⟨h4, h5, h6⟩ := hm (Nat.le_refl _)
  refine ⟨B, m, h1, h4, ⟨by rw [Lib.cell_of_heap h3]; rfl, by rw [Lib.cell_of_heap h3]; rfl, Lib.frozen_of_heap h3 0, Lib.frozen_of_heap h3 1⟩, ?_⟩
  have hlt := (Array.getElem?_eq_some_iff.1 h3).1
  have e1 : (w.setCell ⟨B, 0, none⟩ m.ksl).heap[B]? = some (.cells #[m.ksl, .slice none 0 0] 25 (0, 0)) := heap_setCell_same w B 0 _ _ _ h3
  have e2 : ((w.setCell ⟨B, 0, none⟩ m.ksl).setCell ⟨B, 1, none⟩ m.rsl).heap[B]? = some (.cells #[m.ksl, m.rsl] 25 (0, 0)) := heap_setCell_same _ B 1 _ _ _ e1
  have hfr : Fr (fun b => [true] = [true] ∧ b = B) w ((w.setCell ⟨B, 0, none⟩ m.ksl).setCell ⟨B, 1, none⟩ m.rsl) := ⟨rfl, rfl, rfl, by simp, fun k _ hn => by
    rw [heap_setCell_other _ _ k _ (fun e => hn ⟨rfl, e⟩), heap_setCell_other _ _ k _ (fun e => hn ⟨rfl, e⟩)]⟩
  refine ⟨B, m1, m, hb.trans (hfr.below (by have := hb.size; omega) fun k hk => by have := hk.2; omega), (fun _ => rfl), (fun _ => ⟨h1, h2, ?_⟩), (fun _ => ?_), (fun _ => ⟨h4, h5, fun w3 f => h6 w3 (hfr.then f fun k hk => Or.inl hk)⟩)⟩
  · rw [if_pos rfl]
    exact e2
  · obtain ⟨h7, h8, h9⟩ := hm1 (by omega)
    exact ⟨h7, h8, fun w3 f => h9 w3 (hfr.then f fun k hk => Or.inl hk)⟩
theorem gmSt_end {V w : World} {v27 v30 v7 : Value} (h : GmSt V 3 [true] v27 v30 v7 w) : ∃ B m, v7 = .pointer (some ⟨B, 0, none⟩) ∧ GmEnd V B m w := by
  obtain ⟨B, m1, m, hb, hg3, hbox, hm1, hm⟩ := h
  obtain ⟨h1, h2, h3⟩ := hbox rfl
  obtain ⟨h4, h5, h6⟩ := hm (by omega)
  rw [if_pos rfl] at h3
  exact ⟨B, m, h1, hb, h2, h3, h5, h6 w (Fr.refl _ _)⟩

set_option linter.unusedSimpArgs false in
set_option maxHeartbeats 8000000 in
set_option maxRecDepth 100000 in
theorem fixed12_any (S : MarksApi) : Fixed12 := by
  intro w
  obtain ⟨N, hN⟩ : ∃ N, w.heap.size = N := ⟨_, rfl⟩
  obtain ⟨V, hV⟩ : ∃ V, laidB w (gmBlocks N) = V := ⟨_, rfl⟩
  obtain ⟨hbV, hsV, hcV⟩ := laidB_spec (gmBlocks N) w
  rw [hV] at hbV hsV hcV
  rw [hN] at hsV hcV
  have hsV' : V.heap.size = N + 9 := hsV
  have HBL : Hid (∀ W', Below V.heap.size V W' → ∀ i (h : i < 9), W'.heap[N + i]? = some (.cells ((gmBlocks N)[i]'h).1 ((gmBlocks N)[i]'h).2 (0, 0))) := fun W' hW i h => (hW.block _ (by omega)).trans (hcV i h)
  have hV' : ((((((((w.alloc (.cells #[.string ⟨#[120]⟩] 9)).alloc (.cells #[.string ⟨#[110]⟩, .slice (some ⟨N, 0, none⟩) 1 1] 64)).alloc (.cells #[.string ⟨#[121]⟩] 9)).alloc (.cells #[.string ⟨#[110]⟩, .slice (some ⟨N + 2, 0, none⟩) 1 1] 64)).alloc (.cells #[.string ⟨#[65]⟩, .string ⟨#[97]⟩] 27)).alloc (.cells #[.string ⟨#[110]⟩, .int .i64 1, .string ⟨#[120]⟩] 58)).alloc (.cells #[.string ⟨#[65]⟩, .slice (some ⟨N + 5, 0, none⟩) 1 1] 34)).alloc (.cells #[.string ⟨#[65]⟩, .string ⟨#[97]⟩, .bool true, .slice (some ⟨N + 1, 0, none⟩) 1 1, .bool true, .slice (some ⟨N + 3, 0, none⟩) 1 1] 43)).alloc (.cells #[.string ⟨#[65]⟩, .string ⟨#[97]⟩, .bool false, .slice none 0 0, .bool true, .slice (some ⟨N + 3, 0, none⟩) 1 1] 43) = V := hV
  clear hV hcV hsV
  go_enter Try.func9, Try.ntmps9
  go_upto_region 6 with fail
  simp only [Nat.add_assoc, Nat.reduceAdd]
  try rw [hV']
  clear hV'
  have HS6 : Hid (∀ W', Below V.heap.size V W' → W'.cell? ⟨N + 4, 0, none⟩ = some (.string ⟨#[65]⟩) ∧ W'.cell? ⟨N + 4, 1, none⟩ = some (.string ⟨#[97]⟩) ∧ W'.cell? ⟨N + 6, 0, none⟩ = some (.string ⟨#[65]⟩) ∧ W'.cell? ⟨N + 6, 1, none⟩ = some (.slice (some ⟨N + 5, 0, none⟩) 1 1)) := fun W' hW => by
    have e4 := HBL.out W' hW 4 (by omega)
    have e6 := HBL.out W' hW 6 (by omega)
    exact ⟨by rw [Lib.cell_of_heap e4]; rfl, by rw [Lib.cell_of_heap e4]; rfl, by rw [Lib.cell_of_heap e6]; rfl, by rw [Lib.cell_of_heap e6]; rfl⟩
  have HRG : Hid (∀ W', Below V.heap.size V W' → (⟨⟨#[65]⟩, some ⟨N + 5, 0, none⟩, 1, [gmt]⟩ : Rx).at W') := fun W' hW => by
    have e5 := HBL.out W' hW 5 (by omega)
    refine ⟨⟨_, _, rfl, Or.inr ⟨_, _, rfl, fun i hi j u hu => ?_⟩⟩, ⟨⟨by unfold maxLen; simp, fun x hx => ?_⟩, by simp⟩⟩
    · have hi' : i = 0 := by simpa using hi
      subst hi'
      have hj : j < 3 := (List.getElem?_eq_some_iff.1 hu).1
      rw [Lib.cell_of_heap e5]
      rcases j with _ | _ | _ | j
      all_goals first | exact hu | omega
    · obtain rfl : x = gmt := by simpa using hx
      exact ⟨by decide, by decide, by decide, by decide⟩
  refine wp_region_held_drew (S := fun w' => w'.cell? ⟨N + 4, 0, none⟩ = some (.string ⟨#[65]⟩) ∧ w'.cell? ⟨N + 4, 1, none⟩ = some (.string ⟨#[97]⟩) ∧ w'.cell? ⟨N + 6, 0, none⟩ = some (.string ⟨#[65]⟩) ∧ w'.cell? ⟨N + 6, 1, none⟩ = some (.slice (some ⟨N + 5, 0, none⟩) 1 1)) (by kernel_rfl) (HS6.out V.drew (bel_drewN (Below.refl _ _) 1)) (fun hHeld => ?_)
  refine take_val (i := 0) (.agg #[.slice none 0 0, .slice none 0 0]) rfl (by kernel_rfl) (by kernel_rfl) (by kernel_rfl) (fun _ _ _ h => h) (by rfl) (fun w hSw => by go_simp) hHeld ?_
  simp only [Act.put, List.setIfInBounds_toArray, List.set_cons_zero, List.set_cons_succ]
  refine take_val (i := 1) (.agg #[.string ⟨#[65]⟩, .string ⟨#[97]⟩]) rfl (by kernel_rfl) (by kernel_rfl) (by kernel_rfl) (fun _ _ _ h => h) (by rfl) (fun w hSw => by go_simp) hHeld ?_
  simp only [Act.put, List.setIfInBounds_toArray, List.set_cons_zero, List.set_cons_succ]
  refine take_val (i := 3) (.pointer (some ⟨N + 6, 1, none⟩)) rfl (by kernel_rfl) (by kernel_rfl) (by kernel_rfl) (fun _ _ _ h => h) (by rfl) (fun w hSw => by go_simp) hHeld ?_
  simp only [Act.put, List.setIfInBounds_toArray, List.set_cons_zero, List.set_cons_succ]
  refine take_val (i := 4) (.slice (some ⟨N + 5, 0, none⟩) 1 1) rfl (by kernel_rfl) (by kernel_rfl) (by kernel_rfl) (fun _ _ _ h => h) (by rfl) (fun w hSw => by go_simp) hHeld ?_
  simp only [Act.put, List.setIfInBounds_toArray, List.set_cons_zero, List.set_cons_succ]
  clear hHeld
  refine wpAnyH_floats [2, 5, 7] [6] (fun a0 k fl a w' => ∃ v27 v30 v7, a = putS a0 [(27, v27), (30, v30), (7, v7)] ∧ GmSt V k fl v27 v30 v7 w') (by kernel_rfl) (by decide) ⟨_, _, _, (putS_self _ [27, 30, 7]).symm, gmSt_start _ _ _ (bel_drewN (Below.refl _ _) 1)⟩ ?hS ?hmain ?halloc ?hend
  case hS =>
    rintro k fl a w' ⟨v27, v30, v7, _, B, m1, m, hb, _⟩
    exact HS6.out w' hb
  case hmain =>
    rintro k i fl a w' hk hfl hrd ⟨v27, v30, v7, rfl, hst⟩
    rcases k with _ | _ | _ | k
    · obtain rfl : i = 2 := by simpa using hk.symm
      have HK := hid (S.key w' ⟨none, 0, [], none, 0, []⟩ gma ⟨KK.is_nil w', KRx.is_nil w', fun r hr => by cases hr⟩ ⟨by decide, by decide⟩ gm_fit (fun x hx => by cases hx))
      simp only [encMx, Mx.ksl, Mx.rsl, gma, List.length_nil] at HK
      have HST := hid hst
      clear hrd hst
      refine ⟨_, at_drop0 rfl, fun K hK => ?_⟩
      simp only [putS, List.foldl_cons, List.foldl_nil, Act.put, List.setIfInBounds_toArray, List.set_cons_zero, List.set_cons_succ]
      rw [if_pos (by rfl)]
      go_simp
      refine HK.out.mono ?_
      rintro e w2 ⟨m2, rfl, ho2, hk2, hb2⟩
      have HST2 := hid (gmSt_key HST.out ho2 hk2 hb2)
      clear hk2 ho2 hb2 HST
      go_wp2_with fail
      exact hK.out _ _ ⟨_, v30, v7, rfl, HST2.out⟩
    · obtain rfl : i = 5 := by simpa using hk.symm
      obtain ⟨B, m1, m, hb, _, hbox, hm1, hm⟩ := id hst
      obtain ⟨e1, e2, e3⟩ := hm1 (Nat.le_refl _)
      have e4 : m1.ks = [gma] := congrArg Prod.fst e2
      have e5 : m1.rs = [] := List.map_eq_nil_iff.1 (congrArg Prod.snd e2)
      have HK := hid (S.range w' m1 ⟨⟨#[65]⟩, some ⟨N + 5, 0, none⟩, 1, [gmt]⟩ (e3 w' (Fr.refl _ _)) ⟨by rw [e4]; decide, by rw [e5]; decide⟩ (HRG.out w' hb))
      rw [e2] at HK
      have HST := hid hst
      subst e1
      clear hrd hst hbox hm1 hm e2 e3
      obtain ⟨kp, kc, ks, rp, rc, rs⟩ := m1
      simp only at e4 e5
      subst e4 e5
      simp only [encMx, Mx.ksl, Mx.rsl, Rx.sl, List.length_cons, List.length_nil, Nat.zero_add] at HK HST
      refine ⟨_, at_drop0 rfl, fun K hK => ?_⟩
      simp only [encMx, Mx.ksl, Mx.rsl, List.length_cons, List.length_nil, Nat.zero_add, putS, List.foldl_cons, List.foldl_nil, Act.put, List.setIfInBounds_toArray, List.set_cons_zero, List.set_cons_succ]
      rw [if_pos (by rfl)]
      go_simp
      refine HK.out.mono ?_
      rintro e w2 ⟨m2, rfl, ho2, hk2, hb2⟩
      have HST2 := hid (gmSt_range HST.out ho2 hk2 hb2)
      clear hk2 ho2 hb2 HST
      go_wp2_with fail
      exact hK.out _ _ ⟨_, _, v7, rfl, HST2.out⟩
    · obtain rfl : i = 7 := by simpa using hk.symm
      obtain ⟨b, rfl⟩ : ∃ b, fl = [b] := by
        match fl, hfl with
        | [b], _ => exact ⟨b, rfl⟩
      cases b with
      | false => exact (not_ready hrd (by kernel_rfl)).elim
      | true =>
        obtain ⟨B, m, rfl, rfl, ⟨c0, c1, z0, z1⟩, hst2⟩ := gmSt_store hst
        have HST2 := hid hst2
        clear hrd hst hst2
        obtain ⟨kp, kc, ks, rp, rc, rs⟩ := m
        simp only [encMx, Mx.ksl, Mx.rsl] at HST2
        refine ⟨_, at_drop0 rfl, fun K hK => ?_⟩
        simp only [encMx, Mx.ksl, Mx.rsl, putS, List.foldl_cons, List.foldl_nil, Act.put, List.setIfInBounds_toArray, List.set_cons_zero, List.set_cons_succ]
        rw [if_pos (by rfl)]
        go_simp
        go_wp2_with fail
        exact hK.out _ _ ⟨v27, _, _, rfl, HST2.out⟩
    · simp at hk
  case halloc =>
    rintro j i k fl a w' hj hk hfl hf ⟨v27, v30, v7, rfl, hst⟩
    obtain ⟨b, rfl⟩ : ∃ b, fl = [b] := by
      match fl, hfl with
      | [b], _ => exact ⟨b, rfl⟩
    rcases j with _ | j
    · obtain rfl : i = 6 := by simpa using hj.symm
      obtain rfl : b = false := by simpa using hf
      have HST2 := hid (gmSt_alloc hst hk)
      clear hst hf hj hk
      refine ⟨_, at_drop0 rfl, fun K hK => ?_⟩
      simp only [putS, List.foldl_cons, List.foldl_nil, Act.put, List.setIfInBounds_toArray, List.set_cons_zero, List.set_cons_succ]
      rw [if_pos (by rfl)]
      go_simp
      go_wp2_with fail
      exact hK.out _ _ ⟨v27, v30, _, rfl, HST2.out⟩
    · simp at hj
  case hend =>
    rintro a w' ⟨v27, v30, v7, rfl, hst⟩
    obtain ⟨B, m, rfl, hE⟩ := gmSt_end hst
    clear hst
    simp only [putS, List.foldl_cons, List.foldl_nil, Act.put, List.setIfInBounds_toArray, List.set_cons_zero, List.set_cons_succ]
    obtain ⟨kp, kc, ks, rp, rc, rs⟩ := m
    obtain rfl : ks = [gma] := congrArg Prod.fst hE.is
    obtain ⟨r1, rfl⟩ : ∃ r1, rs = [r1] := by
      have := congrArg (fun x : Mk => x.2.length) hE.is
      simp only [Mx.mk', List.length_map] at this
      match rs, this with
      | [r1], _ => exact ⟨r1, rfl⟩
    have HE := hid hE
    have hlB : B < w'.heap.size := (Array.getElem?_eq_some_iff.1 hE.box).1
    have HIN : Hid (∀ W', Below w'.heap.size w' W' → (W'.cell? ⟨N + 6, 0, none⟩ = some (.string ⟨#[65]⟩) ∧ W'.cell? ⟨N + 6, 1, none⟩ = some (.slice (some ⟨N + 5, 0, none⟩) 1 1) ∧ W'.cell? ⟨N + 7, 0, none⟩ = some (.string ⟨#[65]⟩) ∧ W'.cell? ⟨N + 7, 1, none⟩ = some (.string ⟨#[97]⟩) ∧ W'.cell? ⟨N + 7, 2, none⟩ = some (.bool true) ∧ W'.cell? ⟨N + 7, 3, none⟩ = some (.slice (some ⟨N + 1, 0, none⟩) 1 1) ∧ W'.cell? ⟨N + 7, 4, none⟩ = some (.bool true) ∧ W'.cell? ⟨N + 7, 5, none⟩ = some (.slice (some ⟨N + 3, 0, none⟩) 1 1) ∧ W'.cell? ⟨N + 8, 0, none⟩ = some (.string ⟨#[65]⟩) ∧ W'.cell? ⟨N + 8, 1, none⟩ = some (.string ⟨#[97]⟩) ∧ W'.cell? ⟨N + 8, 2, none⟩ = some (.bool false) ∧ W'.cell? ⟨N + 8, 3, none⟩ = some (.slice none 0 0) ∧ W'.cell? ⟨N + 8, 4, none⟩ = some (.bool true) ∧ W'.cell? ⟨N + 8, 5, none⟩ = some (.slice (some ⟨N + 3, 0, none⟩) 1 1) ∧ W'.cell? ⟨B, 0, none⟩ = some (.slice kp 1 kc) ∧ W'.cell? ⟨B, 1, none⟩ = some (.slice rp 1 rc)) ∧ MIn W' ⟨kp, kc, [gma], rp, rc, [r1]⟩ ∧ Below V.heap.size V W') := fun W' hW => by
      have hVW : Below V.heap.size V W' := bel_then HE.out.bel HE.out.bel.size hW
      have e6 := HBL.out W' hVW 6 (by omega)
      have e7 := HBL.out W' hVW 7 (by omega)
      have e8 := HBL.out W' hVW 8 (by omega)
      have eB := (hW.block B hlB).trans HE.out.box
      refine ⟨⟨?_, ?_, ?_, ?_, ?_, ?_, ?_, ?_, ?_, ?_, ?_, ?_, ?_, ?_, ?_, ?_⟩, HE.out.inn.on hW, hVW⟩
      · rw [Lib.cell_of_heap e6]; rfl
      · rw [Lib.cell_of_heap e6]; rfl
      iterate 6 (· rw [Lib.cell_of_heap e7]; rfl)
      iterate 6 (· rw [Lib.cell_of_heap e8]; rfl)
      · rw [Lib.cell_of_heap eB]; rfl
      · rw [Lib.cell_of_heap eB]; rfl
    have HC : Hid (∀ W', Below V.heap.size V W' → CIn W' ⟨⟨#[65]⟩, ⟨#[97]⟩, true, some ⟨N + 1, 0, none⟩, 1, gmF ⟨#[120]⟩ N, true, some ⟨N + 3, 0, none⟩, 1, gmF ⟨#[121]⟩ (N + 2)⟩) := fun W' hW =>
      ⟨gmf_is (HBL.out W' hW 1 (by omega)) (HBL.out W' hW 0 (by omega)), gmf_fit _ _ (by decide), gmf_is (HBL.out W' hW 3 (by omega)) (HBL.out W' hW 2 (by omega)), gmf_fit _ _ (by decide), gmf_cp _ _, gmf_cp _ _⟩
    have HD : Hid (∀ W', Below V.heap.size V W' → CIn W' ⟨⟨#[65]⟩, ⟨#[97]⟩, false, none, 0, [], true, some ⟨N + 3, 0, none⟩, 1, gmF ⟨#[121]⟩ (N + 2)⟩) := fun W' hW =>
      ⟨⟨_, _, rfl, Or.inl rfl, fun x hx => by cases hx⟩, ⟨by unfold maxLen; simp, fun x hx => by cases hx⟩, gmf_is (HBL.out W' hW 3 (by omega)) (HBL.out W' hW 2 (by omega)), gmf_fit _ _ (by decide), copyX_nil, gmf_cp _ _⟩
    have HTC : Hid (∀ W', Below w'.heap.size w' W' → Calls Try.prog 23 #[.agg #[.string ⟨#[65]⟩, .slice (some ⟨N + 5, 0, none⟩) 1 1], .agg #[.string ⟨#[65]⟩, .string ⟨#[97]⟩, .bool true, .slice (some ⟨N + 1, 0, none⟩) 1 1, .bool true, .slice (some ⟨N + 3, 0, none⟩) 1 1]] W' fun e w' => BoolPost W' true e w') := fun W' hW => by
      have := S.touches W' _ _ (HRG.out W' (HIN.out W' hW).2.2) (HC.out W' (HIN.out W' hW).2.2)
      refine this.mono fun e x h => ?_
      have h' : e = .returned (.bool (touchesM gmR gmC)) ∧ Below W'.heap.size W' x := h
      rw [gm_tc] at h'
      exact h'
    have HTD : Hid (∀ W', Below w'.heap.size w' W' → Calls Try.prog 23 #[.agg #[.string ⟨#[65]⟩, .slice (some ⟨N + 5, 0, none⟩) 1 1], .agg #[.string ⟨#[65]⟩, .string ⟨#[97]⟩, .bool false, .slice none 0 0, .bool true, .slice (some ⟨N + 3, 0, none⟩) 1 1]] W' fun e w' => BoolPost W' false e w') := fun W' hW => by
      have := S.touches W' _ _ (HRG.out W' (HIN.out W' hW).2.2) (HD.out W' (HIN.out W' hW).2.2)
      refine this.mono fun e x h => ?_
      have h' : e = .returned (.bool (touchesM gmR gmD)) ∧ Below W'.heap.size W' x := h
      rw [gm_td] at h'
      exact h'
    have hfew : FewM ⟨kp, kc, [gma], rp, rc, [r1]⟩ := ⟨by show 1 < _; decide, by show 1 < _; decide⟩
    have HHI : Hid (∀ W' Z, Below w'.heap.size w' W' → W'.heap[Z]? = some (.cells #[.string ⟨#[65]⟩, .string ⟨#[97]⟩, .bool false, .slice none 0 0, .bool true, .slice (some ⟨N + 3, 0, none⟩) 1 1] 43 (0, 0)) → Calls Try.prog 19 #[.agg #[.slice kp 1 kc, .slice rp 1 rc], .slice (some ⟨Z, 0, none⟩) 1 1] W' fun e w' => BoolPost W' true e w') := fun W' Z hW hZ => by
      have := S.hits W' ⟨kp, kc, [gma], rp, rc, [r1]⟩ (.slice (some ⟨Z, 0, none⟩) 1 1) [⟨⟨#[65]⟩, ⟨#[97]⟩, false, none, 0, [], true, some ⟨N + 3, 0, none⟩, 1, gmF ⟨#[121]⟩ (N + 2)⟩] (HIN.out W' hW).2.1 hfew.len ⟨⟨_, _, rfl, Or.inr ⟨_, _, rfl, one_at hZ⟩⟩, fun c hc => by rw [List.mem_singleton] at hc; subst hc; exact HD.out W' (HIN.out W' hW).2.2⟩ (by show 1 < _; decide)
      rw [HE.out.is] at this
      refine this.mono fun e x h => ?_
      have h' : e = .returned (.bool (hitsM gmM [gmD])) ∧ Below W'.heap.size W' x := h
      rw [gm_hits] at h'
      exact h'
    have HWH : Hid (∀ W' Z, Below w'.heap.size w' W' → W'.heap[Z]? = some (.cells #[.string ⟨#[65]⟩, .string ⟨#[97]⟩, .bool true, .slice (some ⟨N + 1, 0, none⟩) 1 1, .bool true, .slice (some ⟨N + 3, 0, none⟩) 1 1] 43 (0, 0)) → Calls Try.prog 18 #[.agg #[.slice kp 1 kc, .slice rp 1 rc], .slice (some ⟨Z, 0, none⟩) 1 1] W' fun e w' => KeyRPost W' [gma] e w') := fun W' Z hW hZ => by
      have := S.which W' ⟨kp, kc, [gma], rp, rc, [r1]⟩ (.slice (some ⟨Z, 0, none⟩) 1 1) [⟨⟨#[65]⟩, ⟨#[97]⟩, true, some ⟨N + 1, 0, none⟩, 1, gmF ⟨#[120]⟩ N, true, some ⟨N + 3, 0, none⟩, 1, gmF ⟨#[121]⟩ (N + 2)⟩] (HIN.out W' hW).2.1 hfew.len ⟨⟨_, _, rfl, Or.inr ⟨_, _, rfl, one_at hZ⟩⟩, fun c hc => by rw [List.mem_singleton] at hc; subst hc; exact HC.out W' (HIN.out W' hW).2.2⟩ (by show 1 < _; decide)
      rw [HE.out.is] at this
      refine this.mono fun e x h => ?_
      have h' : KeyRPost W' (whichM gmM [gmC]) e x := h
      rw [gm_which] at h'
      exact h'
    have HUN : Hid (∀ W', Below w'.heap.size w' W' → Calls Try.prog 12 #[.agg #[.slice kp 1 kc, .slice rp 1 rc], .agg #[.slice kp 1 kc, .slice rp 1 rc]] W' fun e w' => MOwnPost W' gmM e w') := fun W' hW => by
      have := S.union W' ⟨kp, kc, [gma], rp, rc, [r1]⟩ ⟨kp, kc, [gma], rp, rc, [r1]⟩ (HIN.out W' hW).2.1 (HIN.out W' hW).2.1 hfew hfew (fun x hx => by rw [List.mem_singleton] at hx; subst hx; exact gm_fit) (fun x hx => by rw [List.mem_singleton] at hx; subst hx; exact gm_fit)
      rw [HE.out.is, gm_union] at this
      exact this
    have HEQ : Hid (∀ W' m2, Below w'.heap.size w' W' → MIn W' m2 → LenM m2 → Calls Try.prog 15 #[.agg #[.slice kp 1 kc, .slice rp 1 rc], .agg #[m2.ksl, m2.rsl]] W' fun e w' => BoolPost W' (decide (gmM = m2.mk')) e w') := fun W' m2 hW h1 h2 => by
      have := S.equal W' ⟨kp, kc, [gma], rp, rc, [r1]⟩ m2 (HIN.out W' hW).2.1 h1 hfew.len h2
      rw [HE.out.is] at this
      exact this
    have HMI : Hid (∀ W', Below w'.heap.size w' W' → Below w.heap.size w W') := fun W' hW => bel_then hbV hbV.size (HIN.out W' hW).2.2
    clear hE hfew
    go_upto_region 7 with fail
    refine wp_region_held_drew (S := fun W => W.cell? ⟨N + 6, 0, none⟩ = some (.string ⟨#[65]⟩) ∧ W.cell? ⟨N + 6, 1, none⟩ = some (.slice (some ⟨N + 5, 0, none⟩) 1 1) ∧ W.cell? ⟨N + 7, 0, none⟩ = some (.string ⟨#[65]⟩) ∧ W.cell? ⟨N + 7, 1, none⟩ = some (.string ⟨#[97]⟩) ∧ W.cell? ⟨N + 7, 2, none⟩ = some (.bool true) ∧ W.cell? ⟨N + 7, 3, none⟩ = some (.slice (some ⟨N + 1, 0, none⟩) 1 1) ∧ W.cell? ⟨N + 7, 4, none⟩ = some (.bool true) ∧ W.cell? ⟨N + 7, 5, none⟩ = some (.slice (some ⟨N + 3, 0, none⟩) 1 1) ∧ W.cell? ⟨N + 8, 0, none⟩ = some (.string ⟨#[65]⟩) ∧ W.cell? ⟨N + 8, 1, none⟩ = some (.string ⟨#[97]⟩) ∧ W.cell? ⟨N + 8, 2, none⟩ = some (.bool false) ∧ W.cell? ⟨N + 8, 3, none⟩ = some (.slice none 0 0) ∧ W.cell? ⟨N + 8, 4, none⟩ = some (.bool true) ∧ W.cell? ⟨N + 8, 5, none⟩ = some (.slice (some ⟨N + 3, 0, none⟩) 1 1) ∧ W.cell? ⟨B, 0, none⟩ = some (.slice kp 1 kc) ∧ W.cell? ⟨B, 1, none⟩ = some (.slice rp 1 rc)) (by kernel_rfl) (HIN.out w'.drew (bel_drewN (Below.refl _ _) 1)).1 (fun hHeld => ?_)
    refine take_val (i := 0) (.agg #[.string ⟨#[65]⟩, .slice (some ⟨N + 5, 0, none⟩) 1 1]) rfl (by kernel_rfl) (by kernel_rfl) (by kernel_rfl) (fun _ _ _ h => h) (by rfl) (fun w hSw => by go_simp) hHeld ?_
    simp only [Act.put, List.setIfInBounds_toArray, List.set_cons_zero, List.set_cons_succ]
    refine take_val (i := 1) (.agg #[.string ⟨#[65]⟩, .string ⟨#[97]⟩, .bool true, .slice (some ⟨N + 1, 0, none⟩) 1 1, .bool true, .slice (some ⟨N + 3, 0, none⟩) 1 1]) rfl (by kernel_rfl) (by kernel_rfl) (by kernel_rfl) (fun _ _ _ h => h) (by rfl) (fun w hSw => by go_simp) hHeld ?_
    simp only [Act.put, List.setIfInBounds_toArray, List.set_cons_zero, List.set_cons_succ]
    clear hHeld
    refine wpAnyH_ready (rs := [2]) (by kernel_rfl) (by simp) ?_
    refine AllReadyH.cons (at_drop0 rfl) (fun K hK => ?_) AllReadyH.nil
    rw [if_pos (by rfl)]
    go_simp
    refine (HTC.out _ (bel_drewN (Below.refl _ _) 1)).mono ?_
    rintro e w1 ⟨rfl, hb1⟩
    have HB1 : Hid (Below w'.heap.size w' w1) := (bel_drewN (Below.refl w'.heap.size w') 1).trans hb1
    clear hb1
    go_wp2_with fail
    refine hK.out _ _ ((HIN.out w1 HB1.out).1) (fun hHeld => ?_)
    clear hK K
    try simp only [Act.put, List.setIfInBounds_toArray, List.set_cons_zero, List.set_cons_succ]
    refine take_val (i := 3) (.bool true) rfl (by kernel_rfl) (by kernel_rfl) (by kernel_rfl) (fun _ _ _ h => h) (by rfl) (fun w hSw => by go_simp) hHeld ?_
    simp only [Act.put, List.setIfInBounds_toArray, List.set_cons_zero, List.set_cons_succ]
    refine take_val (i := 4) (.agg #[.string ⟨#[65]⟩, .slice (some ⟨N + 5, 0, none⟩) 1 1]) rfl (by kernel_rfl) (by kernel_rfl) (by kernel_rfl) (fun _ _ _ h => h) (by rfl) (fun w hSw => by go_simp) hHeld ?_
    simp only [Act.put, List.setIfInBounds_toArray, List.set_cons_zero, List.set_cons_succ]
    refine take_val (i := 5) (.agg #[.string ⟨#[65]⟩, .string ⟨#[97]⟩, .bool false, .slice none 0 0, .bool true, .slice (some ⟨N + 3, 0, none⟩) 1 1]) rfl (by kernel_rfl) (by kernel_rfl) (by kernel_rfl) (fun _ _ _ h => h) (by rfl) (fun w hSw => by go_simp) hHeld ?_
    simp only [Act.put, List.setIfInBounds_toArray, List.set_cons_zero, List.set_cons_succ]
    clear hHeld
    refine wpAnyH_ready (rs := [6]) (by kernel_rfl) (by simp) ?_
    refine AllReadyH.cons (at_drop0 rfl) (fun K hK => ?_) AllReadyH.nil
    rw [if_pos (by rfl)]
    go_simp
    refine (HTD.out w1 HB1.out).mono ?_
    rintro e w2 ⟨rfl, hb2⟩
    have HB2 : Hid (Below w'.heap.size w' w2) := bel_then HB1.out HB1.out.size hb2
    clear hb2 HB1
    go_wp2_with fail
    refine hK.out _ _ ((HIN.out w2 HB2.out).1) (fun hHeld => ?_)
    clear hK K
    try simp only [Act.put, List.setIfInBounds_toArray, List.set_cons_zero, List.set_cons_succ]
    refine take_val (i := 7) (.bool true) rfl (by kernel_rfl) (by kernel_rfl) (by kernel_rfl) (fun _ _ _ h => h) (by rfl) (fun w hSw => by go_simp) hHeld ?_
    simp only [Act.put, List.setIfInBounds_toArray, List.set_cons_zero, List.set_cons_succ]
    refine take_val (i := 8) (.bool true) rfl (by kernel_rfl) (by kernel_rfl) (by kernel_rfl) (fun _ _ _ h => h) (by rfl) (fun w hSw => by go_simp) hHeld ?_
    simp only [Act.put, List.setIfInBounds_toArray, List.set_cons_zero, List.set_cons_succ]
    refine take_val (i := 9) (.bool true) rfl (by kernel_rfl) (by kernel_rfl) (by kernel_rfl) (fun _ _ _ h => h) (by rfl) (fun w hSw => by go_simp) hHeld ?_
    simp only [Act.put, List.setIfInBounds_toArray, List.set_cons_zero, List.set_cons_succ]
    refine take_val (i := 10) (.pointer (some ⟨B, 0, none⟩)) rfl (by kernel_rfl) (by kernel_rfl) (by kernel_rfl) (fun _ _ _ h => h) (by rfl) (fun w hSw => by go_simp) hHeld ?_
    simp only [Act.put, List.setIfInBounds_toArray, List.set_cons_zero, List.set_cons_succ]
    refine take_val (i := 11) (.slice kp 1 kc) rfl (by kernel_rfl) (by kernel_rfl) (by kernel_rfl) (fun _ _ _ h => h) (by rfl) (fun w hSw => by go_simp) hHeld ?_
    simp only [Act.put, List.setIfInBounds_toArray, List.set_cons_zero, List.set_cons_succ]
    refine take_val (i := 12) (.int .i64 1) rfl (by kernel_rfl) (by kernel_rfl) (by kernel_rfl) (fun _ _ _ h => h) (by rfl) (fun w hSw => by go_simp) hHeld ?_
    simp only [Act.put, List.setIfInBounds_toArray, List.set_cons_zero, List.set_cons_succ]
    refine take_val (i := 13) (.bool true) rfl (by kernel_rfl) (by kernel_rfl) (by kernel_rfl) (fun _ _ _ h => h) (by rfl) (fun w hSw => by go_simp) hHeld ?_
    simp only [Act.put, List.setIfInBounds_toArray, List.set_cons_zero, List.set_cons_succ]
    refine take_val (i := 14) (.bool true) rfl (by kernel_rfl) (by kernel_rfl) (by kernel_rfl) (fun _ _ _ h => h) (by rfl) (fun w hSw => by go_simp) hHeld ?_
    simp only [Act.put, List.setIfInBounds_toArray, List.set_cons_zero, List.set_cons_succ]
    refine take_val (i := 15) (.bool true) rfl (by kernel_rfl) (by kernel_rfl) (by kernel_rfl) (fun _ _ _ h => h) (by rfl) (fun w hSw => by go_simp) hHeld ?_
    simp only [Act.put, List.setIfInBounds_toArray, List.set_cons_zero, List.set_cons_succ]
    refine take_val (i := 16) (.pointer (some ⟨B, 1, none⟩)) rfl (by kernel_rfl) (by kernel_rfl) (by kernel_rfl) (fun _ _ _ h => h) (by rfl) (fun w hSw => by go_simp) hHeld ?_
    simp only [Act.put, List.setIfInBounds_toArray, List.set_cons_zero, List.set_cons_succ]
    refine take_val (i := 17) (.slice rp 1 rc) rfl (by kernel_rfl) (by kernel_rfl) (by kernel_rfl) (fun _ _ _ h => h) (by rfl) (fun w hSw => by go_simp) hHeld ?_
    simp only [Act.put, List.setIfInBounds_toArray, List.set_cons_zero, List.set_cons_succ]
    refine take_val (i := 18) (.int .i64 1) rfl (by kernel_rfl) (by kernel_rfl) (by kernel_rfl) (fun _ _ _ h => h) (by rfl) (fun w hSw => by go_simp) hHeld ?_
    simp only [Act.put, List.setIfInBounds_toArray, List.set_cons_zero, List.set_cons_succ]
    refine take_val (i := 19) (.bool true) rfl (by kernel_rfl) (by kernel_rfl) (by kernel_rfl) (fun _ _ _ h => h) (by rfl) (fun w hSw => by go_simp) hHeld ?_
    simp only [Act.put, List.setIfInBounds_toArray, List.set_cons_zero, List.set_cons_succ]
    refine take_val (i := 20) (.bool true) rfl (by kernel_rfl) (by kernel_rfl) (by kernel_rfl) (fun _ _ _ h => h) (by rfl) (fun w hSw => by go_simp) hHeld ?_
    simp only [Act.put, List.setIfInBounds_toArray, List.set_cons_zero, List.set_cons_succ]
    refine take_val (i := 21) (.bool true) rfl (by kernel_rfl) (by kernel_rfl) (by kernel_rfl) (fun _ _ _ h => h) (by rfl) (fun w hSw => by go_simp) hHeld ?_
    simp only [Act.put, List.setIfInBounds_toArray, List.set_cons_zero, List.set_cons_succ]
    refine take_val (i := 22) (.agg #[.slice kp 1 kc, .slice rp 1 rc]) rfl (by kernel_rfl) (by kernel_rfl) (by kernel_rfl) (fun _ _ _ h => h) (by rfl) (fun w hSw => by go_simp) hHeld ?_
    simp only [Act.put, List.setIfInBounds_toArray, List.set_cons_zero, List.set_cons_succ]
    refine take_val (i := 23) (.agg #[.string ⟨#[65]⟩, .string ⟨#[97]⟩, .bool false, .slice none 0 0, .bool true, .slice (some ⟨N + 3, 0, none⟩) 1 1]) rfl (by kernel_rfl) (by kernel_rfl) (by kernel_rfl) (fun _ _ _ h => h) (by rfl) (fun w hSw => by go_simp) hHeld ?_
    simp only [Act.put, List.setIfInBounds_toArray, List.set_cons_zero, List.set_cons_succ]
    clear hHeld
    have hnew3 := heap_alloc_new w2 (.cells #[.string ⟨#[65]⟩, .string ⟨#[97]⟩, .bool false, .slice none 0 0, .bool true, .slice (some ⟨N + 3, 0, none⟩) 1 1] 43)
    obtain ⟨w3, hw3⟩ : ∃ w3, w2.alloc (.cells #[.string ⟨#[65]⟩, .string ⟨#[97]⟩, .bool false, .slice none 0 0, .bool true, .slice (some ⟨N + 3, 0, none⟩) 1 1] 43) = w3 := ⟨_, rfl⟩
    obtain ⟨Z3, hZ3⟩ : ∃ Z3, w2.heap.size = Z3 := ⟨_, rfl⟩
    have HB3 : Hid (Below w'.heap.size w' w3) := by rw [← hw3]; exact bel_then HB2.out HB2.out.size ((Below.refl _ _).alloc (Nat.le_refl _) _)
    rw [hw3, hZ3] at hnew3
    have HN3 := hid hnew3
    have HZ3 := hid hZ3
    have HW3 := hid hw3
    clear hnew3 hZ3 hw3
    refine wpAnyH_ready (rs := [24]) (by kernel_rfl) (by simp) ?_
    refine AllReadyH.cons (at_drop0 rfl) (fun K hK => ?_) AllReadyH.nil
    rw [if_pos (by rfl)]
    go_simp
    go_wp2_with fail
    try rw [HW3.out]
    try rw [HZ3.out]
    refine hK.out _ _ ((HIN.out w3 HB3.out).1) (fun hHeld => ?_)
    clear hK K
    try simp only [Act.put, List.setIfInBounds_toArray, List.set_cons_zero, List.set_cons_succ]
    clear hHeld
    refine wpAnyH_ready (rs := [25]) (by kernel_rfl) (by simp) ?_
    refine AllReadyH.cons (at_drop0 rfl) (fun K hK => ?_) AllReadyH.nil
    rw [if_pos (by rfl)]
    go_simp
    refine (HHI.out w3 Z3 HB3.out HN3.out).mono ?_
    rintro e w4 ⟨rfl, hb4⟩
    have HB4 : Hid (Below w'.heap.size w' w4) := bel_then HB3.out HB3.out.size hb4
    clear hb4 HB3 HN3 HB2 HW3 HZ3
    go_wp2_with fail
    refine hK.out _ _ ((HIN.out w4 HB4.out).1) (fun hHeld => ?_)
    clear hK K
    try simp only [Act.put, List.setIfInBounds_toArray, List.set_cons_zero, List.set_cons_succ]
    refine take_val (i := 26) (.bool true) rfl (by kernel_rfl) (by kernel_rfl) (by kernel_rfl) (fun _ _ _ h => h) (by rfl) (fun w hSw => by go_simp) hHeld ?_
    simp only [Act.put, List.setIfInBounds_toArray, List.set_cons_zero, List.set_cons_succ]
    refine take_val (i := 27) (.bool true) rfl (by kernel_rfl) (by kernel_rfl) (by kernel_rfl) (fun _ _ _ h => h) (by rfl) (fun w hSw => by go_simp) hHeld ?_
    simp only [Act.put, List.setIfInBounds_toArray, List.set_cons_zero, List.set_cons_succ]
    refine take_val (i := 28) (.agg #[.slice kp 1 kc, .slice rp 1 rc]) rfl (by kernel_rfl) (by kernel_rfl) (by kernel_rfl) (fun _ _ _ h => h) (by rfl) (fun w hSw => by go_simp) hHeld ?_
    simp only [Act.put, List.setIfInBounds_toArray, List.set_cons_zero, List.set_cons_succ]
    refine take_val (i := 29) (.agg #[.string ⟨#[65]⟩, .string ⟨#[97]⟩, .bool true, .slice (some ⟨N + 1, 0, none⟩) 1 1, .bool true, .slice (some ⟨N + 3, 0, none⟩) 1 1]) rfl (by kernel_rfl) (by kernel_rfl) (by kernel_rfl) (fun _ _ _ h => h) (by rfl) (fun w hSw => by go_simp) hHeld ?_
    simp only [Act.put, List.setIfInBounds_toArray, List.set_cons_zero, List.set_cons_succ]
    clear hHeld
    have hnew5 := heap_alloc_new w4 (.cells #[.string ⟨#[65]⟩, .string ⟨#[97]⟩, .bool true, .slice (some ⟨N + 1, 0, none⟩) 1 1, .bool true, .slice (some ⟨N + 3, 0, none⟩) 1 1] 43)
    obtain ⟨w5, hw5⟩ : ∃ w5, w4.alloc (.cells #[.string ⟨#[65]⟩, .string ⟨#[97]⟩, .bool true, .slice (some ⟨N + 1, 0, none⟩) 1 1, .bool true, .slice (some ⟨N + 3, 0, none⟩) 1 1] 43) = w5 := ⟨_, rfl⟩
    obtain ⟨Z5, hZ5⟩ : ∃ Z5, w4.heap.size = Z5 := ⟨_, rfl⟩
    have HB5 : Hid (Below w'.heap.size w' w5) := by rw [← hw5]; exact bel_then HB4.out HB4.out.size ((Below.refl _ _).alloc (Nat.le_refl _) _)
    rw [hw5, hZ5] at hnew5
    have HN5 := hid hnew5
    have HZ5 := hid hZ5
    have HW5 := hid hw5
    clear hnew5 hZ5 hw5
    refine wpAnyH_ready (rs := [30]) (by kernel_rfl) (by simp) ?_
    refine AllReadyH.cons (at_drop0 rfl) (fun K hK => ?_) AllReadyH.nil
    rw [if_pos (by rfl)]
    go_simp
    go_wp2_with fail
    try rw [HW5.out]
    try rw [HZ5.out]
    refine hK.out _ _ ((HIN.out w5 HB5.out).1) (fun hHeld => ?_)
    clear hK K
    try simp only [Act.put, List.setIfInBounds_toArray, List.set_cons_zero, List.set_cons_succ]
    clear hHeld
    refine wpAnyH_ready (rs := [31]) (by kernel_rfl) (by simp) ?_
    refine AllReadyH.cons (at_drop0 rfl) (fun K hK => ?_) AllReadyH.nil
    rw [if_pos (by rfl)]
    go_simp
    refine (HWH.out w5 Z5 HB5.out HN5.out).mono ?_
    rintro e w6 ⟨u6, rfl, ho6, hb6⟩
    obtain ⟨p6, c6, rfl⟩ := Kind.own_shape ho6
    have HB6 : Hid (Below w'.heap.size w' w6) := bel_then HB5.out HB5.out.size hb6
    clear hb6 HB5 HN5 HB4 HW5 HZ5 ho6
    simp only [List.length_cons, List.length_nil, Nat.zero_add]
    go_wp2_with fail
    refine hK.out _ _ ((HIN.out w6 HB6.out).1) (fun hHeld => ?_)
    clear hK K
    try simp only [Act.put, List.setIfInBounds_toArray, List.set_cons_zero, List.set_cons_succ]
    refine take_val (i := 32) (.int .i64 1) rfl (by kernel_rfl) (by kernel_rfl) (by kernel_rfl) (fun _ _ _ h => h) (by rfl) (fun w hSw => by go_simp) hHeld ?_
    simp only [Act.put, List.setIfInBounds_toArray, List.set_cons_zero, List.set_cons_succ]
    refine take_val (i := 33) (.bool true) rfl (by kernel_rfl) (by kernel_rfl) (by kernel_rfl) (fun _ _ _ h => h) (by rfl) (fun w hSw => by go_simp) hHeld ?_
    simp only [Act.put, List.setIfInBounds_toArray, List.set_cons_zero, List.set_cons_succ]
    refine take_val (i := 34) (.bool true) rfl (by kernel_rfl) (by kernel_rfl) (by kernel_rfl) (fun _ _ _ h => h) (by rfl) (fun w hSw => by go_simp) hHeld ?_
    simp only [Act.put, List.setIfInBounds_toArray, List.set_cons_zero, List.set_cons_succ]
    refine take_val (i := 35) (.bool true) rfl (by kernel_rfl) (by kernel_rfl) (by kernel_rfl) (fun _ _ _ h => h) (by rfl) (fun w hSw => by go_simp) hHeld ?_
    simp only [Act.put, List.setIfInBounds_toArray, List.set_cons_zero, List.set_cons_succ]
    refine take_val (i := 36) (.agg #[.slice kp 1 kc, .slice rp 1 rc]) rfl (by kernel_rfl) (by kernel_rfl) (by kernel_rfl) (fun _ _ _ h => h) (by rfl) (fun w hSw => by go_simp) hHeld ?_
    simp only [Act.put, List.setIfInBounds_toArray, List.set_cons_zero, List.set_cons_succ]
    refine take_val (i := 37) (.agg #[.slice kp 1 kc, .slice rp 1 rc]) rfl (by kernel_rfl) (by kernel_rfl) (by kernel_rfl) (fun _ _ _ h => h) (by rfl) (fun w hSw => by go_simp) hHeld ?_
    simp only [Act.put, List.setIfInBounds_toArray, List.set_cons_zero, List.set_cons_succ]
    refine take_val (i := 38) (.agg #[.slice kp 1 kc, .slice rp 1 rc]) rfl (by kernel_rfl) (by kernel_rfl) (by kernel_rfl) (fun _ _ _ h => h) (by rfl) (fun w hSw => by go_simp) hHeld ?_
    simp only [Act.put, List.setIfInBounds_toArray, List.set_cons_zero, List.set_cons_succ]
    clear hHeld
    refine wpAnyH_ready (rs := [39]) (by kernel_rfl) (by simp) ?_
    refine AllReadyH.cons (at_drop0 rfl) (fun K hK => ?_) AllReadyH.nil
    rw [if_pos (by rfl)]
    go_simp
    refine (HUN.out w6 HB6.out).mono ?_
    rintro e w7 ⟨m7, rfl, ho7, hk7, hb7⟩
    have HB7 : Hid (Below w'.heap.size w' w7) := bel_then HB6.out HB6.out.size hb7
    have HQ := hid (HEQ.out w7 m7 HB7.out ho7.inn (by
      constructor
      · rw [show m7.ks = gmM.1 from congrArg Prod.fst hk7]; decide
      · have := congrArg (fun x : Mk => x.2.length) hk7
        simp only [Mx.mk', List.length_map] at this
        rw [this]; decide))
    rw [hk7, decide_eq_true rfl] at HQ
    clear hb7 HB6 ho7 hk7
    obtain ⟨kp7, kc7, ks7, rp7, rc7, rs7⟩ := m7
    simp only [encMx, Mx.ksl, Mx.rsl] at HQ ⊢
    go_wp2_with fail
    refine hK.out _ _ ((HIN.out w7 HB7.out).1) (fun hHeld => ?_)
    clear hK K
    try simp only [Act.put, List.setIfInBounds_toArray, List.set_cons_zero, List.set_cons_succ]
    clear hHeld
    refine wpAnyH_ready (rs := [40]) (by kernel_rfl) (by simp) ?_
    refine AllReadyH.cons (at_drop0 rfl) (fun K hK => ?_) AllReadyH.nil
    rw [if_pos (by rfl)]
    go_simp
    refine HQ.out.mono ?_
    rintro e w8 ⟨rfl, hb8⟩
    have HB8 : Hid (Below w'.heap.size w' w8) := bel_then HB7.out HB7.out.size hb8
    clear hb8 HB7 HQ
    go_wp2_with fail
    refine hK.out _ _ ((HIN.out w8 HB8.out).1) (fun hHeld => ?_)
    clear hK K
    try simp only [Act.put, List.setIfInBounds_toArray, List.set_cons_zero, List.set_cons_succ]
    refine take_val (i := 41) (.bool true) rfl (by kernel_rfl) (by kernel_rfl) (by kernel_rfl) (fun _ _ _ h => h) (by rfl) (fun w hSw => by go_simp) hHeld ?_
    simp only [Act.put, List.setIfInBounds_toArray, List.set_cons_zero, List.set_cons_succ]
    refine take_val (i := 42) (.bool true) rfl (by kernel_rfl) (by kernel_rfl) (by kernel_rfl) (fun _ _ _ h => h) (by rfl) (fun w hSw => by go_simp) hHeld ?_
    simp only [Act.put, List.setIfInBounds_toArray, List.set_cons_zero, List.set_cons_succ]
    refine take_val (i := 43) (.agg #[.slice kp 1 kc, .slice rp 1 rc]) rfl (by kernel_rfl) (by kernel_rfl) (by kernel_rfl) (fun _ _ _ h => h) (by rfl) (fun w hSw => by go_simp) hHeld ?_
    simp only [Act.put, List.setIfInBounds_toArray, List.set_cons_zero, List.set_cons_succ]
    refine take_val (i := 44) (.agg #[.slice none 0 0, .slice none 0 0]) rfl (by kernel_rfl) (by kernel_rfl) (by kernel_rfl) (fun _ _ _ h => h) (by rfl) (fun w hSw => by go_simp) hHeld ?_
    simp only [Act.put, List.setIfInBounds_toArray, List.set_cons_zero, List.set_cons_succ]
    clear hHeld
    have HQ := hid (HEQ.out w8 ⟨none, 0, [], none, 0, []⟩ HB8.out ⟨KK.is_nil w8, KRx.is_nil w8, fun r hr => by cases hr⟩ ⟨by decide, by decide⟩)
    rw [show decide (gmM = (⟨none, 0, [], none, 0, []⟩ : Mx).mk') = false from gm_ne] at HQ
    simp only [Mx.ksl, Mx.rsl, List.length_nil] at HQ
    refine wpAnyH_ready (rs := [45]) (by kernel_rfl) (by simp) ?_
    refine AllReadyH.cons (at_drop0 rfl) (fun K hK => ?_) AllReadyH.nil
    rw [if_pos (by rfl)]
    go_simp
    refine HQ.out.mono ?_
    rintro e w9 ⟨rfl, hb9⟩
    have HB9 : Hid (Below w'.heap.size w' w9) := bel_then HB8.out HB8.out.size hb9
    clear hb9 HB8 HQ
    go_wp2_with fail
    refine hK.out _ _ ((HIN.out w9 HB9.out).1) (fun hHeld => ?_)
    clear hK K
    try simp only [Act.put, List.setIfInBounds_toArray, List.set_cons_zero, List.set_cons_succ]
    refine take_val (i := 46) (.bool true) rfl (by kernel_rfl) (by kernel_rfl) (by kernel_rfl) (fun _ _ _ h => h) (by rfl) (fun w hSw => by go_simp) hHeld ?_
    simp only [Act.put, List.setIfInBounds_toArray, List.set_cons_zero, List.set_cons_succ]
    refine take_val (i := 47) (.bool true) rfl (by kernel_rfl) (by kernel_rfl) (by kernel_rfl) (fun _ _ _ h => h) (by rfl) (fun w hSw => by go_simp) hHeld ?_
    simp only [Act.put, List.setIfInBounds_toArray, List.set_cons_zero, List.set_cons_succ]
    refine take_val (i := 48) (.bool true) rfl (by kernel_rfl) (by kernel_rfl) (by kernel_rfl) (fun _ _ _ h => h) (by rfl) (fun w hSw => by go_simp) hHeld ?_
    simp only [Act.put, List.setIfInBounds_toArray, List.set_cons_zero, List.set_cons_succ]
    refine wpAnyH_done (by kernel_rfl) ?_ _
    clear hHeld
    have HM9 := hid (HMI.out w9 HB9.out)
    go_wp2_with fail
    go_ret
    exact ⟨rfl, HM9.out⟩

end Go.Proofs.Ythdakljoabbghaa

/-
  For every two marks and every key of bulk at most 1048576 the Go function MarksAdds of package foliolaw12 returns true, and its arguments read behind the call as they read before; over the contracts of package marks.
-/
namespace Go.Proofs.Ythdakljoabbghaa
open Go.ChangeShapes Go.WideShapes Go.ChangeAt Go.RowKit Go.Joins

set_option maxRecDepth 100000 in
theorem marksadds_walked (S : MarksApi) {H : Type} {enc : TypeId × Value → H} (W : World) (base : Nat) (args : Array Value) (ds gs : List (DataW H)) (before : List MemPlace)
    (hval : ∀ (j : Nat) t v, Try.f3.params[j]? = some t → args[j]? = some v → Value.okWide Try.prog W .any base t v)
    (hW : DataW.Whole enc Try.prog Try.f3.params.toList Rows.marksAddsSpec.vars false W args.toList ds gs before)
    (hZ : (DataW.weightsEach Try.prog (Try.f3.params.toList ++ (OpenSpec.ofChange Rows.marksAddsSpec).bare.plain.varTypes Try.prog) (ds ++ gs)).all (· ≤ reachBytes) = true) (hk : Rows.uptoSmall H (ds ++ gs) = true) :
    Calls Try.prog 3 args W fun e W' => ∃ v, e = .returned v ∧ Rows.marksAddsSpec.post enc Try.prog Try.f3 false true false false W args v W' := by
  have hW' := hW
  obtain ⟨p, q, hA0, hV, rfl, _, _⟩ := hW
  have hA : DataW.TrodAll enc Try.prog W 0 (fun _ => true) true Try.f3.params.toList args.toList ds p := hA0
  rw [Try.params3] at hA hval hZ
  obtain ⟨v0, vs0, d0, ds0, p0, q0, hargs, rfl, rfl, h0, r0⟩ := trodAll_cons hA
  obtain ⟨v1, vs1, d1, ds1, p1, q1, rfl, rfl, rfl, h1, r1⟩ := trodAll_cons r0
  obtain ⟨v2, vs2, d2, ds2, p2, q2, rfl, rfl, rfl, h2, r2⟩ := trodAll_cons r1
  obtain ⟨rfl, rfl, rfl⟩ := trodAll_nil r2
  obtain rfl : args = #[v0, v1, v2] := by cases args; simp_all
  obtain ⟨rfl, rfl⟩ := trodVars_none hV
  have lt0 : ∀ x ∈ p0, x.block < W.heap.size := by obtain ⟨m, hm⟩ := h0; exact DataW.trod_lt m _ _ _ hm
  have lt1 : ∀ x ∈ p1, x.block < W.heap.size := by obtain ⟨m, hm⟩ := h1; exact DataW.trod_lt m _ _ _ hm
  have lt2 : ∀ x ∈ p2, x.block < W.heap.size := by obtain ⟨m, hm⟩ := h2; exact DataW.trod_lt m _ _ _ hm
  have k0 := h0
  have k1 := h1
  have k2 := h2
  have hb : Rows.uptoBulk d0 + Rows.uptoBulk d1 + Rows.uptoBulk d2 ≤ 1048576 := by
    have := of_decide_eq_true hk
    simp only [List.append_nil, Rows.uptoBulkAll] at this
    omega
  have hwalk : Calls Try.prog 3 #[v0, v1, v2] W fun e w' => e = .returned (.bool true) ∧ Below W.heap.size W w' := by
    have z0 : ∀ n ∈ d0.weights Try.prog 25, n ≤ reachBytes := fun n hn => by
      have := List.all_eq_true.1 hZ n (DataW.weights_mem_each (j := 0) rfl rfl n hn)
      simpa using this
    have z1 : ∀ n ∈ d1.weights Try.prog 25, n ≤ reachBytes := fun n hn => by
      have := List.all_eq_true.1 hZ n (DataW.weights_mem_each (j := 1) rfl rfl n hn)
      simpa using this
    obtain ⟨a, rfl, hai, hak, ha1, ha2, hal⟩ := open_marksM (hval 0 25 v0 rfl rfl) h0 z0
    obtain ⟨b, rfl, hbi, hbk, hb1, hb2, hbl⟩ := open_marksM (hval 1 25 v1 rfl rfl) h1 z1
    obtain ⟨k, rfl, hkf⟩ := open_keyW (hval 2 27 v2 rfl rfl) h2
    exact madds12_any S (fixed12_any S) a b k W hai hbi ⟨by omega, by omega⟩ hak hbk hkf
  clear hA0
  refine hwalk.mono fun o W' ⟨he, bel⟩ => ?_
  subst he
  exact ⟨_, rfl, _, _, _, [], _, [], hW', trodAll_mk1 (shut_bool Try.underlying4 _),
    (trodAll_cons_mk (Below.trod Try.laidOut (by kernel_rfl) (of_decide_eq_true (by kernel_rfl)) k0 bel lt0) (trodAll_cons_mk (Below.trod Try.laidOut (by kernel_rfl) (of_decide_eq_true (by kernel_rfl)) k1 bel lt1) (trodAll_cons_mk (Below.trod Try.laidOut (by kernel_rfl) (of_decide_eq_true (by kernel_rfl)) k2 bel lt2) trodAll_mk0))), rfl, bel.frame _, fun h => by cases h⟩

theorem marksadds_reads (os : Os) {H : Type} (enc : TypeId × Value → H) : ∃ places, DataW.whole enc Try.prog ((World.laidAll Try.prog os []).forCall (fun _ _ => 0) ⟨#[], #[.agg #[.slice none 0 0, .slice none 0 0], .agg #[.slice none 0 0, .slice none 0 0], .agg #[.string ⟨#[]⟩, .string ⟨#[]⟩]], []⟩).memory Try.f3.params.toList Rows.marksAddsSpec.vars false #[Value.agg #[.slice none 0 0, .slice none 0 0], .agg #[.slice none 0 0, .slice none 0 0], .agg #[.string ⟨#[]⟩, .string ⟨#[]⟩]].toList 8 = some ([.agg [.nil, .nil], .agg [.nil, .nil], .agg [.lit (.string []), .lit (.string [])]], [], places) :=
  ⟨[], by kernel_rfl⟩

set_option maxRecDepth 100000 in
theorem marksadds_lifted (S : MarksApi) (os : Os) (started : os.Started) (H : Type) (enc : TypeId × Value → H) (F : Stop.Interp) :
    ReturnsInHanded {} Try.checked os 3 .any ((Rows.OpenSpec.upto Rows.marksAddsSpec).preRow enc Try.prog Try.f3 Rows.marksAddsUptoRow.domain false Rows.marksAddsUptoRow.laid) (((Rows.OpenSpec.upto Rows.marksAddsSpec).at F).post enc Try.prog Try.f3 false true false false) := by
  obtain ⟨places, hx⟩ := marksadds_reads os enc
  refine returnsInHanded_of_row (C := Try.checked) (s := Rows.OpenSpec.upto Rows.marksAddsSpec) Try.own started (by kernel_rfl) Try.func3
    (witness_row_at (enc := enc) (C := Try.checked) false (World.laidAll Try.prog os []) #[.agg #[.slice none 0 0, .slice none 0 0], .agg #[.slice none 0 0, .slice none 0 0], .agg #[.string ⟨#[]⟩, .string ⟨#[]⟩]] (World.laidAll_os _ _ _) (by kernel_rfl) (by kernel_rfl) (by kernel_rfl)
      (OpenSpec.preRow_of_cond 8 hx (by kernel_rfl) (fun k hk => by cases hk; kernel_rfl) (by kernel_rfl)
        (by rw [MakeChecks.laidMetH_plain _ _ _ (by kernel_rfl)]; exact laidMet_laidAll (laid := []) _ (by kernel_rfl) (by kernel_rfl)))) ?_
  intro W base args ds gs before hval hW _ hcond hZ _ _ _
  exact marksadds_walked S W base args ds gs before hval hW hZ (hcond _ rfl)

theorem marksadds_of (S : MarksApi) : Rows.MarksAddsUptoSaid :=
  OpenClaim.holds_of_cond 3 Try.f3 rfl rfl rfl rfl rfl rfl rfl ⟨rfl, rfl, rfl, rfl, rfl⟩ rfl rfl rfl rfl rfl (by kernel_rfl) Try.func3 (by kernel_rfl)
    (of_decide_eq_true (by kernel_rfl)) (by unfold Func.isWrapper; first | (rw [if_pos (by decide +kernel)]; kernel_rfl) | (rw [if_neg (by decide +kernel)]; exact ⟨rfl, rfl⟩))
    (fun os started H enc _ F => by rw [OpenClaim.pre_eq_preRow]; exact marksadds_lifted S os started H enc F)

end Go.Proofs.Ythdakljoabbghaa
