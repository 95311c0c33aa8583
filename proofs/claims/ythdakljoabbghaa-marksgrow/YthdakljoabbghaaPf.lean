/-
  Texts of this claim, one behind the other: Two Mtw Mlu Mg0 Mlg Mfd Mfw.
-/
import Derived.Test.YthdakljoabbghaaPe
import Derived.Test.YthdakljoabbghaaPd
import Derived.Test.YthdakljoabbghaaPa
import Derived.Test.YthdakljoabbghaaPc
/-
  'x, y := f(..), g(..)' where x and y are variables of struct types: two calls, two variables made meanwhile, two stores. No program.
-/
namespace Go.Proofs.Ythdakljoabbghaa
open Go.RowKit

/-- The blocks of the variables that have been made. -/
def TwoP (fl : List Bool) (B1 B2 : Nat) (b : Nat) : Prop := (fl[0]? = some true ∧ b = B1) ∨ (fl[1]? = some true ∧ b = B2)

section
variable {α β : Type}
/-- k of the calls and stores have been done, fl of the variables made. -/
structure TwoAt (V : World) (ea : α → Array Value) (Ta : TypeId) (za : Array Value) (eb : β → Array Value) (Tb : TypeId) (zb : Array Value) (G1 : World → α → Prop) (G2 : World → β → Prop) (BA : α → Nat → Prop) (BB : β → Nat → Prop)
    (k : Nat) (fl : List Bool) (v1 v2 u1 u2 : Value) (w : World) (B1 B2 : Nat) (x : α) (y : β) : Prop where
  bel : Below V.heap.size V w
  s1 : 3 ≤ k → fl[0]? = some true
  s2 : 4 ≤ k → fl[1]? = some true
  b1 : fl[0]? = some true → u1 = .pointer (some ⟨B1, 0, none⟩) ∧ V.heap.size ≤ B1 ∧ w.heap[B1]? = some (.cells (if 3 ≤ k then ea x else za) Ta (0, 0))
  b2 : fl[1]? = some true → u2 = .pointer (some ⟨B2, 0, none⟩) ∧ V.heap.size ≤ B2 ∧ w.heap[B2]? = some (.cells (if 4 ≤ k then eb y else zb) Tb (0, 0))
  ne : fl[0]? = some true → fl[1]? = some true → B1 ≠ B2
  g1 : 1 ≤ k → v1 = .agg (ea x) ∧ ∀ w', Fr (TwoP fl B1 B2) w w' → G1 w' x
  g2 : 2 ≤ k → v2 = .agg (eb y) ∧ ∀ w', Fr (TwoP fl B1 B2) w w' → G2 w' y
  l1 : 1 ≤ k → ∀ b, BA x b → V.heap.size ≤ b ∧ b < w.heap.size
  l2 : 2 ≤ k → ∀ b, BB y b → V.heap.size ≤ b ∧ b < w.heap.size
  ap : 2 ≤ k → ∀ b, BA x b → ¬ BB y b
def TwoSt (V : World) (ea : α → Array Value) (Ta : TypeId) (za : Array Value) (eb : β → Array Value) (Tb : TypeId) (zb : Array Value) (G1 : World → α → Prop) (G2 : World → β → Prop) (BA : α → Nat → Prop) (BB : β → Nat → Prop)
    (k : Nat) (fl : List Bool) (v1 v2 u1 u2 : Value) (w : World) : Prop := ∃ (B1 B2 : Nat) (x : α) (y : β), TwoAt V ea Ta za eb Tb zb G1 G2 BA BB k fl v1 v2 u1 u2 w B1 B2 x y

variable {V : World} {ea : α → Array Value} {Ta : TypeId} {za : Array Value} {eb : β → Array Value} {Tb : TypeId} {zb : Array Value} {G1 : World → α → Prop} {G2 : World → β → Prop} {BA : α → Nat → Prop} {BB : β → Nat → Prop} {k : Nat} {fl : List Bool} {v1 v2 u1 u2 : Value} {w : World}

theorem TwoSt.bel (h : TwoSt V ea Ta za eb Tb zb G1 G2 BA BB k fl v1 v2 u1 u2 w) : Below V.heap.size V w := by
  obtain ⟨_, _, _, _, h⟩ := h
  exact h.bel
theorem two_start [Inhabited α] [Inhabited β] (v1 v2 u1 u2 : Value) (h : Below V.heap.size V w) : TwoSt V ea Ta za eb Tb zb G1 G2 BA BB 0 [false, false] v1 v2 u1 u2 w :=
  ⟨0, 0, default, default, h, (fun h => by omega), (fun h => by omega), (fun h => by cases h), (fun h => by cases h), (fun h => by cases h), (fun h => by omega), (fun h => by omega), (fun h => by omega), (fun h => by omega), (fun h => by omega)⟩

theorem two_call1 {w2 : World} {x' : α} (h : TwoSt V ea Ta za eb Tb zb G1 G2 BA BB 0 fl v1 v2 u1 u2 w) (hb : Below w.heap.size w w2) (hG : ∀ P w', (∀ b, P b → V.heap.size ≤ b ∧ b < w.heap.size) → Fr P w2 w' → G1 w' x') (hB : ∀ b, BA x' b → w.heap.size ≤ b ∧ b < w2.heap.size) : TwoSt V ea Ta za eb Tb zb G1 G2 BA BB 1 fl (.agg (ea x')) v2 u1 u2 w2 := by
  obtain ⟨B1, B2, x, y, h⟩ := h
  have hl1 : fl[0]? = some true → B1 < w.heap.size := fun e => (Array.getElem?_eq_some_iff.1 (h.b1 e).2.2).1
  have hl2 : fl[1]? = some true → B2 < w.heap.size := fun e => (Array.getElem?_eq_some_iff.1 (h.b2 e).2.2).1
  refine ⟨B1, B2, x', y, bel_then h.bel h.bel.size hb, (fun h => by omega), (fun h => by omega), (fun e => ?_), (fun e => ?_), h.ne, (fun _ => ⟨rfl, fun w' f => hG _ w' (fun b hb => ?_) f⟩), (fun h => by omega), (fun _ b hb => ⟨Nat.le_trans h.bel.size (hB b hb).1, (hB b hb).2⟩), (fun h => by omega), (fun h => by omega)⟩
  · obtain ⟨q1, q2, q3⟩ := h.b1 e
    exact ⟨q1, q2, (hb.block B1 (hl1 e)).trans q3⟩
  · obtain ⟨q1, q2, q3⟩ := h.b2 e
    exact ⟨q1, q2, (hb.block B2 (hl2 e)).trans q3⟩
  · rcases hb with ⟨e, rfl⟩ | ⟨e, rfl⟩
    · exact ⟨(h.b1 e).2.1, hl1 e⟩
    · exact ⟨(h.b2 e).2.1, hl2 e⟩
theorem two_call2 {w2 : World} {y' : β} (h : TwoSt V ea Ta za eb Tb zb G1 G2 BA BB 1 fl v1 v2 u1 u2 w) (hb : Below w.heap.size w w2) (hG : ∀ P w', (∀ b, P b → V.heap.size ≤ b ∧ b < w.heap.size) → Fr P w2 w' → G2 w' y') (hB : ∀ b, BB y' b → w.heap.size ≤ b ∧ b < w2.heap.size) : TwoSt V ea Ta za eb Tb zb G1 G2 BA BB 2 fl v1 (.agg (eb y')) u1 u2 w2 := by
  obtain ⟨B1, B2, x, y, h⟩ := h
  have hl1 : fl[0]? = some true → B1 < w.heap.size := fun e => (Array.getElem?_eq_some_iff.1 (h.b1 e).2.2).1
  have hl2 : fl[1]? = some true → B2 < w.heap.size := fun e => (Array.getElem?_eq_some_iff.1 (h.b2 e).2.2).1
  refine ⟨B1, B2, x, y', bel_then h.bel h.bel.size hb, (fun h => by omega), (fun h => by omega), (fun e => ?_), (fun e => ?_), h.ne, (fun _ => ?_), (fun _ => ⟨rfl, fun w' f => hG _ w' (fun b hb => ?_) f⟩), (fun _ b hx => ⟨(h.l1 (Nat.le_refl _) b hx).1, Nat.lt_of_lt_of_le (h.l1 (Nat.le_refl _) b hx).2 hb.size⟩), (fun _ b hy => ⟨Nat.le_trans h.bel.size (hB b hy).1, (hB b hy).2⟩), (fun _ b hx hy => by
    have h1 := (h.l1 (Nat.le_refl _) b hx).2
    have h2 := (hB b hy).1
    omega)⟩
  · obtain ⟨q1, q2, q3⟩ := h.b1 e
    exact ⟨q1, q2, (hb.block B1 (hl1 e)).trans q3⟩
  · obtain ⟨q1, q2, q3⟩ := h.b2 e
    exact ⟨q1, q2, (hb.block B2 (hl2 e)).trans q3⟩
  · obtain ⟨q1, q2⟩ := h.g1 (Nat.le_refl _)
    exact ⟨q1, fun w' f => q2 w' ((Fr.of_below hb).then f fun k hk => Or.inl hk)⟩
  · rcases hb with ⟨e, rfl⟩ | ⟨e, rfl⟩
    · exact ⟨(h.b1 e).2.1, hl1 e⟩
    · exact ⟨(h.b2 e).2.1, hl2 e⟩
theorem two_alloc1 {f2 : Bool} (h : TwoSt V ea Ta za eb Tb zb G1 G2 BA BB k [false, f2] v1 v2 u1 u2 w) : TwoSt V ea Ta za eb Tb zb G1 G2 BA BB k [true, f2] v1 v2 (.pointer (some ⟨w.heap.size, 0, none⟩)) u2 (w.alloc (.cells za Ta)) := by
  obtain ⟨B1, B2, x, y, h⟩ := h
  have hal : Below w.heap.size w (w.alloc (.cells za Ta)) := (Below.refl _ _).alloc (Nat.le_refl _) _
  have hk : ¬ 3 ≤ k := fun e => by have := h.s1 e; cases this
  have hl2 : f2 = true → B2 < w.heap.size := fun e => (Array.getElem?_eq_some_iff.1 (h.b2 (by rw [e]; rfl)).2.2).1
  have hfr : ∀ w', Fr (TwoP [true, f2] w.heap.size B2) (w.alloc (.cells za Ta)) w' → Fr (TwoP [false, f2] B1 B2) w w' := fun w' f => (Fr.of_below hal).then f fun b hb => by
    rcases hb with ⟨_, rfl⟩ | hb
    · exact Or.inr (Nat.le_refl _)
    · exact Or.inl (Or.inr hb)
  refine ⟨w.heap.size, B2, x, y, bel_then h.bel h.bel.size hal, (fun _ => rfl), (fun e => absurd (by omega) hk), (fun _ => ⟨rfl, h.bel.size, ?_⟩), (fun e => ?_), (fun _ e => ?_), (fun e => ?_), (fun e => ?_), (fun e b hb => ⟨(h.l1 e b hb).1, Nat.lt_of_lt_of_le (h.l1 e b hb).2 hal.size⟩), (fun e b hb => ⟨(h.l2 e b hb).1, Nat.lt_of_lt_of_le (h.l2 e b hb).2 hal.size⟩), h.ap⟩
  · rw [if_neg hk]
    exact heap_alloc_new w _
  · obtain ⟨q1, q2, q3⟩ := h.b2 e
    exact ⟨q1, q2, (hal.block B2 (hl2 (by simpa using e))).trans q3⟩
  · have := hl2 (by simpa using e)
    omega
  · obtain ⟨q1, q2⟩ := h.g1 e
    exact ⟨q1, fun w' f => q2 w' (hfr w' f)⟩
  · obtain ⟨q1, q2⟩ := h.g2 e
    exact ⟨q1, fun w' f => q2 w' (hfr w' f)⟩
theorem two_alloc2 {f1 : Bool} (h : TwoSt V ea Ta za eb Tb zb G1 G2 BA BB k [f1, false] v1 v2 u1 u2 w) : TwoSt V ea Ta za eb Tb zb G1 G2 BA BB k [f1, true] v1 v2 u1 (.pointer (some ⟨w.heap.size, 0, none⟩)) (w.alloc (.cells zb Tb)) := by
  obtain ⟨B1, B2, x, y, h⟩ := h
  have hal : Below w.heap.size w (w.alloc (.cells zb Tb)) := (Below.refl _ _).alloc (Nat.le_refl _) _
  have hk : ¬ 4 ≤ k := fun e => by have := h.s2 e; cases this
  have hl1 : f1 = true → B1 < w.heap.size := fun e => (Array.getElem?_eq_some_iff.1 (h.b1 (by rw [e]; rfl)).2.2).1
  have hfr : ∀ w', Fr (TwoP [f1, true] B1 w.heap.size) (w.alloc (.cells zb Tb)) w' → Fr (TwoP [f1, false] B1 B2) w w' := fun w' f => (Fr.of_below hal).then f fun b hb => by
    rcases hb with hb | ⟨_, rfl⟩
    · exact Or.inl (Or.inl hb)
    · exact Or.inr (Nat.le_refl _)
  refine ⟨B1, w.heap.size, x, y, bel_then h.bel h.bel.size hal, (fun e => h.s1 e), (fun e => absurd e hk), (fun e => ?_), (fun _ => ⟨rfl, h.bel.size, ?_⟩), (fun e _ => ?_), (fun e => ?_), (fun e => ?_), (fun e b hb => ⟨(h.l1 e b hb).1, Nat.lt_of_lt_of_le (h.l1 e b hb).2 hal.size⟩), (fun e b hb => ⟨(h.l2 e b hb).1, Nat.lt_of_lt_of_le (h.l2 e b hb).2 hal.size⟩), h.ap⟩
  · obtain ⟨q1, q2, q3⟩ := h.b1 e
    exact ⟨q1, q2, (hal.block B1 (hl1 (by simpa using e))).trans q3⟩
  · rw [if_neg hk]
    exact heap_alloc_new w _
  · have := hl1 (by simpa using e)
    omega
  · obtain ⟨q1, q2⟩ := h.g1 e
    exact ⟨q1, fun w' f => q2 w' (hfr w' f)⟩
  · obtain ⟨q1, q2⟩ := h.g2 e
    exact ⟨q1, fun w' f => q2 w' (hfr w' f)⟩
/-- The first store: what is there, and what must be shown of the world behind it. -/
theorem two_store1 {f2 : Bool} (h : TwoSt V ea Ta za eb Tb zb G1 G2 BA BB 2 [true, f2] v1 v2 u1 u2 w) : ∃ B1 x, u1 = .pointer (some ⟨B1, 0, none⟩) ∧ v1 = .agg (ea x) ∧ w.heap[B1]? = some (.cells za Ta (0, 0)) ∧
    ∀ w', w'.heap[B1]? = some (.cells (ea x) Ta (0, 0)) → Fr (fun b => b = B1) w w' → TwoSt V ea Ta za eb Tb zb G1 G2 BA BB 3 [true, f2] v1 v2 u1 u2 w' := by
  obtain ⟨B1, B2, x, y, h⟩ := h
  obtain ⟨q1, q2, q3⟩ := h.b1 rfl
  rw [if_neg (by omega)] at q3
  obtain ⟨p1, p2⟩ := h.g1 (by omega)
  obtain ⟨p3, p4⟩ := h.g2 (by omega)
  refine ⟨B1, x, q1, p1, q3, fun w' hw f => ?_⟩
  have hlt := (Array.getElem?_eq_some_iff.1 q3).1
  have hfr : Fr (TwoP [true, f2] B1 B2) w w' := f.mono fun b hb => Or.inl ⟨rfl, hb⟩
  refine ⟨B1, B2, x, y, h.bel.trans (f.below (by have := h.bel.size; omega) fun b hb => by omega), (fun _ => rfl), (fun e => by omega), (fun _ => ⟨q1, q2, ?_⟩), (fun e => ?_), h.ne, (fun _ => ⟨p1, fun w3 f3 => p2 w3 (hfr.then f3 fun b hb => Or.inl hb)⟩), (fun _ => ⟨p3, fun w3 f3 => p4 w3 (hfr.then f3 fun b hb => Or.inl hb)⟩), (fun _ b hb => ⟨(h.l1 (by omega) b hb).1, Nat.lt_of_lt_of_le (h.l1 (by omega) b hb).2 f.size⟩), (fun _ b hb => ⟨(h.l2 (by omega) b hb).1, Nat.lt_of_lt_of_le (h.l2 (by omega) b hb).2 f.size⟩), (fun _ => h.ap (by omega))⟩
  · rw [if_pos (by omega)]
    exact hw
  · obtain ⟨r1, r2, r3⟩ := h.b2 e
    refine ⟨r1, r2, ?_⟩
    rw [if_neg (by omega)] at r3 ⊢
    exact (f.block B2 (Array.getElem?_eq_some_iff.1 r3).1 (h.ne rfl e).symm).trans r3
theorem two_store2 {f1 : Bool} (h : TwoSt V ea Ta za eb Tb zb G1 G2 BA BB 3 [f1, true] v1 v2 u1 u2 w) : ∃ B2 y, u2 = .pointer (some ⟨B2, 0, none⟩) ∧ v2 = .agg (eb y) ∧ w.heap[B2]? = some (.cells zb Tb (0, 0)) ∧
    ∀ w', w'.heap[B2]? = some (.cells (eb y) Tb (0, 0)) → Fr (fun b => b = B2) w w' → TwoSt V ea Ta za eb Tb zb G1 G2 BA BB 4 [f1, true] v1 v2 u1 u2 w' := by
  obtain ⟨B1, B2, x, y, h⟩ := h
  obtain ⟨q1, q2, q3⟩ := h.b2 rfl
  rw [if_neg (by omega)] at q3
  obtain ⟨p1, p2⟩ := h.g1 (by omega)
  obtain ⟨p3, p4⟩ := h.g2 (by omega)
  have hf1 : f1 = true := by simpa using h.s1 (Nat.le_refl _)
  refine ⟨B2, y, q1, p3, q3, fun w' hw f => ?_⟩
  have hlt := (Array.getElem?_eq_some_iff.1 q3).1
  have hfr : Fr (TwoP [f1, true] B1 B2) w w' := f.mono fun b hb => Or.inr ⟨rfl, hb⟩
  refine ⟨B1, B2, x, y, h.bel.trans (f.below (by have := h.bel.size; omega) fun b hb => by omega), (fun _ => h.s1 (Nat.le_refl _)), (fun e => rfl), (fun e => ?_), (fun _ => ⟨q1, q2, ?_⟩), h.ne, (fun _ => ⟨p1, fun w3 f3 => p2 w3 (hfr.then f3 fun b hb => Or.inl hb)⟩), (fun _ => ⟨p3, fun w3 f3 => p4 w3 (hfr.then f3 fun b hb => Or.inl hb)⟩), (fun _ b hb => ⟨(h.l1 (by omega) b hb).1, Nat.lt_of_lt_of_le (h.l1 (by omega) b hb).2 f.size⟩), (fun _ b hb => ⟨(h.l2 (by omega) b hb).1, Nat.lt_of_lt_of_le (h.l2 (by omega) b hb).2 f.size⟩), (fun _ => h.ap (by omega))⟩
  · obtain ⟨r1, r2, r3⟩ := h.b1 e
    refine ⟨r1, r2, ?_⟩
    rw [if_pos (by omega)] at r3 ⊢
    exact (f.block B1 (Array.getElem?_eq_some_iff.1 r3).1 (h.ne e rfl)).trans r3
  · rw [if_pos (by omega)]
    exact hw
/-- What lies behind. -/
structure TwoEnd (V : World) (ea : α → Array Value) (Ta : TypeId) (eb : β → Array Value) (Tb : TypeId) (G1 : World → α → Prop) (G2 : World → β → Prop) (BA : α → Nat → Prop) (BB : β → Nat → Prop) (B1 B2 : Nat) (x : α) (y : β) (w : World) : Prop where
  bel : Below V.heap.size V w
  low1 : V.heap.size ≤ B1
  low2 : V.heap.size ≤ B2
  box1 : w.heap[B1]? = some (.cells (ea x) Ta (0, 0))
  box2 : w.heap[B2]? = some (.cells (eb y) Tb (0, 0))
  ne : B1 ≠ B2
  g1 : G1 w x
  g2 : G2 w y
  l1 : ∀ b, BA x b → V.heap.size ≤ b ∧ b < w.heap.size
  l2 : ∀ b, BB y b → V.heap.size ≤ b ∧ b < w.heap.size
  ap : ∀ b, BA x b → ¬ BB y b
theorem two_end (h : TwoSt V ea Ta za eb Tb zb G1 G2 BA BB 4 [true, true] v1 v2 u1 u2 w) : ∃ B1 B2 x y, u1 = .pointer (some ⟨B1, 0, none⟩) ∧ u2 = .pointer (some ⟨B2, 0, none⟩) ∧ TwoEnd V ea Ta eb Tb G1 G2 BA BB B1 B2 x y w := by
  obtain ⟨B1, B2, x, y, h⟩ := h
  obtain ⟨q1, q2, q3⟩ := h.b1 rfl
  obtain ⟨r1, r2, r3⟩ := h.b2 rfl
  rw [if_pos (by omega)] at q3 r3
  exact ⟨B1, B2, x, y, q1, r1, h.bel, q2, r2, q3, r3, h.ne rfl rfl, (h.g1 (by omega)).2 w (Fr.refl _ _), (h.g2 (by omega)).2 w (Fr.refl _ _), h.l1 (by omega), h.l2 (by omega), h.ap (by omega)⟩
end

/-- A struct of two cells stored into its block. -/
theorem store_two {w : World} {B : Nat} {a b z1 z2 : Value} {T : TypeId} (h : w.heap[B]? = some (.cells #[z1, z2] T (0, 0))) :
    (w.cell? ⟨B, 0, none⟩ = some z1 ∧ w.cell? ⟨B, 1, none⟩ = some z2 ∧ w.frozen? ⟨B, 0, none⟩ = false ∧ w.frozen? ⟨B, 1, none⟩ = false) ∧ ((w.setCell ⟨B, 0, none⟩ a).setCell ⟨B, 1, none⟩ b).heap[B]? = some (.cells #[a, b] T (0, 0)) ∧ Fr (fun k => k = B) w ((w.setCell ⟨B, 0, none⟩ a).setCell ⟨B, 1, none⟩ b) := by
  have e1 : (w.setCell ⟨B, 0, none⟩ a).heap[B]? = some (.cells #[a, z2] T (0, 0)) := heap_setCell_same w B 0 _ _ _ h
  have e2 : ((w.setCell ⟨B, 0, none⟩ a).setCell ⟨B, 1, none⟩ b).heap[B]? = some (.cells #[a, b] T (0, 0)) := heap_setCell_same _ B 1 _ _ _ e1
  refine ⟨⟨by rw [Lib.cell_of_heap h]; rfl, by rw [Lib.cell_of_heap h]; rfl, Lib.frozen_of_heap h 0, Lib.frozen_of_heap h 1⟩, e2, ⟨rfl, rfl, rfl, by simp, fun k _ hn => ?_⟩⟩
  rw [heap_setCell_other _ _ k _ hn, heap_setCell_other _ _ k _ hn]

end Go.Proofs.Ythdakljoabbghaa

/-
  Marks that two calls answer, kept apart from the variables they are laid into (stage 12). No function.
-/
namespace Go.Proofs.Ythdakljoabbghaa
open Go.RowKit

/-- Ranges, keys that lie in what was there at V. -/
def PrV (V : World) (r : Rx) : Prop := ∀ W', Below V.heap.size V W' → r.at W'
def KrV (V : World) (v : Value) (l : List Ky) : Prop := ∀ W', Below V.heap.size V W' → KK.Is W' v l

theorem mark_fr {V w w2 w' : World} {m : Mx} {P : Nat → Prop} (hV : Below V.heap.size V w) (hb2 : Below w.heap.size w w2) (hk : KK.Own w.heap.size w2 m.ksl m.ks ∨ (KK.Is w m.ksl m.ks ∧ KrV V m.ksl m.ks)) (hr : KRx.Own w.heap.size w2 m.rsl m.rs) (he : ∀ r ∈ m.rs, r.atP (PrV V) w)
    (hP : ∀ b, P b → V.heap.size ≤ b ∧ b < w.heap.size) (f : Fr P w2 w') : MIn w' m := by
  have hbV : Below V.heap.size V w' := (bel_then hV hV.size hb2).trans (f.below (by have := hV.size; have := hb2.size; omega) fun b hb => (hP b hb).1)
  refine ⟨?_, ?_, fun r hr' => (he r hr').2 w' hbV⟩
  · rcases hk with hk | hk
    · exact Kind.own_is (f.row (show w2.ownsRow w.heap.size KK.T KK.k m.ksl m.ks.length (KK.cells m.ks) from hk) fun k h1 h2 => by
        have := (World.ownsRow.lt (show w2.ownsRow w.heap.size KK.T KK.k m.ksl m.ks.length (KK.cells m.ks) from hk) k h1).1
        have := (hP k h2).2
        omega)
    · exact hk.2 w' hbV
  · exact Kind.own_is (f.row (show w2.ownsRow w.heap.size KRx.T KRx.k m.rsl m.rs.length (KRx.cells m.rs) from hr) fun k h1 h2 => by
      have := (World.ownsRow.lt (show w2.ownsRow w.heap.size KRx.T KRx.k m.rsl m.rs.length (KRx.cells m.rs) from hr) k h1).1
      have := (hP k h2).2
      omega)
/-- Marks that say mk. -/
def GMk (mk : Mk) (W : World) (m : Mx) : Prop := MIn W m ∧ m.mk' = mk
theorem gmk_own {V w w2 : World} {m : Mx} {mk : Mk} (ho : MOwn w.heap.size w2 m) (hk : m.mk' = mk) (P : Nat → Prop) (w' : World) (hP : ∀ b, P b → V.heap.size ≤ b ∧ b < w.heap.size) (f : Fr P w2 w') : GMk mk w' m := ⟨(ho.fr f fun k h => (hP k h).2).inn, hk⟩
theorem gmk_ref {V w w2 : World} {m : Mx} {mk : Mk} (hV : Below V.heap.size V w) (hb2 : Below w.heap.size w w2) (hk : m.mk' = mk) (hks : KK.Own w.heap.size w2 m.ksl m.ks ∨ (KK.Is w m.ksl m.ks ∧ KrV V m.ksl m.ks)) (hr : KRx.Own w.heap.size w2 m.rsl m.rs) (he : ∀ r ∈ m.rs, r.atP (PrV V) w) (P : Nat → Prop) (w' : World) (hP : ∀ b, P b → V.heap.size ≤ b ∧ b < w.heap.size) (f : Fr P w2 w') : GMk mk w' m := ⟨mark_fr hV hb2 hks hr he hP f, hk⟩
def encA (m : Mx) : Array Value := #[m.ksl, m.rsl]
/-- Two variables of marks. -/
abbrev TwoM (V : World) (mk1 mk2 : Mk) := TwoSt V encA 25 #[.slice none 0 0, .slice none 0 0] encA 25 #[.slice none 0 0, .slice none 0 0] (GMk mk1) (GMk mk2) (fun _ _ => False) (fun _ _ => False)
abbrev TwoMEnd (V : World) (mk1 mk2 : Mk) := TwoEnd V encA 25 encA 25 (GMk mk1) (GMk mk2) (fun _ _ => False) (fun _ _ => False)

end Go.Proofs.Ythdakljoabbghaa

/-
  MarksUnions (stage 12): what hits one of two hits their union, and nothing else does.
-/
namespace Go.Proofs.Ythdakljoabbghaa
open Go.RowKit

/-- Two marks that are few together. -/
def Few2 (a b : Mx) : Prop := a.ks.length + b.ks.length + 1 < 1500000000000 ∧ a.rs.length + b.rs.length + 1 < 1500000000000
theorem sortK_len (l : List Ky) : (sortK l).length ≤ l.length := by
  have := inss_len l []
  unfold sortK
  simpa using this
theorem few_union {a b m : Mx} (h : Few2 a b) (hm : m.mk' = unionM a.mk' b.mk') : FewM m := by
  obtain ⟨h1, h2⟩ := h
  have e1 : m.ks = (unionM a.mk' b.mk').1 := congrArg Prod.fst hm
  have e2 : m.rs.length = (unionM a.mk' b.mk').2.length := by rw [← hm]; simp [Mx.mk']
  have l1 := inss_len b.mk'.1 (sortK a.mk'.1)
  have l2 := sortK_len a.mk'.1
  have l3 := putsR_len b.mk'.2 (a.mk'.2.foldl putR [])
  have l4 := putsR_len a.mk'.2 []
  constructor
  · rw [e1]
    simp only [unionM, Mx.mk'] at *
    omega
  · rw [e2]
    simp only [unionM, Mx.mk', List.length_map, List.length_nil] at *
    omega
theorem few_key {a m : Mx} {k : Ky} (h1 : a.ks.length + 1 < 1500000000000) (h2 : a.rs.length < 1500000000000) (hm : m.mk' = keyM a.mk' k) : FewM m := by
  have e1 : m.ks = (keyM a.mk' k).1 := congrArg Prod.fst hm
  have e2 : m.rs.length = (keyM a.mk' k).2.length := by rw [← hm]; simp [Mx.mk']
  have l1 := insK_len k (sortK a.mk'.1)
  have l2 := sortK_len a.mk'.1
  constructor
  · rw [e1]
    simp only [keyM, Mx.mk'] at *
    omega
  · rw [e2]
    simp only [keyM, Mx.mk', List.length_map] at *
    omega
theorem few_range {a m : Mx} {r : Rg} (h1 : a.ks.length < 1500000000000) (h2 : a.rs.length + 1 < 1500000000000) (hm : m.mk' = rangeM a.mk' r) : FewM m := by
  have e1 : m.ks = (rangeM a.mk' r).1 := congrArg Prod.fst hm
  have e2 : m.rs.length = (rangeM a.mk' r).2.length := by rw [← hm]; simp [Mx.mk']
  have l1 := putR_len a.mk'.2 r
  constructor
  · rw [e1]
    simp only [rangeM, Mx.mk'] at *
    omega
  · rw [e2]
    simp only [rangeM, Mx.mk', List.length_map] at *
    omega

/-- One change out of a list; the first ones of a list. -/
theorem ChgIn.one {W : World} {b off n cap : Nat} {l : List Cx} (h : ChgIn W (.slice (some ⟨b, off, none⟩) n cap) l) (i : Nat) (hi : i < l.length) (c' : Nat) : ChgIn W (.slice (some ⟨b, off + i * 6, none⟩) 1 c') [l[i]] := by
  refine ⟨⟨_, _, rfl, Or.inr ⟨_, _, rfl, fun j hj k u hu => ?_⟩⟩, fun c hc => ?_⟩
  · have hj' : j = 0 := by simpa using hj
    subst hj'
    obtain ⟨p', c'', he, h'⟩ := h.is
    injection he with e1 e2 e3
    subst e1
    rcases h' with h' | ⟨b', off', e4, h'⟩
    · rw [h'] at hi; simp at hi
    · injection e4 with e4
      injection e4 with e5 e6 e7
      subst e5 e6
      have := h' i hi k u hu
      simpa [show KCx.k = 6 from rfl] using this
  · rw [List.mem_singleton] at hc
    subst hc
    exact h.each _ (List.getElem_mem hi)
theorem ChgIn.first {W : World} {p : Option Addr} {n cap : Nat} {l : List Cx} (h : ChgIn W (.slice p n cap) l) (i : Nat) (hi : i ≤ l.length) : ChgIn W (.slice p i cap) (l.take i) := by
  have hlen : (l.take i).length = i := by simp; omega
  refine ⟨⟨p, cap, by rw [hlen], ?_⟩, fun c hc => h.each c (List.mem_of_mem_take hc)⟩
  obtain ⟨p', c'', he, h'⟩ := h.is
  injection he with e1 e2 e3
  subst e1
  rcases h' with h' | ⟨b', off', e4, h'⟩
  · exact Or.inl (by rw [h']; simp)
  · refine Or.inr ⟨b', off', e4, fun j hj k u hu => ?_⟩
    have hj' : j < l.length := by rw [hlen] at hj; omega
    have e : (l.take i)[j] = l[j] := List.getElem_take
    rw [e] at hu
    exact h' j hj' k u hu

theorem hits_one (a b : Mk) (c : Ch) : hitsM (unionM a b) [c] = (hitsM a [c] || hitsM b [c]) := by
  unfold hitsM
  simp [hit_union]
theorem hits_union (a b : Mk) (l : List Ch) : hitsM (unionM a b) l = (hitsM a l || hitsM b l) := by
  unfold hitsM
  induction l with
  | nil => rfl
  | cons c r ih =>
    simp only [List.any_cons, hit_union, ih]
    cases hitM a c <;> cases hitM b c <;> simp
theorem hits_more (a : Mk) (l : List Ch) (i : Nat) (h : hitsM a (l.take i) = true) : hitsM a l = true := by
  unfold hitsM at *
  obtain ⟨c, hc, h1⟩ := List.any_eq_true.1 h
  exact List.any_eq_true.2 ⟨c, List.mem_of_mem_take hc, h1⟩
theorem hits_key (a : Mk) (c : Ch) : hitsM (keyM a c.key) [c] = true := by
  unfold hitsM
  simp [hit_key]
theorem hits_none (l : List Ch) : hitsM ([], []) l = false := by
  unfold hitsM
  induction l with
  | nil => rfl
  | cons c r ih => rw [List.any_cons, ih]; rfl

set_option linter.unusedSimpArgs false in
set_option maxHeartbeats 8000000 in
set_option maxRecDepth 100000 in
theorem munions12_any (S : MarksApi) (hF : Fixed12) (a b : Mx) (p : Option Addr) (cap : Nat) (l : List Cx) (w : World) (ha : MIn w a) (hb : MIn w b) (h2 : Few2 a b) (hka : ∀ x ∈ a.ks, FitKy12 x) (hkb : ∀ x ∈ b.ks, FitKy12 x) (hc : ChgIn w (.slice p l.length cap) l) (hcap : l.length ≤ cap) (hl : l.length < 1500000000000) (hlk : ∀ c ∈ l, FitKy12 (c.a, c.b)) :
    Calls Try.prog 5 #[.agg (encMx a).toArray, .agg (encMx b).toArray, .slice p l.length cap] w fun e w' => e = .returned (.bool true) ∧ Below w.heap.size w w' := by
  obtain ⟨V, hV⟩ : ∃ V, (w.alloc (.cells (encMx a).toArray 25)).alloc (.cells (encMx b).toArray 25) = V := ⟨_, rfl⟩
  obtain ⟨M, hM⟩ : ∃ M, w.heap.size = M := ⟨_, rfl⟩
  obtain ⟨hbV, hba, hbb, hs⟩ := two_boxes w (encMx a).toArray (encMx b).toArray 25 25
  rw [hV] at hbV hba hbb hs
  rw [hM] at hba hbb hs
  have fa : FewM a := ⟨by have := h2.1; omega, by have := h2.2; omega⟩
  have fb : FewM b := ⟨by have := h2.1; omega, by have := h2.2; omega⟩
  have HF := hid (hF V)
  have HIN : Hid (∀ W', Below V.heap.size V W' → MIn W' a ∧ MIn W' b ∧ ChgIn W' (.slice p l.length cap) l ∧ Below w.heap.size w W' ∧ (W'.cell? ⟨M, 0, none⟩ = some a.ksl ∧ W'.cell? ⟨M, 1, none⟩ = some a.rsl ∧ W'.cell? ⟨M + 1, 0, none⟩ = some b.ksl ∧ W'.cell? ⟨M + 1, 1, none⟩ = some b.rsl)) := fun W' hW => by
    have hb' : Below w.heap.size w W' := bel_then hbV hbV.size hW
    have e1 := (hW.block M (by omega)).trans hba
    have e2 := (hW.block (M + 1) (by omega)).trans hbb
    exact ⟨ha.on hb', hb.on hb', hc.on hb', hb', by rw [Lib.cell_of_heap e1]; rfl, by rw [Lib.cell_of_heap e1]; rfl, by rw [Lib.cell_of_heap e2]; rfl, by rw [Lib.cell_of_heap e2]; rfl⟩
  have HHI : Hid (∀ W' m u q, Below V.heap.size V W' → MIn W' m → FewM m → ChgIn W' u q → q.length < 1500000000000 → Calls Try.prog 19 #[.agg #[m.ksl, m.rsl], u] W' fun e w' => BoolPost W' (hitsM m.mk' (q.map Cx.ch)) e w') := fun W' m u q hW hm hf hq hn => S.hits W' m u q hm hf.len hq hn
  have HUP : Hid (∀ W', Below V.heap.size V W' → Calls Try.prog 12 #[.agg #[a.ksl, a.rsl], .agg #[b.ksl, b.rsl]] W' fun e w' => MOwnPost W' (unionM a.mk' b.mk') e w') := fun W' hW => S.union W' a b (HIN.out W' hW).1 (HIN.out W' hW).2.1 fa fb hka hkb
  have HKP : Hid (∀ W' (k : Ky), Below V.heap.size V W' → FitKy12 k → Calls Try.prog 10 #[.agg #[a.ksl, a.rsl], .agg #[.string k.1, .string k.2]] W' fun e w' => MOwnPost W' (keyM a.mk' k) e w') := fun W' k hW hk => S.key W' a k (HIN.out W' hW).1 fa.lot hk hka
  have HF2 := hid h2
  have HFA := hid fa
  have HFB := hid fb
  have HLK := hid hlk
  have hl' := hl
  obtain ⟨_, _, _, _, a0, a1, b0, b1⟩ := HIN.out V (Below.refl _ _)
  obtain ⟨mka, hmka⟩ : ∃ x, a.mk' = x := ⟨_, rfl⟩
  obtain ⟨mkb, hmkb⟩ : ∃ x, b.mk' = x := ⟨_, rfl⟩
  have HMA := hid hmka
  have HMB := hid hmkb
  rw [hmka, hmkb] at HUP
  rw [hmka] at HKP
  clear ha hb h2 hka hkb hc hbV hba hbb hs hF hlk fa fb hmka hmkb
  obtain ⟨akp, akc, aks, arp, arc, ars⟩ := a
  obtain ⟨bkp, bkc, bks, brp, brc, brs⟩ := b
  simp only [encMx, Mx.ksl, Mx.rsl] at *
  go_enter Try.func5, Try.ntmps5
  go_wp2_with fail
  try rw [hV]
  try rw [hM]
  clear hV a0 a1 b0 b1
  refine HF.out.mono ?_
  rintro e w1 ⟨rfl, hb1⟩
  obtain ⟨_, _, _, _, a0, a1, b0, b1⟩ := HIN.out w1 hb1
  have H1 := hid (HUP.out w1 hb1)
  have HB1 := hid hb1
  clear hb1 HF HUP
  go_wp2_with fail
  refine H1.out.mono ?_
  rintro e w2 ⟨u, rfl, ho2, hk2, hb2⟩
  have hb2' : Below V.heap.size V w2 := bel_then HB1.out HB1.out.size hb2
  have fu : FewM u := few_union HF2.out (by rw [hk2, HMA.out, HMB.out])
  obtain ⟨U, hU⟩ : ∃ U, w2.heap.size = U := ⟨_, rfl⟩
  obtain ⟨W3, hW3⟩ : ∃ W3, w2.alloc (.cells #[u.ksl, u.rsl] 25) = W3 := ⟨_, rfl⟩
  obtain ⟨h31, h32, h33⟩ := one_box w2 #[u.ksl, u.rsl] 25
  rw [hW3] at h31 h32 h33
  rw [hU] at h32 h33
  have hb3 : Below V.heap.size V W3 := bel_then hb2' hb2'.size h31
  have HIU : Hid (∀ W', Below W3.heap.size W3 W' → Below V.heap.size V W' ∧ MIn W' u ∧ W'.cell? ⟨U, 0, none⟩ = some u.ksl ∧ W'.cell? ⟨U, 1, none⟩ = some u.rsl) := fun W' hW => by
    have e1 := (hW.block U (by omega)).trans h32
    exact ⟨bel_then hb3 hb3.size hW, (ho2.on (bel_then h31 h31.size hW)).inn, by rw [Lib.cell_of_heap e1]; rfl, by rw [Lib.cell_of_heap e1]; rfl⟩
  have HFU := hid fu
  have HMU := hid hk2
  clear ho2 hk2 hb2 hb2' H1 HB1 fu h31 h32 h33 hb3
  obtain ⟨ukp, ukc, uks, urp, urc, urs⟩ := u
  simp only [encMx, Mx.ksl, Mx.rsl] at *
  -- what the calls answer
  have HCU : Hid (∀ W' u' q, Below W3.heap.size W3 W' → ChgIn W' u' q → q.length < 1500000000000 → Calls Try.prog 19 #[.agg #[.slice ukp uks.length ukc, .slice urp urs.length urc], u'] W' fun e w' => BoolPost W' (hitsM (unionM mka mkb) (q.map Cx.ch)) e w') := fun W' u' q hW hq hn => by
    have := HHI.out W' ⟨ukp, ukc, uks, urp, urc, urs⟩ u' q (HIU.out W' hW).1 (HIU.out W' hW).2.1 HFU.out hq hn
    rw [HMU.out] at this
    exact this
  have HCA : Hid (∀ W' u' q, Below W3.heap.size W3 W' → ChgIn W' u' q → q.length < 1500000000000 → Calls Try.prog 19 #[.agg #[.slice akp aks.length akc, .slice arp ars.length arc], u'] W' fun e w' => BoolPost W' (hitsM mka (q.map Cx.ch)) e w') := fun W' u' q hW hq hn => by
    have := HHI.out W' ⟨akp, akc, aks, arp, arc, ars⟩ u' q (HIU.out W' hW).1 (HIN.out W' (HIU.out W' hW).1).1 HFA.out hq hn
    rw [HMA.out] at this
    exact this
  have HCB : Hid (∀ W' u' q, Below W3.heap.size W3 W' → ChgIn W' u' q → q.length < 1500000000000 → Calls Try.prog 19 #[.agg #[.slice bkp bks.length bkc, .slice brp brs.length brc], u'] W' fun e w' => BoolPost W' (hitsM mkb (q.map Cx.ch)) e w') := fun W' u' q hW hq hn => by
    have := HHI.out W' ⟨bkp, bkc, bks, brp, brc, brs⟩ u' q (HIU.out W' hW).1 (HIN.out W' (HIU.out W' hW).1).2.1 HFB.out hq hn
    rw [HMB.out] at this
    exact this
  have HCL : Hid (∀ W', Below W3.heap.size W3 W' → ChgIn W' (.slice p l.length cap) l) := fun W' hW => (HIN.out W' (HIU.out W' hW).1).2.2.1
  have HCE : Hid (∀ W', Below W3.heap.size W3 W' → W'.cell? ⟨M, 0, none⟩ = some (.slice akp aks.length akc) ∧ W'.cell? ⟨M, 1, none⟩ = some (.slice arp ars.length arc) ∧ W'.cell? ⟨M + 1, 0, none⟩ = some (.slice bkp bks.length bkc) ∧ W'.cell? ⟨M + 1, 1, none⟩ = some (.slice brp brs.length brc) ∧ W'.cell? ⟨U, 0, none⟩ = some (.slice ukp uks.length ukc) ∧ W'.cell? ⟨U, 1, none⟩ = some (.slice urp urs.length urc)) := fun W' hW => by
    obtain ⟨h1, _, h3, h4⟩ := HIU.out W' hW
    obtain ⟨_, _, _, _, q0, q1, q2, q3⟩ := HIN.out W' h1
    exact ⟨q0, q1, q2, q3, h3, h4⟩
  have HBW : Hid (∀ W', Below W3.heap.size W3 W' → Below w.heap.size w W') := fun W' hW => (HIN.out W' (HIU.out W' hW).1).2.2.2.1
  go_wp2_with fail
  try rw [hW3]
  try rw [hU]
  clear hW3 a0 a1 b0 b1
  go_loopg [17] l.length (fun gg vi wr => ∃ i : Nat, vi = .int .i64 i ∧ i ≤ l.length ∧ l.length - i ≤ gg ∧ Hid (Below W3.heap.size W3 wr))
  case atStart => exact ⟨0, rfl, by omega, by omega, Below.refl _ _⟩
  case round =>
    obtain ⟨i, rfl, hi, hgk, HI⟩ := hrel
    by_cases hlt : i < l.length
    · have hltz : (i : Int) < (l.length : Int) := by omega
      have hiz : (0 : Int) ≤ i := by omega
      obtain ⟨b7, o7, rfl, _⟩ : ∃ b off, p = some ⟨b, off, none⟩ ∧ KCx.At wr b off l := by
        obtain ⟨p', c', he, h⟩ := (HCL.out wr HI.out).is
        injection he with e1 _ _
        subst e1
        rcases h with h | h
        · rw [h] at hlt; simp at hlt
        · exact h
      have HCO : Hid (∀ W', Below W3.heap.size W3 W' → ChgIn W' (.slice (some ⟨b7, o7 + i * 6, none⟩) 1 (cap - i)) [l[i]]) := fun W' hW => (HCL.out W' hW).one i hlt _
      have HCF : Hid (∀ W', Below W3.heap.size W3 W' → ChgIn W' (.slice (some ⟨b7, o7, none⟩) i cap) (l.take i)) := fun W' hW => (HCL.out W' hW).first i (by omega)
      have hlt' : (l.take i).length < 1500000000000 := by rw [List.length_take]; omega
      obtain ⟨BF, hBF⟩ : ∃ x, hitsM mka ((l.take i).map Cx.ch) = x := ⟨_, rfl⟩
      obtain ⟨BL, hBL⟩ : ∃ x, hitsM mka (l.map Cx.ch) = x := ⟨_, rfl⟩
      have HML : Hid (BF = true → BL = true) := fun h => by
        rw [← hBL]
        refine hits_more mka _ i ?_
        rw [← List.map_take, hBF, h]
      have HQF : Hid (∀ W', Below W3.heap.size W3 W' → Calls Try.prog 19 #[.agg #[.slice akp aks.length akc, .slice arp ars.length arc], .slice (some ⟨b7, o7, none⟩) i cap] W' fun e w' => BoolPost W' BF e w') := fun W' hW => by
        have := HCA.out W' _ _ hW (HCF.out W' hW) hlt'
        rwa [hBF] at this
      have HQL : Hid (∀ W', Below W3.heap.size W3 W' → Calls Try.prog 19 #[.agg #[.slice akp aks.length akc, .slice arp ars.length arc], .slice (some ⟨b7, o7, none⟩) l.length cap] W' fun e w' => BoolPost W' BL e w') := fun W' hW => by
        have := HCA.out W' _ _ hW (HCL.out W' hW) hl
        rwa [hBL] at this
      have hfk := HLK.out _ (List.getElem_mem hlt)
      have HKA : Hid (∀ W', Below W3.heap.size W3 W' → (W'.cell? ⟨b7, o7 + i * 6, none⟩ = some (.string (l[i]).a) ∧ W'.cell? ⟨b7, o7 + i * 6 + 1, none⟩ = some (.string (l[i]).b))) := fun W' hW => by
        obtain ⟨p', c', he, h⟩ := (HCL.out W' hW).is
        injection he with e1 _ _
        subst e1
        rcases h with h | ⟨b', o', e2, h⟩
        · rw [h] at hlt; simp at hlt
        · injection e2 with e2
          injection e2 with e3 e4 e5
          subst e3 e4
          exact ⟨h i hlt 0 _ rfl, h i hlt 1 _ rfl⟩
      clear hBF hBL HCF
      generalize l[i] = c at *
      have HFK := hid hfk
      obtain ⟨BU, hBU⟩ : ∃ x, hitsM (unionM mka mkb) [c.ch] = x := ⟨_, rfl⟩
      obtain ⟨BA, hBA⟩ : ∃ x, hitsM mka [c.ch] = x := ⟨_, rfl⟩
      obtain ⟨BB', hBB⟩ : ∃ x, hitsM mkb [c.ch] = x := ⟨_, rfl⟩
      have hbu : BU = (BA || BB') := by rw [← hBU, ← hBA, ← hBB]; exact hits_one mka mkb c.ch
      have HQU : Hid (∀ W', Below W3.heap.size W3 W' → Calls Try.prog 19 #[.agg #[.slice ukp uks.length ukc, .slice urp urs.length urc], .slice (some ⟨b7, o7 + i * 6, none⟩) 1 (cap - i)] W' fun e w' => BoolPost W' BU e w') := fun W' hW => by
        have := HCU.out W' _ _ hW (HCO.out W' hW) (by simp)
        rwa [show [c].map Cx.ch = [c.ch] from rfl, hBU] at this
      have HQA : Hid (∀ W', Below W3.heap.size W3 W' → Calls Try.prog 19 #[.agg #[.slice akp aks.length akc, .slice arp ars.length arc], .slice (some ⟨b7, o7 + i * 6, none⟩) 1 (cap - i)] W' fun e w' => BoolPost W' BA e w') := fun W' hW => by
        have := HCA.out W' _ _ hW (HCO.out W' hW) (by simp)
        rwa [show [c].map Cx.ch = [c.ch] from rfl, hBA] at this
      have HQB : Hid (∀ W', Below W3.heap.size W3 W' → Calls Try.prog 19 #[.agg #[.slice bkp bks.length bkc, .slice brp brs.length brc], .slice (some ⟨b7, o7 + i * 6, none⟩) 1 (cap - i)] W' fun e w' => BoolPost W' BB' e w') := fun W' hW => by
        have := HCB.out W' _ _ hW (HCO.out W' hW) (by simp)
        rwa [show [c].map Cx.ch = [c.ch] from rfl, hBB] at this
      have HQK : Hid (∀ W', Below W3.heap.size W3 W' → Calls Try.prog 10 #[.agg #[.slice akp aks.length akc, .slice arp ars.length arc], .agg #[.string c.a, .string c.b]] W' fun e w' => MOwnPost W' (keyM mka (c.a, c.b)) e w') := fun W' hW => HKP.out W' (c.a, c.b) (HIU.out W' hW).1 HFK.out
      have HQM : Hid (∀ W' W'' m, Below W3.heap.size W3 W' → MOwn W'.heap.size W'' m → m.mk' = keyM mka (c.a, c.b) → Below W'.heap.size W' W'' → Calls Try.prog 19 #[.agg #[m.ksl, m.rsl], .slice (some ⟨b7, o7 + i * 6, none⟩) 1 (cap - i)] W'' fun e w' => BoolPost W'' true e w') := fun W' W'' m hW ho hk hb => by
        have hW2 : Below W3.heap.size W3 W'' := bel_then hW hW.size hb
        have := HHI.out W'' m _ _ (HIU.out W'' hW2).1 ho.inn (few_key (a := ⟨akp, akc, aks, arp, arc, ars⟩) (k := (c.a, c.b)) (by have := HF2.out.1; simp only at this ⊢; omega) (by have := HF2.out.2; simp only at this ⊢; omega) (by rw [hk, HMA.out])) (HCO.out W'' hW2) (by simp)
        rw [show [c].map Cx.ch = [c.ch] from rfl, hk] at this
        rwa [show hitsM (keyM mka (c.a, c.b)) [c.ch] = true from hits_key mka c.ch] at this
      clear hBU hBA hBB hfk
      have HS8 : Hid (∀ W, Below W3.heap.size W3 W → W.cell? ⟨M, 0, none⟩ = some (.slice akp aks.length akc) ∧ W.cell? ⟨M, 1, none⟩ = some (.slice arp ars.length arc) ∧ W.cell? ⟨M + 1, 0, none⟩ = some (.slice bkp bks.length bkc) ∧ W.cell? ⟨M + 1, 1, none⟩ = some (.slice brp brs.length brc) ∧ W.cell? ⟨U, 0, none⟩ = some (.slice ukp uks.length ukc) ∧ W.cell? ⟨U, 1, none⟩ = some (.slice urp urs.length urc) ∧ W.cell? ⟨b7, o7 + i * 6, none⟩ = some (.string c.a) ∧ W.cell? ⟨b7, o7 + i * 6 + 1, none⟩ = some (.string c.b)) := fun W hW => by
        obtain ⟨q0, q1, q2, q3, q4, q5⟩ := HCE.out W hW
        obtain ⟨q6, q7⟩ := HKA.out W hW
        exact ⟨q0, q1, q2, q3, q4, q5, q6, q7⟩
      have hcz : (i : Int) + 1 ≤ (cap : Int) := by omega
      have hcz1 : (i : Int) ≤ (i : Int) + 1 := by omega
      have hcz0 : (0 : Int) ≤ (i : Int) + 1 := by omega
      have hci : ¬ cap = i := by omega
      have hcs : ((i : Int) + 1 - (i : Int)).toNat = 1 := by omega
      clear HCO HKA HCL HCU HCA HCB
      go_upto_region 8 with fail
      go_cut [48] from 25 to 60 (fun v wx => v = .bool false ∧ Hid (Below W3.heap.size W3 wx))
      case first =>
        refine wp_region_held_drew (S := fun W => W.cell? ⟨M, 0, none⟩ = some (.slice akp aks.length akc) ∧ W.cell? ⟨M, 1, none⟩ = some (.slice arp ars.length arc) ∧ W.cell? ⟨M + 1, 0, none⟩ = some (.slice bkp bks.length bkc) ∧ W.cell? ⟨M + 1, 1, none⟩ = some (.slice brp brs.length brc) ∧ W.cell? ⟨U, 0, none⟩ = some (.slice ukp uks.length ukc) ∧ W.cell? ⟨U, 1, none⟩ = some (.slice urp urs.length urc) ∧ W.cell? ⟨b7, o7 + i * 6, none⟩ = some (.string c.a) ∧ W.cell? ⟨b7, o7 + i * 6 + 1, none⟩ = some (.string c.b)) (by kernel_rfl) (HS8.out wr.drew (bel_drewN HI.out 1)) (fun hHeld => ?_)
        refine take_val (i := 0) (.agg #[.slice ukp uks.length ukc, .slice urp urs.length urc]) rfl (by kernel_rfl) (by kernel_rfl) (by kernel_rfl) (fun _ _ _ h => h) (by rfl) (fun w hSw => by go_simp) hHeld ?_
        simp only [Act.put, List.setIfInBounds_toArray, List.set_cons_zero, List.set_cons_succ]
        refine take_val (i := 1) (.slice (some ⟨b7, o7 + i * 6, none⟩) 1 (cap - i)) rfl (by kernel_rfl) (by kernel_rfl) (by kernel_rfl) (fun _ _ _ h => h) (by rfl) (fun w hSw => by go_simp) hHeld ?_
        simp only [Act.put, List.setIfInBounds_toArray, List.set_cons_zero, List.set_cons_succ]
        refine take_val (i := 3) (.agg #[.slice akp aks.length akc, .slice arp ars.length arc]) rfl (by kernel_rfl) (by kernel_rfl) (by kernel_rfl) (fun _ _ _ h => h) (by rfl) (fun w hSw => by go_simp) hHeld ?_
        simp only [Act.put, List.setIfInBounds_toArray, List.set_cons_zero, List.set_cons_succ]
        refine take_val (i := 4) (.slice (some ⟨b7, o7 + i * 6, none⟩) 1 (cap - i)) rfl (by kernel_rfl) (by kernel_rfl) (by kernel_rfl) (fun _ _ _ h => h) (by rfl) (fun w hSw => by go_simp) hHeld ?_
        simp only [Act.put, List.setIfInBounds_toArray, List.set_cons_zero, List.set_cons_succ]
        clear hHeld
        refine wpAnyH_ready (rs := [2]) (by kernel_rfl) (by simp) ?_
        refine AllReadyH.cons (at_drop0 rfl) (fun K hK => ?_) AllReadyH.nil
        rw [if_pos (by rfl)]
        go_simp
        refine (HQU.out wr.drew (bel_drewN HI.out 1)).mono ?_
        rintro e x1 ⟨rfl, hb1⟩
        have HX1 : Hid (Below W3.heap.size W3 x1) := bel_then (bel_drewN HI.out 1) (bel_drewN HI.out 1).size hb1
        clear hb1
        go_wp2_with fail
        refine hK.out _ _ ((HS8.out x1 HX1.out)) (fun hHeld => ?_)
        clear hK K
        try simp only [Act.put, List.setIfInBounds_toArray, List.set_cons_zero, List.set_cons_succ]
        clear hHeld
        refine wpAnyH_ready (rs := [5]) (by kernel_rfl) (by simp) ?_
        refine AllReadyH.cons (at_drop0 rfl) (fun K hK => ?_) AllReadyH.nil
        rw [if_pos (by rfl)]
        go_simp
        refine (HQA.out x1 HX1.out).mono ?_
        rintro e x2 ⟨rfl, hb2⟩
        have HX2 : Hid (Below W3.heap.size W3 x2) := bel_then HX1.out HX1.out.size hb2
        clear hb2 HX1
        cases BA with
        | true =>
          obtain rfl : BU = true := hbu
          try clear hbu
          go_wp2_with fail
          refine hK.out _ _ ((HS8.out x2 HX2.out)) (fun hHeld => ?_)
          clear hK K
          try simp only [Act.put, List.setIfInBounds_toArray, List.set_cons_zero, List.set_cons_succ]
          refine take_val (i := 6) (.bool true) rfl (by kernel_rfl) (by kernel_rfl) (by kernel_rfl) (fun _ _ _ h => h) (by rfl) (fun w hSw => by go_simp) hHeld ?_
          simp only [Act.put, List.setIfInBounds_toArray, List.set_cons_zero, List.set_cons_succ]
          refine take_not (i := 7) rfl (by kernel_rfl) (by kernel_rfl) (by kernel_rfl) (fun _ _ _ h => h) (by rfl) hHeld ?_
          simp only [Act.put, List.setIfInBounds_toArray, List.set_cons_zero, List.set_cons_succ]
          refine take_not (i := 8) rfl (by kernel_rfl) (by kernel_rfl) (by kernel_rfl) (fun _ _ _ h => h) (by rfl) hHeld ?_
          simp only [Act.put, List.setIfInBounds_toArray, List.set_cons_zero, List.set_cons_succ]
          refine take_not (i := 9) rfl (by kernel_rfl) (by kernel_rfl) (by kernel_rfl) (fun _ _ _ h => h) (by rfl) hHeld ?_
          simp only [Act.put, List.setIfInBounds_toArray, List.set_cons_zero, List.set_cons_succ]
          refine take_val (i := 10) (.bool true) rfl (by kernel_rfl) (by kernel_rfl) (by kernel_rfl) (fun _ _ _ h => h) (by rfl) (fun w hSw => by go_simp) hHeld ?_
          simp only [Act.put, List.setIfInBounds_toArray, List.set_cons_zero, List.set_cons_succ]
          have hg11 : (true != true) = false := by first | rfl | (cases true <;> rfl)
          refine take_val (i := 11) (.bool false) rfl (by kernel_rfl) (by kernel_rfl) (by kernel_rfl) (fun _ _ _ h => h) (by rfl) (fun w hSw => by go_simp) hHeld ?_
          simp only [Act.put, List.setIfInBounds_toArray, List.set_cons_zero, List.set_cons_succ]
          refine take_val (i := 12) (.bool false) rfl (by kernel_rfl) (by kernel_rfl) (by kernel_rfl) (fun _ _ _ h => h) (by rfl) (fun w hSw => by go_simp) hHeld ?_
          simp only [Act.put, List.setIfInBounds_toArray, List.set_cons_zero, List.set_cons_succ]
          refine take_val (i := 13) (.agg #[.slice akp aks.length akc, .slice arp ars.length arc]) rfl (by kernel_rfl) (by kernel_rfl) (by kernel_rfl) (fun _ _ _ h => h) (by rfl) (fun w hSw => by go_simp) hHeld ?_
          simp only [Act.put, List.setIfInBounds_toArray, List.set_cons_zero, List.set_cons_succ]
          refine take_val (i := 14) (.slice (some ⟨b7, o7, none⟩) l.length cap) rfl (by kernel_rfl) (by kernel_rfl) (by kernel_rfl) (fun _ _ _ h => h) (by rfl) (fun w hSw => by go_simp) hHeld ?_
          simp only [Act.put, List.setIfInBounds_toArray, List.set_cons_zero, List.set_cons_succ]
          refine take_val (i := 15) (.int .i64 i) rfl (by kernel_rfl) (by kernel_rfl) (by kernel_rfl) (fun _ _ _ h => h) (by rfl) (fun w hSw => by go_simp) hHeld ?_
          simp only [Act.put, List.setIfInBounds_toArray, List.set_cons_zero, List.set_cons_succ]
          refine take_val (i := 16) (.pointer (some ⟨b7, o7 + i * 6, none⟩)) rfl (by kernel_rfl) (by kernel_rfl) (by kernel_rfl) (fun _ _ _ h => h) (by rfl) (fun w hSw => by go_simp) hHeld ?_
          simp only [Act.put, List.setIfInBounds_toArray, List.set_cons_zero, List.set_cons_succ]
          refine take_val (i := 17) (.pointer (some ⟨b7, o7 + i * 6, none⟩)) rfl (by kernel_rfl) (by kernel_rfl) (by kernel_rfl) (fun _ _ _ h => h) (by rfl) (fun w hSw => by go_simp) hHeld ?_
          simp only [Act.put, List.setIfInBounds_toArray, List.set_cons_zero, List.set_cons_succ]
          refine take_val (i := 18) (.agg #[.string c.a, .string c.b]) rfl (by kernel_rfl) (by kernel_rfl) (by kernel_rfl) (fun _ _ _ h => h) (by rfl) (fun w hSw => by go_simp) hHeld ?_
          simp only [Act.put, List.setIfInBounds_toArray, List.set_cons_zero, List.set_cons_succ]
          refine take_val (i := 20) (.slice (some ⟨b7, o7 + i * 6, none⟩) 1 (cap - i)) rfl (by kernel_rfl) (by kernel_rfl) (by kernel_rfl) (fun _ _ _ h => h) (by rfl) (fun w hSw => by go_simp) hHeld ?_
          simp only [Act.put, List.setIfInBounds_toArray, List.set_cons_zero, List.set_cons_succ]
          clear hHeld hg11
          refine wpAnyH_ready (rs := [19]) (by kernel_rfl) (by simp) ?_
          refine AllReadyH.cons (at_drop0 rfl) (fun K hK => ?_) AllReadyH.nil
          rw [if_pos (by rfl)]
          go_simp
          refine (HQK.out x2 HX2.out).mono ?_
          rintro e x3 ⟨mk3, rfl, ho3, hk3, hb3⟩
          have H21 := hid (HQM.out x2 x3 mk3 HX2.out ho3 hk3 hb3)
          have HX3 : Hid (Below W3.heap.size W3 x3) := bel_then HX2.out HX2.out.size hb3
          clear ho3 hk3 hb3
          obtain ⟨gkp, gkc, gks, grp, grc, grs⟩ := mk3
          simp only [encMx, Mx.ksl, Mx.rsl] at H21 ⊢
          go_wp2_with fail
          refine hK.out _ _ ((HS8.out x3 HX3.out)) (fun hHeld => ?_)
          clear hK K
          try simp only [Act.put, List.setIfInBounds_toArray, List.set_cons_zero, List.set_cons_succ]
          clear hHeld
          refine wpAnyH_ready (rs := [21]) (by kernel_rfl) (by simp) ?_
          refine AllReadyH.cons (at_drop0 rfl) (fun K hK => ?_) AllReadyH.nil
          rw [if_pos (by rfl)]
          go_simp
          refine H21.out.mono ?_
          rintro e x4 ⟨rfl, hb4⟩
          have HX4 : Hid (Below W3.heap.size W3 x4) := bel_then HX3.out HX3.out.size hb4
          clear hb4 H21 HX3
          go_wp2_with fail
          refine hK.out _ _ ((HS8.out x4 HX4.out)) (fun hHeld => ?_)
          clear hK K
          try simp only [Act.put, List.setIfInBounds_toArray, List.set_cons_zero, List.set_cons_succ]
          refine take_val (i := 22) (.bool false) rfl (by kernel_rfl) (by kernel_rfl) (by kernel_rfl) (fun _ _ _ h => h) (by rfl) (fun w hSw => by go_simp) hHeld ?_
          simp only [Act.put, List.setIfInBounds_toArray, List.set_cons_zero, List.set_cons_succ]
          refine take_val (i := 23) (.bool false) rfl (by kernel_rfl) (by kernel_rfl) (by kernel_rfl) (fun _ _ _ h => h) (by rfl) (fun w hSw => by go_simp) hHeld ?_
          simp only [Act.put, List.setIfInBounds_toArray, List.set_cons_zero, List.set_cons_succ]
          refine wpAnyH_done (by kernel_rfl) ?_ _
          clear hHeld
          go_wp2_with fail
          go_meet
          case rel => exact ⟨rfl, HX4.out⟩
        | false =>
          obtain rfl : BU = BB' := hbu
          go_wp2_with fail
          refine hK.out _ _ ((HS8.out x2 HX2.out)) (fun hHeld => ?_)
          clear hK K
          try simp only [Act.put, List.setIfInBounds_toArray, List.set_cons_zero, List.set_cons_succ]
          refine take_val (i := 6) (.bool false) rfl (by kernel_rfl) (by kernel_rfl) (by kernel_rfl) (fun _ _ _ h => h) (by rfl) (fun w hSw => by go_simp) hHeld ?_
          simp only [Act.put, List.setIfInBounds_toArray, List.set_cons_zero, List.set_cons_succ]
          refine take_val (i := 7) (.agg #[.slice bkp bks.length bkc, .slice brp brs.length brc]) rfl (by kernel_rfl) (by kernel_rfl) (by kernel_rfl) (fun _ _ _ h => h) (by rfl) (fun w hSw => by go_simp) hHeld ?_
          simp only [Act.put, List.setIfInBounds_toArray, List.set_cons_zero, List.set_cons_succ]
          refine take_val (i := 8) (.slice (some ⟨b7, o7 + i * 6, none⟩) 1 (cap - i)) rfl (by kernel_rfl) (by kernel_rfl) (by kernel_rfl) (fun _ _ _ h => h) (by rfl) (fun w hSw => by go_simp) hHeld ?_
          simp only [Act.put, List.setIfInBounds_toArray, List.set_cons_zero, List.set_cons_succ]
          clear hHeld
          refine wpAnyH_ready (rs := [9]) (by kernel_rfl) (by simp) ?_
          refine AllReadyH.cons (at_drop0 rfl) (fun K hK => ?_) AllReadyH.nil
          rw [if_pos (by rfl)]
          go_simp
          refine (HQB.out x2 HX2.out).mono ?_
          rintro e wz ⟨rfl, hbz⟩
          have HBZ : Hid (Below W3.heap.size W3 wz) := bel_then HX2.out HX2.out.size hbz
          clear hbz HX2
          go_wp2_with fail
          refine hK.out _ _ ((HS8.out wz HBZ.out)) (fun hHeld => ?_)
          clear hK K
          try simp only [Act.put, List.setIfInBounds_toArray, List.set_cons_zero, List.set_cons_succ]
          refine take_val (i := 10) (.bool BU) rfl (by kernel_rfl) (by kernel_rfl) (by kernel_rfl) (fun _ _ _ h => h) (by rfl) (fun w hSw => by go_simp) hHeld ?_
          simp only [Act.put, List.setIfInBounds_toArray, List.set_cons_zero, List.set_cons_succ]
          have hg11 : (BU != BU) = false := by first | rfl | (cases BU <;> rfl)
          refine take_val (i := 11) (.bool false) rfl (by kernel_rfl) (by kernel_rfl) (by kernel_rfl) (fun _ _ _ h => h) (by rfl) (fun w hSw => by go_simp) hHeld ?_
          simp only [Act.put, List.setIfInBounds_toArray, List.set_cons_zero, List.set_cons_succ]
          refine take_val (i := 12) (.bool false) rfl (by kernel_rfl) (by kernel_rfl) (by kernel_rfl) (fun _ _ _ h => h) (by rfl) (fun w hSw => by go_simp) hHeld ?_
          simp only [Act.put, List.setIfInBounds_toArray, List.set_cons_zero, List.set_cons_succ]
          refine take_val (i := 13) (.agg #[.slice akp aks.length akc, .slice arp ars.length arc]) rfl (by kernel_rfl) (by kernel_rfl) (by kernel_rfl) (fun _ _ _ h => h) (by rfl) (fun w hSw => by go_simp) hHeld ?_
          simp only [Act.put, List.setIfInBounds_toArray, List.set_cons_zero, List.set_cons_succ]
          refine take_val (i := 14) (.slice (some ⟨b7, o7, none⟩) l.length cap) rfl (by kernel_rfl) (by kernel_rfl) (by kernel_rfl) (fun _ _ _ h => h) (by rfl) (fun w hSw => by go_simp) hHeld ?_
          simp only [Act.put, List.setIfInBounds_toArray, List.set_cons_zero, List.set_cons_succ]
          refine take_val (i := 15) (.int .i64 i) rfl (by kernel_rfl) (by kernel_rfl) (by kernel_rfl) (fun _ _ _ h => h) (by rfl) (fun w hSw => by go_simp) hHeld ?_
          simp only [Act.put, List.setIfInBounds_toArray, List.set_cons_zero, List.set_cons_succ]
          refine take_val (i := 16) (.pointer (some ⟨b7, o7 + i * 6, none⟩)) rfl (by kernel_rfl) (by kernel_rfl) (by kernel_rfl) (fun _ _ _ h => h) (by rfl) (fun w hSw => by go_simp) hHeld ?_
          simp only [Act.put, List.setIfInBounds_toArray, List.set_cons_zero, List.set_cons_succ]
          refine take_val (i := 17) (.pointer (some ⟨b7, o7 + i * 6, none⟩)) rfl (by kernel_rfl) (by kernel_rfl) (by kernel_rfl) (fun _ _ _ h => h) (by rfl) (fun w hSw => by go_simp) hHeld ?_
          simp only [Act.put, List.setIfInBounds_toArray, List.set_cons_zero, List.set_cons_succ]
          refine take_val (i := 18) (.agg #[.string c.a, .string c.b]) rfl (by kernel_rfl) (by kernel_rfl) (by kernel_rfl) (fun _ _ _ h => h) (by rfl) (fun w hSw => by go_simp) hHeld ?_
          simp only [Act.put, List.setIfInBounds_toArray, List.set_cons_zero, List.set_cons_succ]
          refine take_val (i := 20) (.slice (some ⟨b7, o7 + i * 6, none⟩) 1 (cap - i)) rfl (by kernel_rfl) (by kernel_rfl) (by kernel_rfl) (fun _ _ _ h => h) (by rfl) (fun w hSw => by go_simp) hHeld ?_
          simp only [Act.put, List.setIfInBounds_toArray, List.set_cons_zero, List.set_cons_succ]
          clear hHeld hg11
          refine wpAnyH_ready (rs := [19]) (by kernel_rfl) (by simp) ?_
          refine AllReadyH.cons (at_drop0 rfl) (fun K hK => ?_) AllReadyH.nil
          rw [if_pos (by rfl)]
          go_simp
          refine (HQK.out wz HBZ.out).mono ?_
          rintro e x3 ⟨mk3, rfl, ho3, hk3, hb3⟩
          have H21 := hid (HQM.out wz x3 mk3 HBZ.out ho3 hk3 hb3)
          have HX3 : Hid (Below W3.heap.size W3 x3) := bel_then HBZ.out HBZ.out.size hb3
          clear ho3 hk3 hb3
          obtain ⟨gkp, gkc, gks, grp, grc, grs⟩ := mk3
          simp only [encMx, Mx.ksl, Mx.rsl] at H21 ⊢
          go_wp2_with fail
          refine hK.out _ _ ((HS8.out x3 HX3.out)) (fun hHeld => ?_)
          clear hK K
          try simp only [Act.put, List.setIfInBounds_toArray, List.set_cons_zero, List.set_cons_succ]
          clear hHeld
          refine wpAnyH_ready (rs := [21]) (by kernel_rfl) (by simp) ?_
          refine AllReadyH.cons (at_drop0 rfl) (fun K hK => ?_) AllReadyH.nil
          rw [if_pos (by rfl)]
          go_simp
          refine H21.out.mono ?_
          rintro e x4 ⟨rfl, hb4⟩
          have HX4 : Hid (Below W3.heap.size W3 x4) := bel_then HX3.out HX3.out.size hb4
          clear hb4 H21 HX3
          go_wp2_with fail
          refine hK.out _ _ ((HS8.out x4 HX4.out)) (fun hHeld => ?_)
          clear hK K
          try simp only [Act.put, List.setIfInBounds_toArray, List.set_cons_zero, List.set_cons_succ]
          refine take_val (i := 22) (.bool false) rfl (by kernel_rfl) (by kernel_rfl) (by kernel_rfl) (fun _ _ _ h => h) (by rfl) (fun w hSw => by go_simp) hHeld ?_
          simp only [Act.put, List.setIfInBounds_toArray, List.set_cons_zero, List.set_cons_succ]
          refine take_val (i := 23) (.bool false) rfl (by kernel_rfl) (by kernel_rfl) (by kernel_rfl) (fun _ _ _ h => h) (by rfl) (fun w hSw => by go_simp) hHeld ?_
          simp only [Act.put, List.setIfInBounds_toArray, List.set_cons_zero, List.set_cons_succ]
          refine wpAnyH_done (by kernel_rfl) ?_ _
          clear hHeld
          go_wp2_with fail
          go_meet
          case rel => exact ⟨rfl, HX4.out⟩
      case rest =>
        obtain ⟨rfl, HWC⟩ := hcut
        clear HQU HQA HQB HQK HQM HI hbu
        have j1 : (i : Int) ≤ (cap : Int) := by omega
        have j2 : (i : Int) - 0 = (i : Int) := by omega
        go_upto_region 10 with fail
        go_cut [59] from 25 to 60 (fun v wx => v = .bool false ∧ Hid (Below W3.heap.size W3 wx))
        case first =>
          refine wp_region_held_drew (S := fun W => W.cell? ⟨M, 0, none⟩ = some (.slice akp aks.length akc) ∧ W.cell? ⟨M, 1, none⟩ = some (.slice arp ars.length arc) ∧ W.cell? ⟨M + 1, 0, none⟩ = some (.slice bkp bks.length bkc) ∧ W.cell? ⟨M + 1, 1, none⟩ = some (.slice brp brs.length brc) ∧ W.cell? ⟨U, 0, none⟩ = some (.slice ukp uks.length ukc) ∧ W.cell? ⟨U, 1, none⟩ = some (.slice urp urs.length urc) ∧ W.cell? ⟨b7, o7 + i * 6, none⟩ = some (.string c.a) ∧ W.cell? ⟨b7, o7 + i * 6 + 1, none⟩ = some (.string c.b)) (by kernel_rfl) (HS8.out wc.drew (bel_drewN HWC.out 1)) (fun hHeld => ?_)
          refine take_val (i := 0) (.agg #[.slice akp aks.length akc, .slice arp ars.length arc]) rfl (by kernel_rfl) (by kernel_rfl) (by kernel_rfl) (fun _ _ _ h => h) (by rfl) (fun w hSw => by go_simp) hHeld ?_
          simp only [Act.put, List.setIfInBounds_toArray, List.set_cons_zero, List.set_cons_succ]
          refine take_val (i := 1) (.slice (some ⟨b7, o7, none⟩) l.length cap) rfl (by kernel_rfl) (by kernel_rfl) (by kernel_rfl) (fun _ _ _ h => h) (by rfl) (fun w hSw => by go_simp) hHeld ?_
          simp only [Act.put, List.setIfInBounds_toArray, List.set_cons_zero, List.set_cons_succ]
          refine take_val (i := 2) (.int .i64 i) rfl (by kernel_rfl) (by kernel_rfl) (by kernel_rfl) (fun _ _ _ h => h) (by rfl) (fun w hSw => by go_simp) hHeld ?_
          simp only [Act.put, List.setIfInBounds_toArray, List.set_cons_zero, List.set_cons_succ]
          refine take_val (i := 3) (.slice (some ⟨b7, o7, none⟩) i cap) rfl (by kernel_rfl) (by kernel_rfl) (by kernel_rfl) (fun _ _ _ h => h) (by rfl) (fun w hSw => by go_simp) hHeld ?_
          simp only [Act.put, List.setIfInBounds_toArray, List.set_cons_zero, List.set_cons_succ]
          clear hHeld
          refine wpAnyH_ready (rs := [4]) (by kernel_rfl) (by simp) ?_
          refine AllReadyH.cons (at_drop0 rfl) (fun K hK => ?_) AllReadyH.nil
          rw [if_pos (by rfl)]
          go_simp
          refine (HQF.out wc.drew (bel_drewN HWC.out 1)).mono ?_
          rintro e x1 ⟨rfl, hb1⟩
          have HX1 : Hid (Below W3.heap.size W3 x1) := bel_then (bel_drewN HWC.out 1) (bel_drewN HWC.out 1).size hb1
          clear hb1
          cases BF with
          | false =>
            go_wp2_with fail
            refine hK.out _ _ ((HS8.out x1 HX1.out)) (fun hHeld => ?_)
            clear hK K
            try simp only [Act.put, List.setIfInBounds_toArray, List.set_cons_zero, List.set_cons_succ]
            refine take_val (i := 5) (.bool false) rfl (by kernel_rfl) (by kernel_rfl) (by kernel_rfl) (fun _ _ _ h => h) (by rfl) (fun w hSw => by go_simp) hHeld ?_
            simp only [Act.put, List.setIfInBounds_toArray, List.set_cons_zero, List.set_cons_succ]
            refine take_not (i := 6) rfl (by kernel_rfl) (by kernel_rfl) (by kernel_rfl) (fun _ _ _ h => h) (by rfl) hHeld ?_
            simp only [Act.put, List.setIfInBounds_toArray, List.set_cons_zero, List.set_cons_succ]
            refine take_not (i := 7) rfl (by kernel_rfl) (by kernel_rfl) (by kernel_rfl) (fun _ _ _ h => h) (by rfl) hHeld ?_
            simp only [Act.put, List.setIfInBounds_toArray, List.set_cons_zero, List.set_cons_succ]
            refine take_not (i := 8) rfl (by kernel_rfl) (by kernel_rfl) (by kernel_rfl) (fun _ _ _ h => h) (by rfl) hHeld ?_
            simp only [Act.put, List.setIfInBounds_toArray, List.set_cons_zero, List.set_cons_succ]
            refine take_not (i := 9) rfl (by kernel_rfl) (by kernel_rfl) (by kernel_rfl) (fun _ _ _ h => h) (by rfl) hHeld ?_
            simp only [Act.put, List.setIfInBounds_toArray, List.set_cons_zero, List.set_cons_succ]
            refine take_val (i := 10) (.bool false) rfl (by kernel_rfl) (by kernel_rfl) (by kernel_rfl) (fun _ _ _ h => h) (by rfl) (fun w hSw => by go_simp) hHeld ?_
            simp only [Act.put, List.setIfInBounds_toArray, List.set_cons_zero, List.set_cons_succ]
            refine wpAnyH_done (by kernel_rfl) ?_ _
            clear hHeld
            go_wp2_with fail
            go_meet
            case rel => exact ⟨rfl, HX1.out⟩
          | true =>
            obtain rfl : BL = true := HML.out rfl
            go_wp2_with fail
            refine hK.out _ _ ((HS8.out x1 HX1.out)) (fun hHeld => ?_)
            clear hK K
            try simp only [Act.put, List.setIfInBounds_toArray, List.set_cons_zero, List.set_cons_succ]
            refine take_val (i := 5) (.bool true) rfl (by kernel_rfl) (by kernel_rfl) (by kernel_rfl) (fun _ _ _ h => h) (by rfl) (fun w hSw => by go_simp) hHeld ?_
            simp only [Act.put, List.setIfInBounds_toArray, List.set_cons_zero, List.set_cons_succ]
            refine take_val (i := 6) (.agg #[.slice akp aks.length akc, .slice arp ars.length arc]) rfl (by kernel_rfl) (by kernel_rfl) (by kernel_rfl) (fun _ _ _ h => h) (by rfl) (fun w hSw => by go_simp) hHeld ?_
            simp only [Act.put, List.setIfInBounds_toArray, List.set_cons_zero, List.set_cons_succ]
            refine take_val (i := 7) (.slice (some ⟨b7, o7, none⟩) l.length cap) rfl (by kernel_rfl) (by kernel_rfl) (by kernel_rfl) (fun _ _ _ h => h) (by rfl) (fun w hSw => by go_simp) hHeld ?_
            simp only [Act.put, List.setIfInBounds_toArray, List.set_cons_zero, List.set_cons_succ]
            clear hHeld
            refine wpAnyH_ready (rs := [8]) (by kernel_rfl) (by simp) ?_
            refine AllReadyH.cons (at_drop0 rfl) (fun K hK => ?_) AllReadyH.nil
            rw [if_pos (by rfl)]
            go_simp
            refine (HQL.out x1 HX1.out).mono ?_
            rintro e x2 ⟨rfl, hb2⟩
            have HX2 : Hid (Below W3.heap.size W3 x2) := bel_then HX1.out HX1.out.size hb2
            clear hb2
            go_wp2_with fail
            refine hK.out _ _ ((HS8.out x2 HX2.out)) (fun hHeld => ?_)
            clear hK K
            try simp only [Act.put, List.setIfInBounds_toArray, List.set_cons_zero, List.set_cons_succ]
            refine take_val (i := 9) (.bool false) rfl (by kernel_rfl) (by kernel_rfl) (by kernel_rfl) (fun _ _ _ h => h) (by rfl) (fun w hSw => by go_simp) hHeld ?_
            simp only [Act.put, List.setIfInBounds_toArray, List.set_cons_zero, List.set_cons_succ]
            refine take_val (i := 10) (.bool false) rfl (by kernel_rfl) (by kernel_rfl) (by kernel_rfl) (fun _ _ _ h => h) (by rfl) (fun w hSw => by go_simp) hHeld ?_
            simp only [Act.put, List.setIfInBounds_toArray, List.set_cons_zero, List.set_cons_succ]
            refine wpAnyH_done (by kernel_rfl) ?_ _
            clear hHeld
            go_wp2_with fail
            go_meet
            case rel => exact ⟨rfl, HX2.out⟩
        case rest =>
          obtain ⟨rfl, HWD⟩ := hcut
          clear HQF HQL HML HWC
          go_wp2_with fail
          go_roundg (l.length - (i + 1))
          case measure => omega
          exact ⟨i + 1, by go_num, by omega, by omega, HWD.out⟩
    · have hltz : ¬ (i : Int) < (l.length : Int) := by omega
      obtain ⟨BU, hBU⟩ : ∃ x, hitsM (unionM mka mkb) (l.map Cx.ch) = x := ⟨_, rfl⟩
      obtain ⟨BA, hBA⟩ : ∃ x, hitsM mka (l.map Cx.ch) = x := ⟨_, rfl⟩
      obtain ⟨BB', hBB⟩ : ∃ x, hitsM mkb (l.map Cx.ch) = x := ⟨_, rfl⟩
      have hbu : BU = (BA || BB') := by rw [← hBU, ← hBA, ← hBB]; exact hits_union mka mkb _
      have HQU : Hid (∀ W', Below W3.heap.size W3 W' → Calls Try.prog 19 #[.agg #[.slice ukp uks.length ukc, .slice urp urs.length urc], .slice p l.length cap] W' fun e w' => BoolPost W' BU e w') := fun W' hW => by
        have := HCU.out W' _ _ hW (HCL.out W' hW) hl
        rwa [hBU] at this
      have HQA : Hid (∀ W', Below W3.heap.size W3 W' → Calls Try.prog 19 #[.agg #[.slice akp aks.length akc, .slice arp ars.length arc], .slice p l.length cap] W' fun e w' => BoolPost W' BA e w') := fun W' hW => by
        have := HCA.out W' _ _ hW (HCL.out W' hW) hl
        rwa [hBA] at this
      have HQB : Hid (∀ W', Below W3.heap.size W3 W' → Calls Try.prog 19 #[.agg #[.slice bkp bks.length bkc, .slice brp brs.length brc], .slice p l.length cap] W' fun e w' => BoolPost W' BB' e w') := fun W' hW => by
        have := HCB.out W' _ _ hW (HCL.out W' hW) hl
        rwa [hBB] at this
      have HQE : Hid (∀ W', Below W3.heap.size W3 W' → Calls Try.prog 19 #[.agg #[.slice none 0 0, .slice none 0 0], .slice p l.length cap] W' fun e w' => BoolPost W' false e w') := fun W' hW => by
        have := HHI.out W' ⟨none, 0, [], none, 0, []⟩ _ _ (HIU.out W' hW).1 ⟨KK.is_nil W', KRx.is_nil W', fun r hr => by cases hr⟩ ⟨by decide, by decide⟩ (HCL.out W' hW) hl
        rwa [show hitsM (⟨none, 0, [], none, 0, []⟩ : Mx).mk' (l.map Cx.ch) = false from hits_none _] at this
      clear hBU hBA hBB HCU HCA HCB HCL HHI
      go_upto_region 13 with fail
      refine wp_region_held_drew (S := fun W => W.cell? ⟨M, 0, none⟩ = some (.slice akp aks.length akc) ∧ W.cell? ⟨M, 1, none⟩ = some (.slice arp ars.length arc) ∧ W.cell? ⟨M + 1, 0, none⟩ = some (.slice bkp bks.length bkc) ∧ W.cell? ⟨M + 1, 1, none⟩ = some (.slice brp brs.length brc) ∧ W.cell? ⟨U, 0, none⟩ = some (.slice ukp uks.length ukc) ∧ W.cell? ⟨U, 1, none⟩ = some (.slice urp urs.length urc)) (by kernel_rfl) (HCE.out wr.drew (bel_drewN HI.out 1)) (fun hHeld => ?_)
      refine take_val (i := 0) (.agg #[.slice ukp uks.length ukc, .slice urp urs.length urc]) rfl (by kernel_rfl) (by kernel_rfl) (by kernel_rfl) (fun _ _ _ h => h) (by rfl) (fun w hSw => by go_simp) hHeld ?_
      simp only [Act.put, List.setIfInBounds_toArray, List.set_cons_zero, List.set_cons_succ]
      refine take_val (i := 1) (.slice p l.length cap) rfl (by kernel_rfl) (by kernel_rfl) (by kernel_rfl) (fun _ _ _ h => h) (by rfl) (fun w hSw => by go_simp) hHeld ?_
      simp only [Act.put, List.setIfInBounds_toArray, List.set_cons_zero, List.set_cons_succ]
      refine take_val (i := 3) (.agg #[.slice akp aks.length akc, .slice arp ars.length arc]) rfl (by kernel_rfl) (by kernel_rfl) (by kernel_rfl) (fun _ _ _ h => h) (by rfl) (fun w hSw => by go_simp) hHeld ?_
      simp only [Act.put, List.setIfInBounds_toArray, List.set_cons_zero, List.set_cons_succ]
      refine take_val (i := 4) (.slice p l.length cap) rfl (by kernel_rfl) (by kernel_rfl) (by kernel_rfl) (fun _ _ _ h => h) (by rfl) (fun w hSw => by go_simp) hHeld ?_
      simp only [Act.put, List.setIfInBounds_toArray, List.set_cons_zero, List.set_cons_succ]
      clear hHeld
      refine wpAnyH_ready (rs := [2]) (by kernel_rfl) (by simp) ?_
      refine AllReadyH.cons (at_drop0 rfl) (fun K hK => ?_) AllReadyH.nil
      rw [if_pos (by rfl)]
      go_simp
      refine (HQU.out wr.drew (bel_drewN HI.out 1)).mono ?_
      rintro e x1 ⟨rfl, hb1⟩
      have HX1 : Hid (Below W3.heap.size W3 x1) := bel_then (bel_drewN HI.out 1) (bel_drewN HI.out 1).size hb1
      clear hb1
      go_wp2_with fail
      refine hK.out _ _ ((HCE.out x1 HX1.out)) (fun hHeld => ?_)
      clear hK K
      try simp only [Act.put, List.setIfInBounds_toArray, List.set_cons_zero, List.set_cons_succ]
      clear hHeld
      refine wpAnyH_ready (rs := [5]) (by kernel_rfl) (by simp) ?_
      refine AllReadyH.cons (at_drop0 rfl) (fun K hK => ?_) AllReadyH.nil
      rw [if_pos (by rfl)]
      go_simp
      refine (HQA.out x1 HX1.out).mono ?_
      rintro e x2 ⟨rfl, hb2⟩
      have HX2 : Hid (Below W3.heap.size W3 x2) := bel_then HX1.out HX1.out.size hb2
      clear hb2 HX1
      cases BA with
      | true =>
        obtain rfl : BU = true := hbu
        try clear hbu
        go_wp2_with fail
        refine hK.out _ _ ((HCE.out x2 HX2.out)) (fun hHeld => ?_)
        clear hK K
        try simp only [Act.put, List.setIfInBounds_toArray, List.set_cons_zero, List.set_cons_succ]
        refine take_val (i := 6) (.bool true) rfl (by kernel_rfl) (by kernel_rfl) (by kernel_rfl) (fun _ _ _ h => h) (by rfl) (fun w hSw => by go_simp) hHeld ?_
        simp only [Act.put, List.setIfInBounds_toArray, List.set_cons_zero, List.set_cons_succ]
        refine take_not (i := 7) rfl (by kernel_rfl) (by kernel_rfl) (by kernel_rfl) (fun _ _ _ h => h) (by rfl) hHeld ?_
        simp only [Act.put, List.setIfInBounds_toArray, List.set_cons_zero, List.set_cons_succ]
        refine take_not (i := 8) rfl (by kernel_rfl) (by kernel_rfl) (by kernel_rfl) (fun _ _ _ h => h) (by rfl) hHeld ?_
        simp only [Act.put, List.setIfInBounds_toArray, List.set_cons_zero, List.set_cons_succ]
        refine take_not (i := 9) rfl (by kernel_rfl) (by kernel_rfl) (by kernel_rfl) (fun _ _ _ h => h) (by rfl) hHeld ?_
        simp only [Act.put, List.setIfInBounds_toArray, List.set_cons_zero, List.set_cons_succ]
        refine take_val (i := 10) (.bool true) rfl (by kernel_rfl) (by kernel_rfl) (by kernel_rfl) (fun _ _ _ h => h) (by rfl) (fun w hSw => by go_simp) hHeld ?_
        simp only [Act.put, List.setIfInBounds_toArray, List.set_cons_zero, List.set_cons_succ]
        have hg12 : (true == true) = true := by first | rfl | (cases true <;> rfl)
        refine take_val (i := 11) (.bool true) rfl (by kernel_rfl) (by kernel_rfl) (by kernel_rfl) (fun _ _ _ h => h) (by rfl) (fun w hSw => by go_simp) hHeld ?_
        simp only [Act.put, List.setIfInBounds_toArray, List.set_cons_zero, List.set_cons_succ]
        refine take_val (i := 12) (.bool true) rfl (by kernel_rfl) (by kernel_rfl) (by kernel_rfl) (fun _ _ _ h => h) (by rfl) (fun w hSw => by go_simp) hHeld ?_
        simp only [Act.put, List.setIfInBounds_toArray, List.set_cons_zero, List.set_cons_succ]
        refine take_val (i := 13) (.agg #[.slice none 0 0, .slice none 0 0]) rfl (by kernel_rfl) (by kernel_rfl) (by kernel_rfl) (fun _ _ _ h => h) (by rfl) (fun w hSw => by go_simp) hHeld ?_
        simp only [Act.put, List.setIfInBounds_toArray, List.set_cons_zero, List.set_cons_succ]
        refine take_val (i := 14) (.slice p l.length cap) rfl (by kernel_rfl) (by kernel_rfl) (by kernel_rfl) (fun _ _ _ h => h) (by rfl) (fun w hSw => by go_simp) hHeld ?_
        simp only [Act.put, List.setIfInBounds_toArray, List.set_cons_zero, List.set_cons_succ]
        clear hHeld
        refine wpAnyH_ready (rs := [15]) (by kernel_rfl) (by simp) ?_
        refine AllReadyH.cons (at_drop0 rfl) (fun K hK => ?_) AllReadyH.nil
        rw [if_pos (by rfl)]
        go_simp
        refine (HQE.out x2 HX2.out).mono ?_
        rintro e x4 ⟨rfl, hb4⟩
        have HX4 : Hid (Below W3.heap.size W3 x4) := bel_then HX2.out HX2.out.size hb4
        clear hb4
        go_wp2_with fail
        refine hK.out _ _ ((HCE.out x4 HX4.out)) (fun hHeld => ?_)
        clear hK K
        try simp only [Act.put, List.setIfInBounds_toArray, List.set_cons_zero, List.set_cons_succ]
        refine take_val (i := 16) (.bool true) rfl (by kernel_rfl) (by kernel_rfl) (by kernel_rfl) (fun _ _ _ h => h) (by rfl) (fun w hSw => by go_simp) hHeld ?_
        simp only [Act.put, List.setIfInBounds_toArray, List.set_cons_zero, List.set_cons_succ]
        refine take_val (i := 17) (.bool true) rfl (by kernel_rfl) (by kernel_rfl) (by kernel_rfl) (fun _ _ _ h => h) (by rfl) (fun w hSw => by go_simp) hHeld ?_
        simp only [Act.put, List.setIfInBounds_toArray, List.set_cons_zero, List.set_cons_succ]
        refine take_val (i := 18) (.bool true) rfl (by kernel_rfl) (by kernel_rfl) (by kernel_rfl) (fun _ _ _ h => h) (by rfl) (fun w hSw => by go_simp) hHeld ?_
        simp only [Act.put, List.setIfInBounds_toArray, List.set_cons_zero, List.set_cons_succ]
        refine wpAnyH_done (by kernel_rfl) ?_ _
        clear hHeld
        have HE := hid (HBW.out x4 HX4.out)
        go_wp2_with fail
        go_ret
        exact ⟨rfl, HE.out⟩
      | false =>
        obtain rfl : BU = BB' := hbu
        go_wp2_with fail
        refine hK.out _ _ ((HCE.out x2 HX2.out)) (fun hHeld => ?_)
        clear hK K
        try simp only [Act.put, List.setIfInBounds_toArray, List.set_cons_zero, List.set_cons_succ]
        refine take_val (i := 6) (.bool false) rfl (by kernel_rfl) (by kernel_rfl) (by kernel_rfl) (fun _ _ _ h => h) (by rfl) (fun w hSw => by go_simp) hHeld ?_
        simp only [Act.put, List.setIfInBounds_toArray, List.set_cons_zero, List.set_cons_succ]
        refine take_val (i := 7) (.agg #[.slice bkp bks.length bkc, .slice brp brs.length brc]) rfl (by kernel_rfl) (by kernel_rfl) (by kernel_rfl) (fun _ _ _ h => h) (by rfl) (fun w hSw => by go_simp) hHeld ?_
        simp only [Act.put, List.setIfInBounds_toArray, List.set_cons_zero, List.set_cons_succ]
        refine take_val (i := 8) (.slice p l.length cap) rfl (by kernel_rfl) (by kernel_rfl) (by kernel_rfl) (fun _ _ _ h => h) (by rfl) (fun w hSw => by go_simp) hHeld ?_
        simp only [Act.put, List.setIfInBounds_toArray, List.set_cons_zero, List.set_cons_succ]
        clear hHeld
        refine wpAnyH_ready (rs := [9]) (by kernel_rfl) (by simp) ?_
        refine AllReadyH.cons (at_drop0 rfl) (fun K hK => ?_) AllReadyH.nil
        rw [if_pos (by rfl)]
        go_simp
        refine (HQB.out x2 HX2.out).mono ?_
        rintro e wz ⟨rfl, hbz⟩
        have HBZ : Hid (Below W3.heap.size W3 wz) := bel_then HX2.out HX2.out.size hbz
        clear hbz HX2
        go_wp2_with fail
        refine hK.out _ _ ((HCE.out wz HBZ.out)) (fun hHeld => ?_)
        clear hK K
        try simp only [Act.put, List.setIfInBounds_toArray, List.set_cons_zero, List.set_cons_succ]
        refine take_val (i := 10) (.bool BU) rfl (by kernel_rfl) (by kernel_rfl) (by kernel_rfl) (fun _ _ _ h => h) (by rfl) (fun w hSw => by go_simp) hHeld ?_
        simp only [Act.put, List.setIfInBounds_toArray, List.set_cons_zero, List.set_cons_succ]
        have hg12 : (BU == BU) = true := by first | rfl | (cases BU <;> rfl)
        refine take_val (i := 11) (.bool true) rfl (by kernel_rfl) (by kernel_rfl) (by kernel_rfl) (fun _ _ _ h => h) (by rfl) (fun w hSw => by go_simp) hHeld ?_
        simp only [Act.put, List.setIfInBounds_toArray, List.set_cons_zero, List.set_cons_succ]
        refine take_val (i := 12) (.bool true) rfl (by kernel_rfl) (by kernel_rfl) (by kernel_rfl) (fun _ _ _ h => h) (by rfl) (fun w hSw => by go_simp) hHeld ?_
        simp only [Act.put, List.setIfInBounds_toArray, List.set_cons_zero, List.set_cons_succ]
        refine take_val (i := 13) (.agg #[.slice none 0 0, .slice none 0 0]) rfl (by kernel_rfl) (by kernel_rfl) (by kernel_rfl) (fun _ _ _ h => h) (by rfl) (fun w hSw => by go_simp) hHeld ?_
        simp only [Act.put, List.setIfInBounds_toArray, List.set_cons_zero, List.set_cons_succ]
        refine take_val (i := 14) (.slice p l.length cap) rfl (by kernel_rfl) (by kernel_rfl) (by kernel_rfl) (fun _ _ _ h => h) (by rfl) (fun w hSw => by go_simp) hHeld ?_
        simp only [Act.put, List.setIfInBounds_toArray, List.set_cons_zero, List.set_cons_succ]
        clear hHeld
        refine wpAnyH_ready (rs := [15]) (by kernel_rfl) (by simp) ?_
        refine AllReadyH.cons (at_drop0 rfl) (fun K hK => ?_) AllReadyH.nil
        rw [if_pos (by rfl)]
        go_simp
        refine (HQE.out wz HBZ.out).mono ?_
        rintro e x4 ⟨rfl, hb4⟩
        have HX4 : Hid (Below W3.heap.size W3 x4) := bel_then HBZ.out HBZ.out.size hb4
        clear hb4
        go_wp2_with fail
        refine hK.out _ _ ((HCE.out x4 HX4.out)) (fun hHeld => ?_)
        clear hK K
        try simp only [Act.put, List.setIfInBounds_toArray, List.set_cons_zero, List.set_cons_succ]
        refine take_val (i := 16) (.bool true) rfl (by kernel_rfl) (by kernel_rfl) (by kernel_rfl) (fun _ _ _ h => h) (by rfl) (fun w hSw => by go_simp) hHeld ?_
        simp only [Act.put, List.setIfInBounds_toArray, List.set_cons_zero, List.set_cons_succ]
        refine take_val (i := 17) (.bool true) rfl (by kernel_rfl) (by kernel_rfl) (by kernel_rfl) (fun _ _ _ h => h) (by rfl) (fun w hSw => by go_simp) hHeld ?_
        simp only [Act.put, List.setIfInBounds_toArray, List.set_cons_zero, List.set_cons_succ]
        refine take_val (i := 18) (.bool true) rfl (by kernel_rfl) (by kernel_rfl) (by kernel_rfl) (fun _ _ _ h => h) (by rfl) (fun w hSw => by go_simp) hHeld ?_
        simp only [Act.put, List.setIfInBounds_toArray, List.set_cons_zero, List.set_cons_succ]
        refine wpAnyH_done (by kernel_rfl) ?_ _
        clear hHeld
        have HE := hid (HBW.out x4 HX4.out)
        go_wp2_with fail
        go_ret
        exact ⟨rfl, HE.out⟩

end Go.Proofs.Ythdakljoabbghaa

/-
  MarksGrow (stage 12): two marks that grow in boxes of their own; the keys and ranges along the way. No function.
-/
namespace Go.Proofs.Ythdakljoabbghaa
open Go.RowKit

/-! ## Keys put one by one -/

/-- Rising keys, just those of which S speaks, at most n. -/
structure KeySt (S : Ky → Prop) (n : Nat) (l : List Ky) : Prop where
  rise : RisingR ltKy l
  mem : ∀ z, z ∈ l ↔ S z
  len : l.length ≤ n
theorem KeySt.nil : KeySt (fun _ => False) 0 [] := ⟨List.Pairwise.nil, fun z => by simp, by simp⟩
theorem KeySt.key {S : Ky → Prop} {n : Nat} {l : List Ky} (h : KeySt S n l) (k : Ky) : KeySt (fun z => z = k ∨ S z) (n + 1) (insR ltKy k (sortK l)) := by
  refine ⟨rising_insR totK k (sortK_spec l).1, fun z => ?_, ?_⟩
  · rw [mem_insR, (sortK_spec l).2, h.mem]
  · have h1 := insK_len k (sortK l)
    have h2 := sortK_len l
    have h3 := h.len
    omega
theorem KeySt.congr {S S' : Ky → Prop} {n : Nat} {l : List Ky} (h : KeySt S n l) (e : ∀ z, S z ↔ S' z) : KeySt S' n l := ⟨h.rise, fun z => (h.mem z).trans (e z), h.len⟩
theorem KeySt.same {S : Ky → Prop} {n m : Nat} {l l' : List Ky} (h : KeySt S n l) (h' : KeySt S m l') : l = l' := rising_uniqR totK h.rise h'.rise fun z => (h.mem z).trans (h'.mem z).symm
theorem keySt_sort (l : List Ky) : KeySt (fun z => z ∈ l) l.length (sortK l) := ⟨(sortK_spec l).1, (sortK_spec l).2, sortK_len l⟩

theorem mem_take_succ {l : List Ky} {i : Nat} (h : i < l.length) (z : Ky) : (z = l[i] ∨ z ∈ l.take i) ↔ z ∈ l.take (i + 1) := by
  rw [List.take_succ_eq_append_getElem h, List.mem_append, List.mem_singleton]
  exact Or.comm

/-- The keys from place m on, round. -/
def roundK (l : List Ky) (m i : Nat) (z : Ky) : Prop := ∃ j, j < i ∧ l[(m + j) % l.length]? = some z
theorem roundK_zero (l : List Ky) (m : Nat) (z : Ky) : False ↔ roundK l m 0 z := ⟨fun h => h.elim, fun ⟨j, hj, _⟩ => by omega⟩
theorem roundK_succ {l : List Ky} {m i t : Nat} (ht : t < l.length) (e : t = (m + i) % l.length) (z : Ky) : (z = l[t] ∨ roundK l m i z) ↔ roundK l m (i + 1) z := by
  constructor
  · rintro (h | ⟨j, hj, h⟩)
    · exact ⟨i, by omega, by rw [← e, List.getElem?_eq_getElem ht, h]⟩
    · exact ⟨j, by omega, h⟩
  · rintro ⟨j, hj, h⟩
    by_cases hji : j = i
    · subst hji
      rw [← e, List.getElem?_eq_getElem ht] at h
      injection h with h
      exact Or.inl h.symm
    · exact Or.inr ⟨j, by omega, h⟩
theorem roundK_all {l : List Ky} {m : Nat} (hm : m < l.length) (z : Ky) : roundK l m l.length z ↔ z ∈ l := by
  constructor
  · rintro ⟨j, _, h⟩
    exact List.mem_of_getElem? h
  · intro h
    obtain ⟨i, hi, rfl⟩ := List.mem_iff_getElem.1 h
    have hn : 0 < l.length := by omega
    refine ⟨(i + (l.length - m)) % l.length, Nat.mod_lt _ hn, ?_⟩
    have : (m + (i + (l.length - m)) % l.length) % l.length = i := by
      rw [Nat.add_mod_mod, show m + (i + (l.length - m)) = i + l.length by omega, Nat.add_mod_right, Nat.mod_eq_of_lt hi]
    rw [this]
    exact List.getElem?_eq_getElem hi

/-- Ranges put one by one. -/
def rangesM (l : List Rg) : List Rg := l.foldl putR []
theorem ranges_succ {l : List Rg} {i : Nat} (h : i < l.length) : putR (rangesM (l.take i)) l[i] = rangesM (l.take (i + 1)) := by
  unfold rangesM
  rw [List.take_succ_eq_append_getElem h, List.foldl_append]
  rfl
theorem ranges_nodup (l : List Rg) : (rangesM l).Nodup := nodup_putsR l [] List.nodup_nil
theorem ranges_len (l : List Rg) : (rangesM l).length ≤ l.length := by
  have := putsR_len l []
  unfold rangesM
  simpa using this

/-! ## In memory -/

/-- The boxes' blocks. -/
def BoxP (A B : Nat) (k : Nat) : Prop := k = A ∨ k = B
/-- Two marks in the boxes A and B, A's with X, B's with Y. -/
structure GrAt (N : Nat) (W0 : World) (A B : Nat) (X Y : Mk → Prop) (w : World) (a b : Mx) : Prop where
  bel : Below N W0 w
  lowA : N ≤ A
  lowB : N ≤ B
  ne : A ≠ B
  boxA : w.heap[A]? = some (.cells (encA a) 25 (0, 0))
  boxB : w.heap[B]? = some (.cells (encA b) 25 (0, 0))
  x : X a.mk'
  y : Y b.mk'
  cap : a.rs.length ≤ a.rc
  keep : ∀ w', Fr (BoxP A B) w w' → MIn w' a ∧ MIn w' b
def GrSt (N : Nat) (W0 : World) (A B : Nat) (X Y : Mk → Prop) (w : World) : Prop := ∃ a b, GrAt N W0 A B X Y w a b

section
variable {N : Nat} {W0 : World} {A B : Nat} {X Y : Mk → Prop} {w : World} {a b : Mx}
theorem GrAt.ltA (h : GrAt N W0 A B X Y w a b) : A < w.heap.size := (Array.getElem?_eq_some_iff.1 h.boxA).1
theorem GrAt.ltB (h : GrAt N W0 A B X Y w a b) : B < w.heap.size := (Array.getElem?_eq_some_iff.1 h.boxB).1
theorem GrAt.base (h : GrAt N W0 A B X Y w a b) : N ≤ w.heap.size := by have := h.ltA; have := h.lowA; omega
theorem GrAt.on {w' : World} (h : GrAt N W0 A B X Y w a b) (hb : Below w.heap.size w w') : GrAt N W0 A B X Y w' a b :=
  ⟨h.bel.trans (hb.mono h.base), h.lowA, h.lowB, h.ne, (hb.block A h.ltA).trans h.boxA, (hb.block B h.ltB).trans h.boxB, h.x, h.y, h.cap, fun w2 f => h.keep w2 ((Fr.of_below hb).then f fun _ hk => Or.inl hk)⟩
theorem GrAt.inA (h : GrAt N W0 A B X Y w a b) : MIn w a := (h.keep w (Fr.refl _ _)).1
theorem GrAt.inB (h : GrAt N W0 A B X Y w a b) : MIn w b := (h.keep w (Fr.refl _ _)).2
theorem GrAt.cells (h : GrAt N W0 A B X Y w a b) : (w.cell? ⟨A, 0, none⟩ = some a.ksl ∧ w.cell? ⟨A, 1, none⟩ = some a.rsl ∧ w.cell? ⟨B, 0, none⟩ = some b.ksl ∧ w.cell? ⟨B, 1, none⟩ = some b.rsl) ∧ w.frozen? ⟨A, 0, none⟩ = false ∧ w.frozen? ⟨A, 1, none⟩ = false ∧ w.frozen? ⟨B, 0, none⟩ = false ∧ w.frozen? ⟨B, 1, none⟩ = false :=
  ⟨⟨by rw [Lib.cell_of_heap h.boxA]; rfl, by rw [Lib.cell_of_heap h.boxA]; rfl, by rw [Lib.cell_of_heap h.boxB]; rfl, by rw [Lib.cell_of_heap h.boxB]; rfl⟩, Lib.frozen_of_heap h.boxA 0, Lib.frozen_of_heap h.boxA 1, Lib.frozen_of_heap h.boxB 0, Lib.frozen_of_heap h.boxB 1⟩
theorem MOwn.cap {n : Nat} {m : Mx} (h : MOwn n w m) : m.rs.length ≤ m.rc := by
  have h1 : w.ownsRow n KRx.T KRx.k m.rsl m.rs.length (KRx.cells m.rs) := h.rows
  rcases h1.2 with ⟨h2, h3⟩ | ⟨g, cap, cur, h2, _, _, h3, _⟩
  · omega
  · unfold Mx.rsl at h2
    injection h2 with _ _ h4
    omega
/-- New marks laid into box A. -/
theorem GrAt.setA {X' : Mk → Prop} {n : Nat} {a2 : Mx} (h : GrAt N W0 A B X Y w a b) (ho : MOwn n w a2) (hA : A < n) (hB : B < n) (hX : X' a2.mk') : GrAt N W0 A B X' Y ((w.setCell ⟨A, 0, none⟩ a2.ksl).setCell ⟨A, 1, none⟩ a2.rsl) a2 b := by
  obtain ⟨_, e, f⟩ := store_two (a := a2.ksl) (b := a2.rsl) h.boxA
  have f' : Fr (BoxP A B) w ((w.setCell ⟨A, 0, none⟩ a2.ksl).setCell ⟨A, 1, none⟩ a2.rsl) := f.mono fun k hk => Or.inl hk
  refine ⟨h.bel.trans (f.below h.base fun k hk => by have := h.lowA; omega), h.lowA, h.lowB, h.ne, e, (f.block B h.ltB h.ne.symm).trans h.boxB, hX, h.y, ho.cap, fun w' g => ⟨?_, (h.keep w' (f'.then g fun k hk => Or.inl hk)).2⟩⟩
  exact (ho.fr (f'.then g fun k hk => Or.inl hk) fun k hk => by
    rcases hk with rfl | rfl
    · exact hA
    · exact hB).inn
/-- New marks laid into box B. -/
theorem GrAt.setB {Y' : Mk → Prop} {n : Nat} {b2 : Mx} (h : GrAt N W0 A B X Y w a b) (ho : MOwn n w b2) (hA : A < n) (hB : B < n) (hY : Y' b2.mk') : GrAt N W0 A B X Y' ((w.setCell ⟨B, 0, none⟩ b2.ksl).setCell ⟨B, 1, none⟩ b2.rsl) a b2 := by
  obtain ⟨_, e, f⟩ := store_two (a := b2.ksl) (b := b2.rsl) h.boxB
  have f' : Fr (BoxP A B) w ((w.setCell ⟨B, 0, none⟩ b2.ksl).setCell ⟨B, 1, none⟩ b2.rsl) := f.mono fun k hk => Or.inr hk
  refine ⟨h.bel.trans (f.below h.base fun k hk => by have := h.lowB; omega), h.lowA, h.lowB, h.ne, (f.block A h.ltA h.ne).trans h.boxA, e, h.x, hY, h.cap, fun w' g => ⟨(h.keep w' (f'.then g fun k hk => Or.inl hk)).1, ?_⟩⟩
  exact (ho.fr (f'.then g fun k hk => Or.inl hk) fun k hk => by
    rcases hk with rfl | rfl
    · exact hA
    · exact hB).inn
end

/-- One element of a row. -/
theorem Kind.is_one {α : Type} {K : Kind α} {W : World} {b off n cap : Nat} {l : List α} (h : K.Is W (.slice (some ⟨b, off, none⟩) n cap) l) (i : Nat) (hi : i < l.length) (c' : Nat) : K.Is W (.slice (some ⟨b, off + i * K.k, none⟩) 1 c') [l[i]] := by
  refine ⟨_, _, rfl, Or.inr ⟨_, _, rfl, fun j hj k u hu => ?_⟩⟩
  have hj' : j = 0 := by simpa using hj
  subst hj'
  obtain ⟨p', c'', he, h'⟩ := h
  injection he with e1 e2 e3
  subst e1
  rcases h' with h' | ⟨b', off', e4, h'⟩
  · rw [h'] at hi; simp at hi
  · injection e4 with e4
    injection e4 with e5 e6 e7
    subst e5 e6
    have := h' i hi k u hu
    simpa using this

/-! ## Both in one statement: 'a, b = f(a), g(b)' -/

/-- k of the calls and stores are done, fl of the loads. -/
structure Gr2At (N : Nat) (W0 : World) (A B : Nat) (X Y X' Y' : Mk → Prop) (k : Nat) (fl : List Bool) (l1 l2 v1 v2 : Value) (w : World) (a b a' b' : Mx) : Prop where
  at0 : GrAt N W0 A B (fun m => if 3 ≤ k then X' m else X m) (fun m => if 4 ≤ k then Y' m else Y m) w (if 3 ≤ k then a' else a) (if 4 ≤ k then b' else b)
  m1 : fl[0]? = some true → l1 = .agg (encA a)
  m2 : fl[1]? = some true → l2 = .agg (encA b)
  c1 : 1 ≤ k → v1 = .agg (encA a') ∧ X' a'.mk' ∧ ∃ n, A < n ∧ B < n ∧ MOwn n w a'
  c2 : 2 ≤ k → v2 = .agg (encA b') ∧ Y' b'.mk' ∧ ∃ n, A < n ∧ B < n ∧ MOwn n w b'
def Gr2 (N : Nat) (W0 : World) (A B : Nat) (X Y X' Y' : Mk → Prop) (k : Nat) (fl : List Bool) (l1 l2 v1 v2 : Value) (w : World) : Prop := ∃ a b a' b', Gr2At N W0 A B X Y X' Y' k fl l1 l2 v1 v2 w a b a' b'

section
variable {N : Nat} {W0 : World} {A B : Nat} {X Y X' Y' : Mk → Prop} {k : Nat} {fl : List Bool} {l1 l2 v1 v2 : Value} {w : World}
theorem gr2_start (l1 l2 v1 v2 : Value) (h : GrSt N W0 A B X Y w) : Gr2 N W0 A B X Y X' Y' 0 [false, false] l1 l2 v1 v2 w := by
  obtain ⟨a, b, h⟩ := h
  exact ⟨a, b, default, default, h, (fun e => by cases e), (fun e => by cases e), (fun e => by omega), (fun e => by omega)⟩
theorem gr2_bel (h : Gr2 N W0 A B X Y X' Y' k fl l1 l2 v1 v2 w) : Below N W0 w := by
  obtain ⟨a, b, a', b', h⟩ := h
  exact h.at0.bel
theorem gr2_load1 {f2 : Bool} (h : Gr2 N W0 A B X Y X' Y' k [false, f2] l1 l2 v1 v2 w) (hk : k ≤ 2) : ∃ a : Mx, (w.cell? ⟨A, 0, none⟩ = some a.ksl ∧ w.cell? ⟨A, 1, none⟩ = some a.rsl) ∧ Gr2 N W0 A B X Y X' Y' k [true, f2] (.agg (encA a)) l2 v1 v2 w := by
  obtain ⟨a, b, a', b', h⟩ := h
  have hc := h.at0.cells.1
  rw [if_neg (by omega)] at hc
  exact ⟨a, ⟨hc.1, hc.2.1⟩, a, b, a', b', h.at0, (fun _ => rfl), h.m2, h.c1, h.c2⟩
theorem gr2_load2 {f1 : Bool} (h : Gr2 N W0 A B X Y X' Y' k [f1, false] l1 l2 v1 v2 w) (hk : k ≤ 2) : ∃ b : Mx, (w.cell? ⟨B, 0, none⟩ = some b.ksl ∧ w.cell? ⟨B, 1, none⟩ = some b.rsl) ∧ Gr2 N W0 A B X Y X' Y' k [f1, true] l1 (.agg (encA b)) v1 v2 w := by
  obtain ⟨a, b, a', b', h⟩ := h
  have hc := h.at0.cells.1
  rw [if_neg (show ¬ 4 ≤ k by omega)] at hc
  exact ⟨b, ⟨hc.2.2.1, hc.2.2.2⟩, a, b, a', b', h.at0, h.m1, (fun _ => rfl), h.c1, h.c2⟩
theorem gr2_call1 {f2 : Bool} (h : Gr2 N W0 A B X Y X' Y' 0 [true, f2] l1 l2 v1 v2 w) : ∃ a : Mx, l1 = .agg (encA a) ∧ MIn w a ∧ X a.mk' ∧ ∀ w2 a2, MOwn w.heap.size w2 a2 → X' a2.mk' → Below w.heap.size w w2 → Gr2 N W0 A B X Y X' Y' 1 [true, f2] l1 l2 (.agg (encA a2)) v2 w2 := by
  obtain ⟨a, b, a', b', h⟩ := h
  have h0 : GrAt N W0 A B X Y w a b := h.at0
  refine ⟨a, h.m1 rfl, h0.inA, h0.x, fun w2 a2 ho hx hb => ⟨a, b, a2, b', h0.on hb, h.m1, h.m2, (fun _ => ⟨rfl, hx, w.heap.size, h0.ltA, h0.ltB, ho⟩), (fun e => by omega)⟩⟩
theorem gr2_call2 {f1 : Bool} (h : Gr2 N W0 A B X Y X' Y' 1 [f1, true] l1 l2 v1 v2 w) : ∃ b : Mx, l2 = .agg (encA b) ∧ MIn w b ∧ Y b.mk' ∧ ∀ w2 b2, MOwn w.heap.size w2 b2 → Y' b2.mk' → Below w.heap.size w w2 → Gr2 N W0 A B X Y X' Y' 2 [f1, true] l1 l2 v1 (.agg (encA b2)) w2 := by
  obtain ⟨a, b, a', b', h⟩ := h
  have h0 : GrAt N W0 A B X Y w a b := h.at0
  refine ⟨b, h.m2 rfl, h0.inB, h0.y, fun w2 b2 ho hy hb => ⟨a, b, a', b2, h0.on hb, h.m1, h.m2, (fun _ => ?_), (fun _ => ⟨rfl, hy, w.heap.size, h0.ltA, h0.ltB, ho⟩)⟩⟩
  obtain ⟨q1, q2, n, q3, q4, q5⟩ := h.c1 (Nat.le_refl _)
  exact ⟨q1, q2, n, q3, q4, q5.on hb⟩
theorem gr2_store1 (h : Gr2 N W0 A B X Y X' Y' 2 fl l1 l2 v1 v2 w) : ∃ a' : Mx, v1 = .agg (encA a') ∧ (∃ z1 z2, w.cell? ⟨A, 0, none⟩ = some z1 ∧ w.cell? ⟨A, 1, none⟩ = some z2 ∧ w.frozen? ⟨A, 0, none⟩ = false ∧ w.frozen? ⟨A, 1, none⟩ = false) ∧ Gr2 N W0 A B X Y X' Y' 3 fl l1 l2 v1 v2 ((w.setCell ⟨A, 0, none⟩ a'.ksl).setCell ⟨A, 1, none⟩ a'.rsl) := by
  obtain ⟨a, b, a', b', h⟩ := h
  have h0 : GrAt N W0 A B X Y w a b := h.at0
  obtain ⟨q1, q2, n, q3, q4, q5⟩ := h.c1 (by omega)
  obtain ⟨r1, r2, m, r3, r4, r5⟩ := h.c2 (by omega)
  have hc := h0.cells
  obtain ⟨_, e, f⟩ := store_two (a := a'.ksl) (b := a'.rsl) h0.boxA
  refine ⟨a', q1, ⟨_, _, hc.1.1, hc.1.2.1, hc.2.1, hc.2.2.1⟩, a, b, a', b', h0.setA q5 q3 q4 q2, h.m1, h.m2, (fun _ => ⟨q1, q2, n, q3, q4, q5.fr f fun k hk => by omega⟩), (fun _ => ⟨r1, r2, m, r3, r4, r5.fr f fun k hk => by omega⟩)⟩
theorem gr2_store2 (h : Gr2 N W0 A B X Y X' Y' 3 fl l1 l2 v1 v2 w) : ∃ b' : Mx, v2 = .agg (encA b') ∧ (∃ z1 z2, w.cell? ⟨B, 0, none⟩ = some z1 ∧ w.cell? ⟨B, 1, none⟩ = some z2 ∧ w.frozen? ⟨B, 0, none⟩ = false ∧ w.frozen? ⟨B, 1, none⟩ = false) ∧ Gr2 N W0 A B X Y X' Y' 4 fl l1 l2 v1 v2 ((w.setCell ⟨B, 0, none⟩ b'.ksl).setCell ⟨B, 1, none⟩ b'.rsl) := by
  obtain ⟨a, b, a', b', h⟩ := h
  have h0 : GrAt N W0 A B X' Y w a' b := h.at0
  obtain ⟨q1, q2, n, q3, q4, q5⟩ := h.c1 (by omega)
  obtain ⟨r1, r2, m, r3, r4, r5⟩ := h.c2 (by omega)
  have hc := h0.cells
  obtain ⟨_, e, f⟩ := store_two (a := b'.ksl) (b := b'.rsl) h0.boxB
  refine ⟨b', r1, ⟨_, _, hc.1.2.2.1, hc.1.2.2.2, hc.2.2.2.1, hc.2.2.2.2⟩, a, b, a', b', h0.setB r5 r3 r4 r2, h.m1, h.m2, (fun _ => ⟨q1, q2, n, q3, q4, q5.fr f fun k hk => by omega⟩), (fun _ => ⟨r1, r2, m, r3, r4, r5.fr f fun k hk => by omega⟩)⟩
theorem gr2_end (h : Gr2 N W0 A B X Y X' Y' 4 fl l1 l2 v1 v2 w) : GrSt N W0 A B X' Y' w := by
  obtain ⟨a, b, a', b', h⟩ := h
  exact ⟨a', b', h.at0⟩
end

end Go.Proofs.Ythdakljoabbghaa

/-
  MarksGrow (stage 12): keys and ranges added one by one, in two orders. (Written by mkmlg.py.)
-/
namespace Go.Proofs.Ythdakljoabbghaa
open Go.RowKit

theorem turn_at12 (tt : Int) (n : Nat) (h0 : n ≠ 0) (h1 : n ≤ 9223372036854775807) : ∃ m : Nat, m < n ∧ wrap64 ((IntKind.u64.wrap tt).tmod (n : Int)) = (m : Int) := by
  have hU : 0 ≤ IntKind.u64.wrap tt := by simp [IntKind.wrap, IntKind.signed, IntKind.bits]; omega
  generalize IntKind.u64.wrap tt = U at hU
  rw [Int.tmod_eq_emod_of_nonneg hU]
  have h2 := Int.emod_nonneg U (show (n : Int) ≠ 0 by omega)
  have h3 := Int.emod_lt_of_pos U (show (0 : Int) < n by omega)
  generalize U % (n : Int) = x at h2 h3
  refine ⟨x.toNat, by omega, ?_⟩
  have e : ((x.toNat : Nat) : Int) = x := by omega
  rw [e]
  simp [wrap64]
  omega

theorem next_num (j : Nat) (h : j < 4398046511000) : ∃ J : Nat, wrap64 ((j : Int) + 1) = (J : Int) ∧ IntKind.i64.wrap ((j : Int) + 1) = (J : Int) ∧ J = j + 1 :=
  ⟨j + 1, by simp [wrap64]; omega, by rw [IntKind.wrap_i64]; omega, rfl⟩
theorem round_num (m i n : Nat) (hm : m < n) (hi : i < n) (hn : n ≤ 4398046510976) : ∃ t Mi : Nat, t < n ∧ t = (m + i) % n ∧ wrap64 ((m : Int) + (i : Int)) = (Mi : Int) ∧ IntKind.i64.wrap ((m : Int) + (i : Int)) = (Mi : Int) ∧ (Mi : Int).tmod (n : Int) = (t : Int) ∧ wrap64 ((Mi : Int).tmod (n : Int)) = (t : Int) ∧ IntKind.i64.wrap ((Mi : Int).tmod (n : Int)) = (t : Int) := by
  have h1 : (m + i) % n < n := Nat.mod_lt _ (by omega)
  have g1 : wrap64 ((m : Int) + (i : Int)) = ((m + i : Nat) : Int) := by simp [wrap64]; omega
  have g3 : ((m + i : Nat) : Int).tmod (n : Int) = (((m + i) % n : Nat) : Int) := by rw [Int.tmod_eq_emod_of_nonneg (by omega)]; simp
  have g4 : wrap64 (((m + i : Nat) : Int).tmod (n : Int)) = (((m + i) % n : Nat) : Int) := by
    rw [g3]
    generalize (m + i) % n = x at h1
    simp [wrap64]
    omega
  have g2 : IntKind.i64.wrap ((m : Int) + (i : Int)) = ((m + i : Nat) : Int) := by rw [IntKind.wrap_i64]; omega
  have g5 : IntKind.i64.wrap (((m + i : Nat) : Int).tmod (n : Int)) = (((m + i) % n : Nat) : Int) := by
    rw [g3]
    generalize (m + i) % n = x at h1
    rw [IntKind.wrap_i64]
    omega
  exact ⟨(m + i) % n, m + i, h1, rfl, g1, g2, g3, g4, g5⟩

set_option linter.unusedSimpArgs false in
set_option maxHeartbeats 16000000 in
set_option maxRecDepth 100000 in
theorem mgrow12_any (S : MarksApi) (hF : Fixed12) (pk pr : Option Addr) (ck cr : Nat) (ks : List Ky) (rs : List Rx) (tt : Int) (w : World) (hk : KK.Is w (.slice pk ks.length ck) ks) (hkf : ∀ k ∈ ks, FitKy12 k) (hr : KRx.Is w (.slice pr rs.length cr) rs) (hre : ∀ r ∈ rs, r.at w) (hkl : ks.length ≤ 4398046510976) (hrl : rs.length ≤ 3518437208780) :
    Calls Try.prog 8 #[.slice pk ks.length ck, .slice pr rs.length cr, .int .i64 tt] w fun e w' => e = .returned (.bool true) ∧ Below w.heap.size w w' := by
  have HF := hid (hF w)
  have HIN : Hid (∀ W', Below w.heap.size w W' → KK.Is W' (.slice pk ks.length ck) ks ∧ KRx.Is W' (.slice pr rs.length cr) rs ∧ ∀ r ∈ rs, r.at W') := fun W' hW => ⟨Kind.is_kept hk hW, Kind.is_kept hr hW, fun r hr => (hre r hr).on hW⟩
  have HKF := hid hkf
  have HKP : Hid (∀ W' (a : Mx) (k : Ky), MIn W' a → a.ks.length < 4398046511000 → a.rs.length < 3518437208800 → (∀ x ∈ a.ks, FitKy12 x) → FitKy12 k → Calls Try.prog 10 #[.agg #[a.ksl, a.rsl], .agg #[.string k.1, .string k.2]] W' fun e w' => MOwnPost W' (keyM a.mk' k) e w') := fun W' a k h1 h2 h3 h4 h5 => S.key W' a k h1 ⟨by omega, by omega⟩ h5 h4
  have HRP : Hid (∀ W' (a : Mx) (r : Rx), MIn W' a → a.ks.length < 4398046511000 → a.rs.length < 3518437208800 → r.at W' → Calls Try.prog 16 #[.agg #[a.ksl, a.rsl], .string r.typ, r.sl] W' fun e w' => MOwnPost W' (rangeM a.mk' r.rg) e w') := fun W' a r h1 h2 h3 h4 => S.range W' a r h1 ⟨by omega, by omega⟩ h4
  clear hk hkf hr hre hF
  go_enter Try.func8, Try.ntmps8
  go_wp2_with fail
  refine HF.out.mono ?_
  rintro e w1 ⟨rfl, hb1⟩
  obtain ⟨V, hV⟩ : ∃ V, (w1.alloc (.cells #[.slice none 0 0, .slice none 0 0] 25)).alloc (.cells #[.slice none 0 0, .slice none 0 0] 25) = V := ⟨_, rfl⟩
  obtain ⟨A, hA⟩ : ∃ A, w1.heap.size = A := ⟨_, rfl⟩
  obtain ⟨hbV, hba, hbb, hs⟩ := two_boxes w1 #[.slice none 0 0, .slice none 0 0] #[.slice none 0 0, .slice none 0 0] 25 25
  rw [hV] at hbV hba hbb hs
  rw [hA] at hba hbb hs
  have hN : Below w.heap.size w w1 := hb1
  -- all that comes in stands in every world that is as w1 below A
  have HVW : Hid (∀ W', Below A w1 W' → Below w.heap.size w W') := fun W' h => by
    rw [← hA] at h
    exact bel_then hN hN.size h
  have HI2 : Hid (∀ W', Below A w1 W' → KK.Is W' (.slice pk ks.length ck) ks ∧ KRx.Is W' (.slice pr rs.length cr) rs ∧ ∀ r ∈ rs, r.at W') := fun W' h => HIN.out W' (HVW.out W' h)
  have HG0 : Hid (GrSt A w1 A (A + 1) (fun m => KeySt (fun z => z ∈ ks.take 0) 0 m.1 ∧ m.2 = []) (fun m => m = ([], [])) V) := by
    refine ⟨⟨none, 0, [], none, 0, []⟩, ⟨none, 0, [], none, 0, []⟩, by rw [← hA]; exact hbV, Nat.le_refl _, by omega, by omega, hba, hbb, ⟨KeySt.nil.congr fun z => by simp, rfl⟩, rfl, Nat.le_refl _, fun w' _ => ?_⟩
    exact ⟨⟨KK.is_nil w', KRx.is_nil w', fun r hr => by cases hr⟩, ⟨KK.is_nil w', KRx.is_nil w', fun r hr => by cases hr⟩⟩
  clear hb1 HF hba hbb hs hbV hN HIN
  go_wp2_with fail
  try rw [hV]
  try rw [hA]
  clear hV
  -- the first loop: keys into a
  go_loopg [22] ks.length (fun gg vi wr => ∃ i : Nat, vi = .int .i64 i ∧ i ≤ ks.length ∧ ks.length - i ≤ gg ∧ Hid (GrSt A w1 A (A + 1) (fun m => KeySt (fun z => z ∈ ks.take i) i m.1 ∧ m.2 = []) (fun m => m = ([], [])) wr))
  case atStart => exact ⟨0, rfl, by omega, by omega, HG0.out⟩
  case round =>
    clear HG0
    obtain ⟨i, rfl, hi, hgk, HI⟩ := hrel
    by_cases hlt : i < ks.length
    · have hltz : (i : Int) < (ks.length : Int) := by omega
      have hiz : (0 : Int) ≤ i := by omega
      obtain ⟨a, b, hG⟩ := HI.out
      obtain ⟨b7, o7, rfl, k7⟩ : ∃ b off, pk = some ⟨b, off, none⟩ ∧ KK.At wr b off ks := by
        obtain ⟨p', c', he, h⟩ := (HI2.out wr hG.bel).1
        injection he with e1 _ _
        subst e1
        rcases h with h | h
        · rw [h] at hlt; simp at hlt
        · exact h
      have y0 : wr.cell? ⟨b7, o7 + i * 2, none⟩ = some (.string (ks[i]).1) := k7 i hlt 0 _ rfl
      have y1 : wr.cell? ⟨b7, o7 + i * 2 + 1, none⟩ = some (.string (ks[i]).2) := k7 i hlt 1 _ rfl
      have hkk := HKF.out _ (List.getElem_mem hlt)
      have HTS := hid (mem_take_succ hlt)
      generalize ks[i] = k at *
      obtain ⟨T, hT⟩ : ∃ T, wr.alloc (.cells #[.string k.1, .string k.2] 27) = T := ⟨_, rfl⟩
      obtain ⟨Q, hQ⟩ : ∃ Q, wr.heap.size = Q := ⟨_, rfl⟩
      obtain ⟨hbT, hTo, hTs⟩ := one_box wr #[.string k.1, .string k.2] 27
      rw [hT] at hbT hTo hTs
      rw [hQ] at hTo hTs
      have hGT := hG.on hbT
      have q0 : T.cell? ⟨Q, 0, none⟩ = some (.string k.1) := by rw [Lib.cell_of_heap hTo]; rfl
      have q1 : T.cell? ⟨Q, 1, none⟩ = some (.string k.2) := by rw [Lib.cell_of_heap hTo]; rfl
      obtain ⟨⟨a0, a1, b0, b1⟩, z0, z1, _, _⟩ := hGT.cells
      have hxl := hGT.x.1.len
      have hal : a.ks.length ≤ i := hxl
      have har : a.rs = [] := List.map_eq_nil_iff.1 hGT.x.2
      have H1 := hid (HKP.out T a k hGT.inA (by omega) (by rw [har]; decide) (fun x hx => HKF.out x (List.mem_of_mem_take ((hGT.x.1.mem x).1 hx))) hkk)
      have HGT := hid hGT
      clear hbT hTo hTs hG k7 hkk har hGT HI hxl
      obtain ⟨akp, akc, aks, arp, arc, ars⟩ := a
      simp only [Mx.ksl, Mx.rsl] at *
      obtain ⟨ka, kb⟩ := k
      go_wp2_with fail
      try rw [hT]
      try rw [hQ]
      clear y0 y1 hT q0 q1
      refine H1.out.mono ?_
      rintro e w2 ⟨a2, rfl, ho2, hk2, hb2⟩
      have hG2 := HGT.out.on hb2
      have hX : KeySt (fun z => z ∈ ks.take (i + 1)) (i + 1) a2.mk'.1 ∧ a2.mk'.2 = [] := by
        rw [hk2]
        exact ⟨(HGT.out.x.1.key (ka, kb)).congr fun z => HTS.out z, HGT.out.x.2⟩
      have HG3 := hid (hG2.setA (X' := fun m => KeySt (fun z => z ∈ ks.take (i + 1)) (i + 1) m.1 ∧ m.2 = []) ho2 HGT.out.ltA HGT.out.ltB hX)
      obtain ⟨⟨d0, d1, _, _⟩, f0, f1, _, _⟩ := hG2.cells
      clear ho2 hk2 hb2 hG2 hX HGT H1 a0 a1 b0 b1 z0 z1
      obtain ⟨gkp, gkc, gks, grp, grc, grs⟩ := a2
      simp only [encMx, Mx.ksl, Mx.rsl] at *
      go_wp2_with fail
      go_roundg (ks.length - (i + 1))
      case measure => omega
      exact ⟨i + 1, by go_num, by omega, by omega, _, _, HG3.out⟩
    · have hltz : ¬ (i : Int) < (ks.length : Int) := by omega
      have HG1 : Hid (GrSt A w1 A (A + 1) (fun m => KeySt (fun z => z ∈ ks) ks.length m.1 ∧ m.2 = rangesM ((rs.map Rx.rg).take 0)) (fun m => m = ([], rangesM ((rs.map Rx.rg).take 0))) wr) := by
        obtain ⟨a, b, h⟩ := HI.out
        have hti : ks.take i = ks := List.take_of_length_le (by omega)
        have hx := h.x
        rw [hti] at hx
        exact ⟨a, b, h.bel, h.lowA, h.lowB, h.ne, h.boxA, h.boxB, ⟨⟨hx.1.rise, hx.1.mem, by have := hx.1.len; omega⟩, hx.2⟩, h.y, h.cap, h.keep⟩
      clear HI
      go_wp2_with fail
      clear hltz hlt hi hgk
      -- the second loop: ranges into both
      go_loopg [32] rs.length (fun gg vi wr => ∃ i : Nat, vi = .int .i64 i ∧ i ≤ rs.length ∧ rs.length - i ≤ gg ∧ Hid (GrSt A w1 A (A + 1) (fun m => KeySt (fun z => z ∈ ks) ks.length m.1 ∧ m.2 = rangesM ((rs.map Rx.rg).take i)) (fun m => m = ([], rangesM ((rs.map Rx.rg).take i))) wr))
      case atStart => exact ⟨0, rfl, by omega, by omega, HG1.out⟩
      case round =>
        clear HG1
        obtain ⟨i, rfl, hi, hgk, HI⟩ := hrel
        by_cases hlt : i < rs.length
        · have hltz : (i : Int) < (rs.length : Int) := by omega
          have hiz : (0 : Int) ≤ i := by omega
          have hbI : Below A w1 wr := by
            obtain ⟨a, b, h⟩ := HI.out
            exact h.bel
          obtain ⟨b7, o7, rfl, k7⟩ : ∃ b off, pr = some ⟨b, off, none⟩ ∧ KRx.At wr b off rs := by
            obtain ⟨p', c', he, h⟩ := (HI2.out wr hbI).2.1
            injection he with e1 _ _
            subst e1
            rcases h with h | h
            · rw [h] at hlt; simp at hlt
            · exact h
          obtain ⟨y0, y1⟩ := krx_at k7 i hlt
          have HAT : Hid (∀ W, Below A w1 W → (rs[i]).at W) := fun W hW => (HI2.out W hW).2.2 _ (List.getElem_mem hlt)
          have HRS : Hid (putR (rangesM ((rs.map Rx.rg).take i)) (rs[i]).rg = rangesM ((rs.map Rx.rg).take (i + 1))) := by
            have := ranges_succ (l := rs.map Rx.rg) (i := i) (by simpa using hlt)
            rwa [List.getElem_map] at this
          have HRL : Hid ((rangesM ((rs.map Rx.rg).take i)).length ≤ i) := by
            have := ranges_len ((rs.map Rx.rg).take i)
            rw [List.length_take] at this
            show _ ≤ _
            omega
          generalize rs[i] = r at *
          obtain ⟨T, hT⟩ : ∃ T, wr.alloc (.cells (encRx r).toArray 34) = T := ⟨_, rfl⟩
          obtain ⟨Q, hQ⟩ : ∃ Q, wr.heap.size = Q := ⟨_, rfl⟩
          obtain ⟨hbT, hTo, hTs⟩ := one_box wr (encRx r).toArray 34
          rw [hT] at hbT hTo hTs
          rw [hQ] at hTo hTs
          have HGT : Hid (GrSt A w1 A (A + 1) (fun m => KeySt (fun z => z ∈ ks) ks.length m.1 ∧ m.2 = rangesM ((rs.map Rx.rg).take i)) (fun m => m = ([], rangesM ((rs.map Rx.rg).take i))) T.drew) := by
            obtain ⟨a, b, h⟩ := HI.out
            exact ⟨a, b, h.on (bel_drewN hbT 1)⟩
          have HQA : Hid (A + 1 < Q) := by
            obtain ⟨a, b, h⟩ := HI.out
            have := h.ltB
            show A + 1 < Q
            omega
          have HTO : Hid (T.drew.heap[Q]? = some (.cells (encRx r).toArray 34 (0, 0))) := hTo
          have hrlen : rs.length ≤ 3518437208780 := hrl
          clear hbT hTo hTs hbI k7
          -- marks.Range of marks in the box
          have HR1 : Hid (∀ W' (m : Mx), Below A w1 W' → MIn W' m → (KeySt (fun z => z ∈ ks) ks.length m.mk'.1 ∧ m.mk'.2 = rangesM ((rs.map Rx.rg).take i)) → Calls Try.prog 16 #[.agg #[m.ksl, m.rsl], .string r.typ, r.sl] W' fun e w' => MOwnPost W' (rangeM m.mk' r.rg) e w') := fun W' m hW hm hx => HRP.out W' m r hm (by have := hx.1.len; simp only [Mx.mk'] at this; omega) (by
            have h1 := congrArg List.length hx.2
            have h2 := HRL.out
            simp only [Mx.mk', List.length_map] at h1
            omega) (HAT.out W' hW)
          have HR2 : Hid (∀ W' (m : Mx), Below A w1 W' → MIn W' m → m.mk' = ([], rangesM ((rs.map Rx.rg).take i)) → Calls Try.prog 16 #[.agg #[m.ksl, m.rsl], .string r.typ, r.sl] W' fun e w' => MOwnPost W' (rangeM m.mk' r.rg) e w') := fun W' m hW hm hx => HRP.out W' m r hm (by
            have h1 := congrArg (fun x : Mk => x.1.length) hx
            simp only [Mx.mk', List.length_nil] at h1
            omega) (by
            have h1 := congrArg (fun x : Mk => x.2.length) hx
            have h2 := HRL.out
            simp only [Mx.mk', List.length_map] at h1
            omega) (HAT.out W' hW)
          have HN1 : Hid (∀ m m2 : Mx, (KeySt (fun z => z ∈ ks) ks.length m.mk'.1 ∧ m.mk'.2 = rangesM ((rs.map Rx.rg).take i)) → m2.mk' = rangeM m.mk' r.rg → (KeySt (fun z => z ∈ ks) ks.length m2.mk'.1 ∧ m2.mk'.2 = rangesM ((rs.map Rx.rg).take (i + 1)))) := fun m m2 hx h => by
            rw [h]
            exact ⟨hx.1, by show putR m.mk'.2 r.rg = _; rw [hx.2]; exact HRS.out⟩
          have HN2 : Hid (∀ m m2 : Mx, m.mk' = ([], rangesM ((rs.map Rx.rg).take i)) → m2.mk' = rangeM m.mk' r.rg → m2.mk' = ([], rangesM ((rs.map Rx.rg).take (i + 1)))) := fun m m2 hx h => by
            rw [h, hx]
            show ([], putR _ r.rg) = _
            rw [HRS.out]
          obtain ⟨X1, hX1⟩ : ∃ X1 : Mk → Prop, (fun m : Mk => KeySt (fun z => z ∈ ks) ks.length m.1 ∧ m.2 = rangesM ((rs.map Rx.rg).take i)) = X1 := ⟨_, rfl⟩
          obtain ⟨Y1, hY1⟩ : ∃ Y1 : Mk → Prop, (fun m : Mk => m = ([], rangesM ((rs.map Rx.rg).take i))) = Y1 := ⟨_, rfl⟩
          obtain ⟨X2, hX2⟩ : ∃ X2 : Mk → Prop, (fun m : Mk => KeySt (fun z => z ∈ ks) ks.length m.1 ∧ m.2 = rangesM ((rs.map Rx.rg).take (i + 1))) = X2 := ⟨_, rfl⟩
          obtain ⟨Y2, hY2⟩ : ∃ Y2 : Mk → Prop, (fun m : Mk => m = ([], rangesM ((rs.map Rx.rg).take (i + 1)))) = Y2 := ⟨_, rfl⟩
          have HQ1 : Hid (∀ W' (m : Mx), Below A w1 W' → MIn W' m → X1 m.mk' → Calls Try.prog 16 #[.agg #[m.ksl, m.rsl], .string r.typ, r.sl] W' fun e w' => ∃ m2, e = .returned (.agg #[m2.ksl, m2.rsl]) ∧ MOwn W'.heap.size w' m2 ∧ X2 m2.mk' ∧ Below W'.heap.size W' w') := fun W' m h1 h2 h3 => by
            subst hX1 hX2
            refine (HR1.out W' m h1 h2 h3).mono ?_
            rintro e x ⟨m2, rfl, q1, q2, q3⟩
            exact ⟨m2, rfl, q1, HN1.out m m2 h3 q2, q3⟩
          have HQ2 : Hid (∀ W' (m : Mx), Below A w1 W' → MIn W' m → Y1 m.mk' → Calls Try.prog 16 #[.agg #[m.ksl, m.rsl], .string r.typ, r.sl] W' fun e w' => ∃ m2, e = .returned (.agg #[m2.ksl, m2.rsl]) ∧ MOwn W'.heap.size w' m2 ∧ Y2 m2.mk' ∧ Below W'.heap.size W' w') := fun W' m h1 h2 h3 => by
            subst hY1 hY2
            refine (HR2.out W' m h1 h2 h3).mono ?_
            rintro e x ⟨m2, rfl, q1, q2, q3⟩
            exact ⟨m2, rfl, q1, HN2.out m m2 h3 q2, q3⟩
          rw [hX1, hY1] at HGT
          have HEND : Hid (∀ W', GrSt A w1 A (A + 1) X2 Y2 W' → GrSt A w1 A (A + 1) (fun m => KeySt (fun z => z ∈ ks) ks.length m.1 ∧ m.2 = rangesM ((rs.map Rx.rg).take (i + 1))) (fun m => m = ([], rangesM ((rs.map Rx.rg).take (i + 1)))) W') := fun W' h => by rw [hX2, hY2]; exact h
          have HCQ : Hid (∀ W : World, W.heap[Q]? = some (.cells (encRx r).toArray 34 (0, 0)) → W.cell? ⟨Q, 0, none⟩ = some (.string r.typ) ∧ W.cell? ⟨Q, 1, none⟩ = some r.sl) := fun W h => ⟨by rw [Lib.cell_of_heap h]; rfl, by rw [Lib.cell_of_heap h]; rfl⟩
          clear HAT HRS HRL HR1 HR2 HN1 HN2 HI hX1 hX2 hY1 hY2
          obtain ⟨xt, xp, xc, xm⟩ := r
          simp only [encRx, Rx.sl] at *
          go_upto_region 12 with fail
          try rw [hT]
          try rw [hQ]
          clear y0 y1 hT
          refine wp_region_held_drew (S := fun W => W.cell? ⟨Q, 0, none⟩ = some (.string xt) ∧ W.cell? ⟨Q, 1, none⟩ = some (.slice xp xm.length xc)) (by kernel_rfl) (HCQ.out T.drew HTO.out) (fun hHeld => ?_)
          refine take_val (i := 1) (.pointer (some ⟨Q, 0, none⟩)) rfl (by kernel_rfl) (by kernel_rfl) (by kernel_rfl) (fun _ _ _ h => h) (by rfl) (fun w hSw => by go_simp) hHeld ?_
          simp only [Act.put, List.setIfInBounds_toArray, List.set_cons_zero, List.set_cons_succ]
          refine take_val (i := 2) (.string xt) rfl (by kernel_rfl) (by kernel_rfl) (by kernel_rfl) (fun _ _ _ h => h) (by rfl) (fun w hSw => by go_simp) hHeld ?_
          simp only [Act.put, List.setIfInBounds_toArray, List.set_cons_zero, List.set_cons_succ]
          refine take_val (i := 3) (.pointer (some ⟨Q, 1, none⟩)) rfl (by kernel_rfl) (by kernel_rfl) (by kernel_rfl) (fun _ _ _ h => h) (by rfl) (fun w hSw => by go_simp) hHeld ?_
          simp only [Act.put, List.setIfInBounds_toArray, List.set_cons_zero, List.set_cons_succ]
          refine take_val (i := 4) (.slice xp xm.length xc) rfl (by kernel_rfl) (by kernel_rfl) (by kernel_rfl) (fun _ _ _ h => h) (by rfl) (fun w hSw => by go_simp) hHeld ?_
          simp only [Act.put, List.setIfInBounds_toArray, List.set_cons_zero, List.set_cons_succ]
          refine take_val (i := 7) (.pointer (some ⟨Q, 0, none⟩)) rfl (by kernel_rfl) (by kernel_rfl) (by kernel_rfl) (fun _ _ _ h => h) (by rfl) (fun w hSw => by go_simp) hHeld ?_
          simp only [Act.put, List.setIfInBounds_toArray, List.set_cons_zero, List.set_cons_succ]
          refine take_val (i := 8) (.string xt) rfl (by kernel_rfl) (by kernel_rfl) (by kernel_rfl) (fun _ _ _ h => h) (by rfl) (fun w hSw => by go_simp) hHeld ?_
          simp only [Act.put, List.setIfInBounds_toArray, List.set_cons_zero, List.set_cons_succ]
          refine take_val (i := 9) (.pointer (some ⟨Q, 1, none⟩)) rfl (by kernel_rfl) (by kernel_rfl) (by kernel_rfl) (fun _ _ _ h => h) (by rfl) (fun w hSw => by go_simp) hHeld ?_
          simp only [Act.put, List.setIfInBounds_toArray, List.set_cons_zero, List.set_cons_succ]
          refine take_val (i := 10) (.slice xp xm.length xc) rfl (by kernel_rfl) (by kernel_rfl) (by kernel_rfl) (fun _ _ _ h => h) (by rfl) (fun w hSw => by go_simp) hHeld ?_
          simp only [Act.put, List.setIfInBounds_toArray, List.set_cons_zero, List.set_cons_succ]
          clear hHeld
          refine wpAnyH_floats [5, 11, 12, 13] [0, 6] (fun a0 k fl a w' => ∃ l1 l2 v1 v2, a = putS a0 [(36, l1), (42, l2), (41, v1), (47, v2)] ∧ Gr2 A w1 A (A + 1) X1 Y1 X2 Y2 k fl l1 l2 v1 v2 w' ∧ w'.heap[Q]? = some (.cells #[.string xt, .slice xp xm.length xc] 34 (0, 0)) ∧ (1 ≤ k → fl[0]? = some true) ∧ (2 ≤ k → fl[1]? = some true)) (by kernel_rfl) (by decide) ⟨_, _, _, _, (putS_self _ [36, 42, 41, 47]).symm, gr2_start _ _ _ _ HGT.out, HTO.out, (fun h => by omega), (fun h => by omega)⟩ ?hS ?hmain ?halloc ?hend
          case hS =>
            rintro k fl a w' ⟨l1, l2, v1, v2, _, _, h, _⟩
            exact HCQ.out w' h
          case hmain =>
            rintro k i' fl a w' hk hfl hrd ⟨l1, l2, v1, v2, rfl, hst, hq, hfe⟩
            obtain ⟨f1, f2, rfl⟩ : ∃ f1 f2, fl = [f1, f2] := by
              match fl, hfl with
              | [f1, f2], _ => exact ⟨f1, f2, rfl⟩
            have hql := (Array.getElem?_eq_some_iff.1 hq).1
            rcases k with _ | _ | _ | _ | k
            · obtain rfl : i' = 5 := by simpa using hk.symm
              cases f1 with
              | false => exact (not_ready hrd (by cases f2 <;> kernel_rfl)).elim
              | true =>
                obtain ⟨m, rfl, hin, hx, hst2⟩ := gr2_call1 hst
                have HC := hid (HQ1.out w' m (gr2_bel hst) hin hx)
                have HST2 := hid hst2
                have HQQ := hid hq
                have HF1 := hid hfe.1
                clear hrd hst hst2 hin hx hq hfe
                obtain ⟨mkp, mkc, mks, mrp, mrc, mrs⟩ := m
                simp only [encA, Mx.ksl, Mx.rsl] at *
                refine ⟨_, at_drop0 rfl, fun K hK => ?_⟩
                simp only [putS, List.foldl_cons, List.foldl_nil, Act.put, List.setIfInBounds_toArray, List.set_cons_zero, List.set_cons_succ]
                rw [if_pos (by rfl)]
                go_simp
                refine HC.out.mono ?_
                rintro e w2 ⟨m2, rfl, ho2, hx2, hb2⟩
                have HST3 := hid (HST2.out w2 m2 ho2 hx2 hb2)
                have HQ3 := hid ((hb2.block Q hql).trans HQQ.out)
                clear HST2 ho2 hx2 hb2 HC
                obtain ⟨nkp, nkc, nks, nrp, nrc, nrs⟩ := m2
                simp only [encA, Mx.ksl, Mx.rsl] at HST3 ⊢
                go_wp2_with fail
                exact hK.out _ _ ⟨_, _, _, _, rfl, HST3.out, HQ3.out, (fun _ => rfl), (fun h => by omega)⟩
            · obtain rfl : i' = 11 := by simpa using hk.symm
              cases f2 with
              | false => exact (not_ready hrd (by cases f1 <;> kernel_rfl)).elim
              | true =>
                obtain ⟨m, rfl, hin, hx, hst2⟩ := gr2_call2 hst
                have HC := hid (HQ2.out w' m (gr2_bel hst) hin hx)
                have HST2 := hid hst2
                have HQQ := hid hq
                have HF1 := hid hfe.1
                clear hrd hst hst2 hin hx hq hfe
                obtain ⟨mkp, mkc, mks, mrp, mrc, mrs⟩ := m
                simp only [encA, Mx.ksl, Mx.rsl] at *
                refine ⟨_, at_drop0 rfl, fun K hK => ?_⟩
                simp only [putS, List.foldl_cons, List.foldl_nil, Act.put, List.setIfInBounds_toArray, List.set_cons_zero, List.set_cons_succ]
                rw [if_pos (by rfl)]
                go_simp
                refine HC.out.mono ?_
                rintro e w2 ⟨m2, rfl, ho2, hx2, hb2⟩
                have HST3 := hid (HST2.out w2 m2 ho2 hx2 hb2)
                have HQ3 := hid ((hb2.block Q hql).trans HQQ.out)
                clear HST2 ho2 hx2 hb2 HC
                obtain ⟨nkp, nkc, nks, nrp, nrc, nrs⟩ := m2
                simp only [encA, Mx.ksl, Mx.rsl] at HST3 ⊢
                go_wp2_with fail
                exact hK.out _ _ ⟨_, _, _, _, rfl, HST3.out, HQ3.out, (fun _ => HF1.out (by omega)), (fun _ => rfl)⟩
            · obtain rfl : i' = 12 := by simpa using hk.symm
              have hfe1 : f1 = true := by simpa using hfe.1 (by omega)
              have hfe2 : f2 = true := by simpa using hfe.2 (by omega)
              subst hfe1 hfe2
              obtain ⟨m, rfl, ⟨z1, z2, c0, c1, g0, g1⟩, hst2⟩ := gr2_store1 hst
              have HST2 := hid hst2
              have HQ3 : Hid (((w'.setCell ⟨A, 0, none⟩ m.ksl).setCell ⟨A, 1, none⟩ m.rsl).heap[Q]? = some (.cells #[.string xt, .slice xp xm.length xc] 34 (0, 0))) := by
                have := HQA.out
                show _ = _
                rw [heap_setCell_other _ _ Q _ (by show Q ≠ A; omega), heap_setCell_other _ _ Q _ (by show Q ≠ A; omega)]
                exact hq
              clear hrd hst hst2 hq hfe
              obtain ⟨mkp, mkc, mks, mrp, mrc, mrs⟩ := m
              simp only [encA, Mx.ksl, Mx.rsl] at *
              refine ⟨_, at_drop0 rfl, fun K hK => ?_⟩
              simp only [putS, List.foldl_cons, List.foldl_nil, Act.put, List.setIfInBounds_toArray, List.set_cons_zero, List.set_cons_succ]
              rw [if_pos (by rfl)]
              go_simp
              go_wp2_with fail
              exact hK.out _ _ ⟨_, _, _, _, rfl, HST2.out, HQ3.out, (fun _ => rfl), (fun _ => rfl)⟩
            · obtain rfl : i' = 13 := by simpa using hk.symm
              have hfe1 : f1 = true := by simpa using hfe.1 (by omega)
              have hfe2 : f2 = true := by simpa using hfe.2 (by omega)
              subst hfe1 hfe2
              obtain ⟨m, rfl, ⟨z1, z2, c0, c1, g0, g1⟩, hst2⟩ := gr2_store2 hst
              have HST2 := hid hst2
              have HQ3 : Hid (((w'.setCell ⟨A + 1, 0, none⟩ m.ksl).setCell ⟨A + 1, 1, none⟩ m.rsl).heap[Q]? = some (.cells #[.string xt, .slice xp xm.length xc] 34 (0, 0))) := by
                have := HQA.out
                show _ = _
                rw [heap_setCell_other _ _ Q _ (by show Q ≠ A + 1; omega), heap_setCell_other _ _ Q _ (by show Q ≠ A + 1; omega)]
                exact hq
              clear hrd hst hst2 hq hfe
              obtain ⟨mkp, mkc, mks, mrp, mrc, mrs⟩ := m
              simp only [encA, Mx.ksl, Mx.rsl] at *
              refine ⟨_, at_drop0 rfl, fun K hK => ?_⟩
              simp only [putS, List.foldl_cons, List.foldl_nil, Act.put, List.setIfInBounds_toArray, List.set_cons_zero, List.set_cons_succ]
              rw [if_pos (by rfl)]
              go_simp
              go_wp2_with fail
              exact hK.out _ _ ⟨_, _, _, _, rfl, HST2.out, HQ3.out, (fun _ => rfl), (fun _ => rfl)⟩
            · simp at hk
          case halloc =>
            rintro j i' k fl a w' hj hk hfl hf ⟨l1, l2, v1, v2, rfl, hst, hq, hfe⟩
            obtain ⟨f1, f2, rfl⟩ : ∃ f1 f2, fl = [f1, f2] := by
              match fl, hfl with
              | [f1, f2], _ => exact ⟨f1, f2, rfl⟩
            rcases j with _ | _ | j
            · obtain rfl : i' = 0 := by simpa using hj.symm
              obtain rfl : f1 = false := by simpa using hf
              have hk2 : k ≤ 2 := by
                rcases Nat.lt_or_ge k 3 with h | h
                · omega
                · have h1 := hfe.1 (by omega)
                  have h2 := hfe.2 (by omega)
                  simp at h1 h2
              have HFE := hid hfe
              obtain ⟨m, ⟨c0, c1⟩, hst2⟩ := gr2_load1 hst hk2
              have HST2 := hid hst2
              have HQQ := hid hq
              clear hst hf hj hk hq hst2 hfe
              obtain ⟨mkp, mkc, mks, mrp, mrc, mrs⟩ := m
              simp only [encA, Mx.ksl, Mx.rsl] at *
              refine ⟨_, at_drop0 rfl, fun K hK => ?_⟩
              simp only [putS, List.foldl_cons, List.foldl_nil, Act.put, List.setIfInBounds_toArray, List.set_cons_zero, List.set_cons_succ]
              rw [if_pos (by rfl)]
              go_simp
              go_wp2_with fail
              exact hK.out _ _ ⟨_, _, v1, v2, rfl, HST2.out, HQQ.out, (fun _ => rfl), HFE.out.2⟩
            · obtain rfl : i' = 6 := by simpa using hj.symm
              obtain rfl : f2 = false := by simpa using hf
              have hk2 : k ≤ 2 := by
                rcases Nat.lt_or_ge k 3 with h | h
                · omega
                · have h1 := hfe.1 (by omega)
                  have h2 := hfe.2 (by omega)
                  simp at h1 h2
              have HFE := hid hfe
              obtain ⟨m, ⟨c0, c1⟩, hst2⟩ := gr2_load2 hst hk2
              have HST2 := hid hst2
              have HQQ := hid hq
              clear hst hf hj hk hq hst2 hfe
              obtain ⟨mkp, mkc, mks, mrp, mrc, mrs⟩ := m
              simp only [encA, Mx.ksl, Mx.rsl] at *
              refine ⟨_, at_drop0 rfl, fun K hK => ?_⟩
              simp only [putS, List.foldl_cons, List.foldl_nil, Act.put, List.setIfInBounds_toArray, List.set_cons_zero, List.set_cons_succ]
              rw [if_pos (by rfl)]
              go_simp
              go_wp2_with fail
              exact hK.out _ _ ⟨_, _, v1, v2, rfl, HST2.out, HQQ.out, HFE.out.1, (fun _ => rfl)⟩
            · simp at hj
          case hend =>
            rintro a w3 ⟨l1, l2, v1, v2, rfl, hst, hq, _⟩
            have HG3 := hid (HEND.out w3 (gr2_end hst))
            clear hst hq
            simp only [putS, List.foldl_cons, List.foldl_nil, Act.put, List.setIfInBounds_toArray, List.set_cons_zero, List.set_cons_succ]
            go_wp2_with fail
            go_roundg (rs.length - (i + 1))
            case measure => omega
            exact ⟨i + 1, by go_num, by omega, by omega, HG3.out⟩
        · have hltz : ¬ (i : Int) < (rs.length : Int) := by omega
          obtain ⟨R, hR⟩ : ∃ R, rangesM (rs.map Rx.rg) = R := ⟨_, rfl⟩
          have HRN : Hid (R.Nodup) := by rw [← hR]; exact ranges_nodup _
          have hRl : R.length ≤ rs.length := by
            have := ranges_len (rs.map Rx.rg)
            rw [hR, List.length_map] at this
            exact this
          have HG2 : Hid (GrSt A w1 A (A + 1) (fun m => KeySt (fun z => z ∈ ks) ks.length m.1 ∧ m.2 = R) (fun m => m = ([], R)) wr) := by
            have hti : (rs.map Rx.rg).take i = rs.map Rx.rg := List.take_of_length_le (by rw [List.length_map]; omega)
            have := HI.out
            rw [hti, hR] at this
            exact this
          clear HI hR
          go_upto_if 51 with fail
          go_cut [13, 14] from 49 (fun _ _ wx => Hid (GrSt A w1 A (A + 1) (fun m => KeySt (fun z => z ∈ ks) ks.length m.1 ∧ m.2 = R) (fun m => KeySt (fun z => z ∈ ks) ks.length m.1 ∧ m.2 = R) wx))
          case first =>
            by_cases h0 : 0 < ks.length
            · have h0z : (0 : Int) < (ks.length : Int) := by omega
              have h0n : ¬ (ks.length : Int) = 0 := by omega
              have h0l : ¬ ks = [] := fun h => by rw [h] at h0; simp at h0
              obtain ⟨m, hm, hmt⟩ := turn_at12 tt ks.length (by omega) (by omega)
              have HMT := hid hmt
              have HG3 : Hid (GrSt A w1 A (A + 1) (fun m => KeySt (fun z => z ∈ ks) ks.length m.1 ∧ m.2 = R) (fun x => KeySt (roundK ks m 0) 0 x.1 ∧ x.2 = R) wr) := by
                obtain ⟨a, b, h⟩ := HG2.out
                have hy := h.y
                exact ⟨a, b, h.bel, h.lowA, h.lowB, h.ne, h.boxA, h.boxB, h.x, ⟨by rw [hy]; exact KeySt.nil.congr fun z => roundK_zero ks m z, by rw [hy]⟩, h.cap, h.keep⟩
              clear hmt HG2
              go_upto_region 16 with fail
              rw [HMT.out]
              clear HMT
              go_wp2_with fail
              go_loopg [61] ks.length (fun gg vi wr => ∃ i : Nat, vi = .int .i64 i ∧ i ≤ ks.length ∧ ks.length - i ≤ gg ∧ Hid (GrSt A w1 A (A + 1) (fun m => KeySt (fun z => z ∈ ks) ks.length m.1 ∧ m.2 = R) (fun x => KeySt (roundK ks m i) i x.1 ∧ x.2 = R) wr))
              case atStart => exact ⟨0, rfl, by omega, by omega, HG3.out⟩
              case round =>
                clear HG3
                obtain ⟨i3, rfl, hi3, hgk3, HI⟩ := hrel
                by_cases hlt3 : i3 < ks.length
                · have hltz3 : (i3 : Int) < (ks.length : Int) := by omega
                  have hiz3 : (0 : Int) ≤ i3 := by omega
                  obtain ⟨a, b, hG⟩ := HI.out
                  obtain ⟨b7, o7, rfl, _⟩ : ∃ b off, pk = some ⟨b, off, none⟩ ∧ KK.At wr b off ks := by
                    obtain ⟨p', c', he, h⟩ := (HI2.out wr hG.bel).1
                    injection he with e1 _ _
                    subst e1
                    rcases h with h | h
                    · rw [h] at hlt3; simp at hlt3
                    · exact h
                  obtain ⟨t, Mi, htl, ht, hg⟩ := round_num m i3 ks.length hm hlt3 hkl
                  have G4 := hid (And.intro hg.1 hg.2.1)
                  have G7 := hid hg.2.2
                  clear hg
                  have htz : (t : Int) < (ks.length : Int) := by omega
                  have ht0 : (0 : Int) ≤ (t : Int) := by omega
                  have HCK : Hid (∀ W, Below A w1 W → W.cell? ⟨b7, o7 + t * 2, none⟩ = some (.string (ks[t]).1) ∧ W.cell? ⟨b7, o7 + t * 2 + 1, none⟩ = some (.string (ks[t]).2)) := fun W hW => by
                    obtain ⟨p', c', he, h⟩ := (HI2.out W hW).1
                    injection he with e1 _ _
                    subst e1
                    rcases h with h | ⟨b', o', e2, h⟩
                    · rw [h] at hlt3; simp at hlt3
                    · injection e2 with e2
                      injection e2 with e3 e4 e5
                      subst e3 e4
                      exact ⟨h t htl 0 _ rfl, h t htl 1 _ rfl⟩
                  have hkk := HKF.out _ (List.getElem_mem htl)
                  have HTS : Hid (∀ z, (z = ks[t] ∨ roundK ks m i3 z) ↔ roundK ks m (i3 + 1) z) := fun z => roundK_succ htl ht z
                  clear ht
                  generalize ks[t] = k at *
                  have hGd : GrAt A w1 A (A + 1) (fun m => KeySt (fun z => z ∈ ks) ks.length m.1 ∧ m.2 = R) (fun x => KeySt (roundK ks m i3) i3 x.1 ∧ x.2 = R) wr.drew a b := hG.on (bel_drewN (Below.refl wr.heap.size wr) 1)
                  obtain ⟨⟨_, _, b0, b1⟩, _, _, _, _⟩ := hGd.cells
                  have hbl : b.ks.length ≤ i3 := hGd.y.1.len
                  have hbr : b.rs.length < 3518437208800 := by
                    have h1 := congrArg List.length hGd.y.2
                    simp only [Mx.mk', List.length_map] at h1
                    omega
                  have H1 := hid (HKP.out wr.drew b k hGd.inB (by omega) hbr (fun x hx => by
                    obtain ⟨j, _, hj⟩ := (hGd.y.1.mem x).1 hx
                    exact HKF.out x (List.mem_of_getElem? hj)) hkk)
                  have HGT := hid hGd
                  clear hG hGd hkk HI hbl hbr
                  obtain ⟨bkp, bkc, bks, brp, brc, brs⟩ := b
                  obtain ⟨ka, kb⟩ := k
                  simp only [Mx.ksl, Mx.rsl] at *
                  go_upto_region 19 with fail
                  refine wp_region_held_drew (S := fun W => W.cell? ⟨b7, o7 + t * 2, none⟩ = some (.string ka) ∧ W.cell? ⟨b7, o7 + t * 2 + 1, none⟩ = some (.string kb)) (by kernel_rfl) (HCK.out wr.drew HGT.out.bel) (fun hHeld => ?_)
                  refine take_val (i := 1) (.slice (some ⟨b7, o7, none⟩) ks.length ck) rfl (by kernel_rfl) (by kernel_rfl) (by kernel_rfl) (fun _ _ _ h => h) (by rfl) (fun w hSw => by go_simp) hHeld ?_
                  simp only [Act.put, List.setIfInBounds_toArray, List.set_cons_zero, List.set_cons_succ]
                  refine take_val (i := 2) (.int .i64 m) rfl (by kernel_rfl) (by kernel_rfl) (by kernel_rfl) (fun _ _ _ h => h) (by rfl) (fun w hSw => by go_simp) hHeld ?_
                  simp only [Act.put, List.setIfInBounds_toArray, List.set_cons_zero, List.set_cons_succ]
                  refine take_val (i := 3) (.int .i64 i3) rfl (by kernel_rfl) (by kernel_rfl) (by kernel_rfl) (fun _ _ _ h => h) (by rfl) (fun w hSw => by go_simp) hHeld ?_
                  simp only [Act.put, List.setIfInBounds_toArray, List.set_cons_zero, List.set_cons_succ]
                  obtain ⟨g1, g2⟩ := G4.out
                  refine take_val (i := 4) (.int .i64 Mi) rfl (by kernel_rfl) (by kernel_rfl) (by kernel_rfl) (fun _ _ _ h => h) (by rfl) (fun w hSw => by go_simp) hHeld ?_
                  simp only [Act.put, List.setIfInBounds_toArray, List.set_cons_zero, List.set_cons_succ]
                  clear g1 g2
                  refine take_val (i := 5) (.slice (some ⟨b7, o7, none⟩) ks.length ck) rfl (by kernel_rfl) (by kernel_rfl) (by kernel_rfl) (fun _ _ _ h => h) (by rfl) (fun w hSw => by go_simp) hHeld ?_
                  simp only [Act.put, List.setIfInBounds_toArray, List.set_cons_zero, List.set_cons_succ]
                  refine take_val (i := 6) (.int .i64 ks.length) rfl (by kernel_rfl) (by kernel_rfl) (by kernel_rfl) (fun _ _ _ h => h) (by rfl) (fun w hSw => by go_simp) hHeld ?_
                  simp only [Act.put, List.setIfInBounds_toArray, List.set_cons_zero, List.set_cons_succ]
                  obtain ⟨g3, g4, g5⟩ := G7.out
                  refine take_val (i := 7) (.int .i64 t) rfl (by kernel_rfl) (by kernel_rfl) (by kernel_rfl) (fun _ _ _ h => h) (by rfl) (fun w hSw => by go_simp) hHeld ?_
                  simp only [Act.put, List.setIfInBounds_toArray, List.set_cons_zero, List.set_cons_succ]
                  clear g3 g4 g5
                  refine take_val (i := 8) (.pointer (some ⟨b7, o7 + t * 2, none⟩)) rfl (by kernel_rfl) (by kernel_rfl) (by kernel_rfl) (fun _ _ _ h => h) (by rfl) (fun w hSw => by go_simp) hHeld ?_
                  simp only [Act.put, List.setIfInBounds_toArray, List.set_cons_zero, List.set_cons_succ]
                  refine take_val (i := 9) (.agg #[.string ka, .string kb]) rfl (by kernel_rfl) (by kernel_rfl) (by kernel_rfl) (fun _ _ _ h => h) (by rfl) (fun w hSw => by go_simp) hHeld ?_
                  simp only [Act.put, List.setIfInBounds_toArray, List.set_cons_zero, List.set_cons_succ]
                  clear hHeld G4 G7
                  refine wpAnyH_ready (rs := [0]) (by kernel_rfl) (by simp) ?_
                  refine AllReadyH.cons (at_drop0 rfl) (fun K hK => ?_) AllReadyH.nil
                  rw [if_pos (by rfl)]
                  go_simp
                  go_wp2_with fail
                  refine hK.out _ _ ((HCK.out wr.drew HGT.out.bel)) (fun hHeld => ?_)
                  clear hK K
                  try simp only [Act.put, List.setIfInBounds_toArray, List.set_cons_zero, List.set_cons_succ]
                  clear hHeld b0 b1
                  refine wpAnyH_ready (rs := [10]) (by kernel_rfl) (by simp) ?_
                  refine AllReadyH.cons (at_drop0 rfl) (fun K hK => ?_) AllReadyH.nil
                  rw [if_pos (by rfl)]
                  go_simp
                  refine H1.out.mono ?_
                  rintro e w2 ⟨n2, rfl, ho2, hk2, hb2⟩
                  have hG2 := HGT.out.on hb2
                  have hY : KeySt (roundK ks m (i3 + 1)) (i3 + 1) n2.mk'.1 ∧ n2.mk'.2 = R := by
                    rw [hk2]
                    exact ⟨(HGT.out.y.1.key (ka, kb)).congr fun z => HTS.out z, HGT.out.y.2⟩
                  have HG4 := hid (hG2.setB (Y' := fun x => KeySt (roundK ks m (i3 + 1)) (i3 + 1) x.1 ∧ x.2 = R) ho2 HGT.out.ltA HGT.out.ltB hY)
                  obtain ⟨⟨_, _, d0, d1⟩, _, _, f0, f1⟩ := hG2.cells
                  have HC2 := hid (HCK.out w2 hG2.bel)
                  clear ho2 hk2 hb2 hG2 hY HGT H1
                  obtain ⟨gkp, gkc, gks, grp, grc, grs⟩ := n2
                  simp only [encMx, Mx.ksl, Mx.rsl] at *
                  go_wp2_with fail
                  refine hK.out _ _ (HC2.out) (fun hHeld => ?_)
                  clear hK K
                  try simp only [Act.put, List.setIfInBounds_toArray, List.set_cons_zero, List.set_cons_succ]
                  clear hHeld
                  refine wpAnyH_ready (rs := [11]) (by kernel_rfl) (by simp) ?_
                  refine AllReadyH.cons (at_drop0 rfl) (fun K hK => ?_) AllReadyH.nil
                  rw [if_pos (by rfl)]
                  go_simp
                  go_wp2_with fail
                  refine hK.out _ _ ((HCK.out _ HG4.out.bel)) (fun hHeld => ?_)
                  clear hK K
                  try simp only [Act.put, List.setIfInBounds_toArray, List.set_cons_zero, List.set_cons_succ]
                  refine wpAnyH_done (by kernel_rfl) ?_ _
                  clear hHeld d0 d1 f0 f1
                  go_wp2_with fail
                  go_roundg (ks.length - (i3 + 1))
                  case measure => omega
                  exact ⟨i3 + 1, by go_num, by omega, by omega, _, _, HG4.out⟩
                · have hltz3 : ¬ (i3 : Int) < (ks.length : Int) := by omega
                  have HG5 : Hid (GrSt A w1 A (A + 1) (fun m => KeySt (fun z => z ∈ ks) ks.length m.1 ∧ m.2 = R) (fun m => KeySt (fun z => z ∈ ks) ks.length m.1 ∧ m.2 = R) wr) := by
                    obtain ⟨a, b, h⟩ := HI.out
                    have hii : i3 = ks.length := by omega
                    subst hii
                    exact ⟨a, b, h.bel, h.lowA, h.lowB, h.ne, h.boxA, h.boxB, h.x, ⟨h.y.1.congr fun z => roundK_all hm z, h.y.2⟩, h.cap, h.keep⟩
                  clear HI
                  go_wp2_with fail
                  go_meet
                  case rel => exact HG5.out
            · have h0z : ¬ (0 : Int) < (ks.length : Int) := by omega
              have HG5 : Hid (GrSt A w1 A (A + 1) (fun m => KeySt (fun z => z ∈ ks) ks.length m.1 ∧ m.2 = R) (fun m => KeySt (fun z => z ∈ ks) ks.length m.1 ∧ m.2 = R) wr) := by
                obtain ⟨a, b, h⟩ := HG2.out
                have hnil : ks = [] := List.eq_nil_of_length_eq_zero (by omega)
                subst hnil
                exact ⟨a, b, h.bel, h.lowA, h.lowB, h.ne, h.boxA, h.boxB, h.x, ⟨by rw [h.y]; exact KeySt.nil.congr fun z => by simp, by rw [h.y]⟩, h.cap, h.keep⟩
              clear HG2
              go_wp2_with fail
              go_meet
              case rel => exact HG5.out
          case rest =>
            obtain ⟨a, b, hG⟩ := hcut.out
            have hsame : a.mk' = b.mk' := Prod.ext (hG.x.1.same hG.y.1) (hG.x.2.trans hG.y.2.symm)
            have hak : a.ks = sortK ks := hG.x.1.same (keySt_sort ks)
            have hal : a.ks.length ≤ ks.length := hG.x.1.len
            have har : a.rs.length = R.length := by
              have h1 := congrArg List.length hG.x.2
              simp only [Mx.mk', List.length_map] at h1
              exact h1
            have hbl : b.ks.length ≤ ks.length := hG.y.1.len
            have hbr : b.rs.length = R.length := by
              have h1 := congrArg List.length hG.y.2
              simp only [Mx.mk', List.length_map] at h1
              exact h1
            have HND : Hid (∀ i j (hi : i < a.rs.length) (hj : j < i), (a.rs[i]).rg ≠ (a.rs[j]'(Nat.lt_trans hj hi)).rg) := fun i j hi hj he => by
              have h1 : (a.rs.map Rx.rg).Nodup := by
                have := HRN.out
                rw [← hG.x.2] at this
                exact this
              have h2 := List.pairwise_iff_getElem.1 h1 j i (by simpa using (Nat.lt_trans hj hi)) (by simpa using hi) hj
              rw [List.getElem_map, List.getElem_map] at h2
              exact h2 he.symm
            have hcap := hG.cap
            have HON : Hid (∀ W', Below wc.heap.size wc W' → GrAt A w1 A (A + 1) (fun m => KeySt (fun z => z ∈ ks) ks.length m.1 ∧ m.2 = R) (fun m => KeySt (fun z => z ∈ ks) ks.length m.1 ∧ m.2 = R) W' a b) := fun W' hW => hG.on hW
            have HCE : Hid (∀ W, Below wc.heap.size wc W → W.cell? ⟨A, 0, none⟩ = some a.ksl ∧ W.cell? ⟨A, 1, none⟩ = some a.rsl ∧ W.cell? ⟨A + 1, 0, none⟩ = some b.ksl ∧ W.cell? ⟨A + 1, 1, none⟩ = some b.rsl) := fun W hW => (HON.out W hW).cells.1
            have HRW : Hid (∀ W', Below wc.heap.size wc W' → KRx.Is W' a.rsl a.rs ∧ ∀ r ∈ a.rs, r.at W') := fun W' hW => ⟨(HON.out W' hW).inA.rows, (HON.out W' hW).inA.each⟩
            have fa : LenM a := ⟨by omega, by omega⟩
            have fb : LenM b := ⟨by omega, by omega⟩
            have HEP : Hid (∀ W', Below wc.heap.size wc W' → Calls Try.prog 15 #[.agg #[a.ksl, a.rsl], .agg #[b.ksl, b.rsl]] W' fun e w' => BoolPost W' true e w') := fun W' hW => by
              have := S.equal W' a b (HON.out W' hW).inA (HON.out W' hW).inB fa fb
              rwa [decide_eq_true hsame] at this
            have HER : Hid (∀ W', Below wc.heap.size wc W' → Calls Try.prog 14 #[.agg #[a.ksl, a.rsl], .agg #[b.ksl, b.rsl]] W' fun e w' => e = .returned (.bool true) ∧ Below W'.heap.size W' w') := fun W' hW => by
              have := equal12_any a b W' (HON.out W' hW).inA (HON.out W' hW).inB fa fb
              rwa [decide_eq_true hsame] at this
            have HSO : Hid (∀ W', Below wc.heap.size wc W' → Calls Try.prog 28 #[.slice pk ks.length ck] W' fun e w' => KeyRPost W' (sortK ks) e w') := fun W' hW => sort12_any _ ks W' (HI2.out W' (HON.out W' hW).bel).1 (by omega)
            have HSK : Hid (∀ W' u, Below wc.heap.size wc W' → KK.Is W' u (sortK ks) → Calls Try.prog 21 #[a.ksl, u] W' fun e w' => e = .returned (.bool true) ∧ ∃ n, w' = W'.drewN n) := fun W' u hW hu => by
              have := Z.zsame_any a.ksl u a.ks (sortK ks) W' (keys_isZ12 (HON.out W' hW).inA.keys) (keys_isZ12 hu) (by unfold maxLen; omega) (by have := sortK_len ks; unfold maxLen; omega)
              rwa [decide_eq_true hak] at this
            have HEJ : Hid (∀ W' (p1 p2 : Option Addr) (c1 c2 : Nat) (r1 r2 : Rx), KRx.Is W' (.slice p1 1 c1) [r1] → KRx.Is W' (.slice p2 1 c2) [r2] → r1.at W' → r2.at W' → r1.rg ≠ r2.rg → Calls Try.prog 15 #[.agg #[.slice none 0 0, .slice p1 1 c1], .agg #[.slice none 0 0, .slice p2 1 c2]] W' fun e w' => BoolPost W' false e w') := fun W' p1 p2 c1 c2 r1 r2 h1 h2 h3 h4 hne => by
              have := S.equal W' ⟨none, 0, [], p1, c1, [r1]⟩ ⟨none, 0, [], p2, c2, [r2]⟩ ⟨KK.is_nil W', h1, fun r hr => by rw [List.mem_singleton] at hr; subst hr; exact h3⟩ ⟨KK.is_nil W', h2, fun r hr => by rw [List.mem_singleton] at hr; subst hr; exact h4⟩ ⟨by show 0 < _; decide, by show 1 < _; decide⟩ ⟨by show 0 < _; decide, by show 1 < _; decide⟩
              rwa [decide_eq_false (fun h => hne (by
                have h' := congrArg Prod.snd h
                simp only [Mx.mk', List.map_cons, List.map_nil] at h'
                injection h'))] at this
            have HBW : Hid (∀ W', Below wc.heap.size wc W' → Below w.heap.size w W') := fun W' hW => HVW.out W' (HON.out W' hW).bel
            have hrr : (a.rs.length : Int) ≤ (rs.length : Int) := by omega
            clear hG hsame hak fa fb hal hbl hbr har HKP HRP HKF hltz hlt hi
            obtain ⟨akp, akc, aks, arp, arc, ars⟩ := a
            obtain ⟨bkp, bkc, bks, brp, brc, brs⟩ := b
            simp only [Mx.ksl, Mx.rsl] at *
            obtain ⟨_, a1, _, _⟩ := HCE.out wc (Below.refl _ _)
            go_wp2_with fail
            clear a1
            go_loopg [79] ars.length (fun gg vi wr => ∃ i : Nat, vi = .int .i64 i ∧ i ≤ ars.length ∧ ars.length - i ≤ gg ∧ Hid (Below wc.heap.size wc wr))
            case atStart => exact ⟨0, rfl, by omega, by omega, Below.refl _ _⟩
            case round =>
              obtain ⟨i4, rfl, hi4, hgk4, HI⟩ := hrel
              by_cases hlt4 : i4 < ars.length
              · have hltz4 : (i4 : Int) < (ars.length : Int) := by omega
                have hiz4 : (0 : Int) ≤ i4 := by omega
                go_wp2_with fail
                go_loopg [83] i4 (fun gg vj wr => ∃ j : Nat, vj = .int .i64 j ∧ j ≤ i4 ∧ i4 - j ≤ gg ∧ Hid (Below wc.heap.size wc wr))
                case atStart => exact ⟨0, rfl, by omega, by omega, HI.out⟩
                case round =>
                  clear HI
                  obtain ⟨j, rfl, hj, hgj, HI⟩ := hrel
                  by_cases hjt : j < i4
                  · have hjz : (j : Int) < (i4 : Int) := by omega
                    have hj0 : (0 : Int) ≤ j := by omega
                    obtain ⟨b8, o8, rfl, _⟩ : ∃ b off, arp = some ⟨b, off, none⟩ ∧ KRx.At wr b off ars := by
                      obtain ⟨p', c', he, h⟩ := (HRW.out wr HI.out).1
                      injection he with e1 _ _
                      subst e1
                      rcases h with h | h
                      · have h' : ars = [] := h
                        rw [h'] at hlt4; simp at hlt4
                      · exact h
                    have hne := HND.out i4 j hlt4 hjt
                    have HE1 : Hid (∀ W', Below wc.heap.size wc W' → Calls Try.prog 15 #[.agg #[.slice none 0 0, .slice (some ⟨b8, o8 + i4 * 2, none⟩) 1 (arc - i4)], .agg #[.slice none 0 0, .slice (some ⟨b8, o8 + j * 2, none⟩) 1 (arc - j)]] W' fun e w' => BoolPost W' false e w') := fun W' hW =>
                      HEJ.out W' _ _ _ _ _ _ (Kind.is_one (HRW.out W' hW).1 i4 hlt4 (arc - i4)) (Kind.is_one (HRW.out W' hW).1 j (by omega) (arc - j)) ((HRW.out W' hW).2 _ (List.getElem_mem hlt4)) ((HRW.out W' hW).2 _ (List.getElem_mem (by omega))) hne
                    obtain ⟨T, hT⟩ : ∃ T, wr.alloc (.cells #[.slice none 0 0, .slice (some ⟨b8, o8 + i4 * 2, none⟩) 1 (arc - i4)] 25) = T := ⟨_, rfl⟩
                    obtain ⟨O, hO⟩ : ∃ O, wr.heap.size = O := ⟨_, rfl⟩
                    obtain ⟨hbT, hTo, hTs⟩ := one_box wr #[.slice none 0 0, .slice (some ⟨b8, o8 + i4 * 2, none⟩) 1 (arc - i4)] 25
                    rw [hT] at hbT hTo hTs
                    rw [hO] at hTo hTs
                    have HBT : Hid (Below wc.heap.size wc T) := bel_then HI.out HI.out.size hbT
                    have HS8 : Hid (∀ W, Below T.heap.size T W → (W.cell? ⟨A, 1, none⟩ = some (.slice (some ⟨b8, o8, none⟩) ars.length arc) ∧ W.cell? ⟨O, 0, none⟩ = some (.slice none 0 0) ∧ W.cell? ⟨O, 1, none⟩ = some (.slice (some ⟨b8, o8 + i4 * 2, none⟩) 1 (arc - i4))) ∧ Below wc.heap.size wc W) := fun W hW => by
                      have h5 : Below wc.heap.size wc W := bel_then HBT.out HBT.out.size hW
                      have e1 := (hW.block O (by omega)).trans hTo
                      exact ⟨⟨(HCE.out W h5).2.1, by rw [Lib.cell_of_heap e1]; rfl, by rw [Lib.cell_of_heap e1]; rfl⟩, h5⟩
                    obtain ⟨J, hJ1, hJ2, hJ3⟩ := next_num j (by omega)
                    have HJ := hid (And.intro hJ1 hJ2)
                    have hcz : (i4 : Int) + 1 ≤ (arc : Int) := by omega
                    have hcz1 : (i4 : Int) ≤ (i4 : Int) + 1 := by omega
                    have hcz0 : (0 : Int) ≤ (i4 : Int) + 1 := by omega
                    have hci : ¬ arc = i4 := by omega
                    have hcs : ((i4 : Int) + 1 - (i4 : Int)).toNat = 1 := by omega
                    have jcz : (J : Int) ≤ (arc : Int) := by omega
                    have jcz1 : (j : Int) ≤ (J : Int) := by omega
                    have jcz0 : (0 : Int) ≤ (J : Int) := by omega
                    have jci : ¬ arc = j := by omega
                    have jcs : ((J : Int) - (j : Int)).toNat = 1 := by omega
                    have jcn : J - j = 1 := by omega
                    obtain ⟨_, a1, _, _⟩ := HCE.out wr HI.out
                    clear hbT hTo hTs hne hJ1 hJ2 hJ3 HI
                    go_upto_region 28 with fail
                    try rw [hT]
                    try rw [hO]
                    clear a1 hT hcz hcz1 hcz0 hci hcs
                    refine wp_region_held_drew (S := fun W => W.cell? ⟨A, 1, none⟩ = some (.slice (some ⟨b8, o8, none⟩) ars.length arc) ∧ W.cell? ⟨O, 0, none⟩ = some (.slice none 0 0) ∧ W.cell? ⟨O, 1, none⟩ = some (.slice (some ⟨b8, o8 + i4 * 2, none⟩) 1 (arc - i4))) (by kernel_rfl) (HS8.out T.drew (bel_drewN (Below.refl _ _) 1)).1 (fun hHeld => ?_)
                    refine take_val (i := 0) (.agg #[.slice none 0 0, .slice (some ⟨b8, o8 + i4 * 2, none⟩) 1 (arc - i4)]) rfl (by kernel_rfl) (by kernel_rfl) (by kernel_rfl) (fun _ _ _ h => h) (by rfl) (fun w hSw => by go_simp) hHeld ?_
                    simp only [Act.put, List.setIfInBounds_toArray, List.set_cons_zero, List.set_cons_succ]
                    refine take_val (i := 1) (.pointer (some ⟨A, 1, none⟩)) rfl (by kernel_rfl) (by kernel_rfl) (by kernel_rfl) (fun _ _ _ h => h) (by rfl) (fun w hSw => by go_simp) hHeld ?_
                    simp only [Act.put, List.setIfInBounds_toArray, List.set_cons_zero, List.set_cons_succ]
                    refine take_val (i := 2) (.slice (some ⟨b8, o8, none⟩) ars.length arc) rfl (by kernel_rfl) (by kernel_rfl) (by kernel_rfl) (fun _ _ _ h => h) (by rfl) (fun w hSw => by go_simp) hHeld ?_
                    simp only [Act.put, List.setIfInBounds_toArray, List.set_cons_zero, List.set_cons_succ]
                    refine take_val (i := 3) (.int .i64 j) rfl (by kernel_rfl) (by kernel_rfl) (by kernel_rfl) (fun _ _ _ h => h) (by rfl) (fun w hSw => by go_simp) hHeld ?_
                    simp only [Act.put, List.setIfInBounds_toArray, List.set_cons_zero, List.set_cons_succ]
                    refine take_val (i := 4) (.int .i64 j) rfl (by kernel_rfl) (by kernel_rfl) (by kernel_rfl) (fun _ _ _ h => h) (by rfl) (fun w hSw => by go_simp) hHeld ?_
                    simp only [Act.put, List.setIfInBounds_toArray, List.set_cons_zero, List.set_cons_succ]
                    obtain ⟨hJ1, hJ2⟩ := HJ.out
                    refine take_val (i := 5) (.int .i64 J) rfl (by kernel_rfl) (by kernel_rfl) (by kernel_rfl) (fun _ _ _ h => h) (by rfl) (fun w hSw => by go_simp) hHeld ?_
                    simp only [Act.put, List.setIfInBounds_toArray, List.set_cons_zero, List.set_cons_succ]
                    clear hJ1 hJ2
                    refine take_val (i := 6) (.slice (some ⟨b8, o8 + j * 2, none⟩) 1 (arc - j)) rfl (by kernel_rfl) (by kernel_rfl) (by kernel_rfl) (fun _ _ _ h => h) (by rfl) (fun w hSw => by go_simp) hHeld ?_
                    simp only [Act.put, List.setIfInBounds_toArray, List.set_cons_zero, List.set_cons_succ]
                    refine take_val (i := 7) (.agg #[.slice none 0 0, .slice (some ⟨b8, o8 + j * 2, none⟩) 1 (arc - j)]) rfl (by kernel_rfl) (by kernel_rfl) (by kernel_rfl) (fun _ _ _ h => h) (by rfl) (fun w hSw => by go_simp) hHeld ?_
                    simp only [Act.put, List.setIfInBounds_toArray, List.set_cons_zero, List.set_cons_succ]
                    clear hHeld
                    refine wpAnyH_ready (rs := [8]) (by kernel_rfl) (by simp) ?_
                    refine AllReadyH.cons (at_drop0 rfl) (fun K hK => ?_) AllReadyH.nil
                    rw [if_pos (by rfl)]
                    go_simp
                    refine (HE1.out T.drew (HS8.out T.drew (bel_drewN (Below.refl _ _) 1)).2).mono ?_
                    rintro e y1 ⟨rfl, hy1⟩
                    have HY1 : Hid (Below T.heap.size T y1) := (bel_drewN (Below.refl T.heap.size T) 1).trans hy1
                    clear hy1
                    go_wp2_with fail
                    refine hK.out _ _ ((HS8.out y1 HY1.out).1) (fun hHeld => ?_)
                    clear hK K
                    try simp only [Act.put, List.setIfInBounds_toArray, List.set_cons_zero, List.set_cons_succ]
                    refine wpAnyH_done (by kernel_rfl) ?_ _
                    clear hHeld jcz jcz1 jcz0 jci jcs jcn
                    have HB6 := hid (HS8.out y1 HY1.out).2
                    go_wp2_with fail
                    go_roundg (i4 - (j + 1))
                    case measure => omega
                    exact ⟨j + 1, by go_num, by omega, by omega, HB6.out⟩
                  · have hjz : ¬ (j : Int) < (i4 : Int) := by omega
                    go_wp2_with fail
                    go_roundg (ars.length - (i4 + 1))
                    case measure => omega
                    exact ⟨i4 + 1, by go_num, by omega, by omega, HI.out⟩
              · have hltz4 : ¬ (i4 : Int) < (ars.length : Int) := by omega
                go_upto_region 32 with fail
                refine wp_region_held_drew (S := fun W => W.cell? ⟨A, 0, none⟩ = some (.slice akp aks.length akc) ∧ W.cell? ⟨A, 1, none⟩ = some (.slice arp ars.length arc) ∧ W.cell? ⟨A + 1, 0, none⟩ = some (.slice bkp bks.length bkc) ∧ W.cell? ⟨A + 1, 1, none⟩ = some (.slice brp brs.length brc)) (by kernel_rfl) (HCE.out wr.drew (bel_drewN HI.out 1)) (fun hHeld => ?_)
                refine take_val (i := 0) (.agg #[.slice akp aks.length akc, .slice arp ars.length arc]) rfl (by kernel_rfl) (by kernel_rfl) (by kernel_rfl) (fun _ _ _ h => h) (by rfl) (fun w hSw => by go_simp) hHeld ?_
                simp only [Act.put, List.setIfInBounds_toArray, List.set_cons_zero, List.set_cons_succ]
                refine take_val (i := 1) (.agg #[.slice bkp bks.length bkc, .slice brp brs.length brc]) rfl (by kernel_rfl) (by kernel_rfl) (by kernel_rfl) (fun _ _ _ h => h) (by rfl) (fun w hSw => by go_simp) hHeld ?_
                simp only [Act.put, List.setIfInBounds_toArray, List.set_cons_zero, List.set_cons_succ]
                clear hHeld
                refine wpAnyH_ready (rs := [2]) (by kernel_rfl) (by simp) ?_
                refine AllReadyH.cons (at_drop0 rfl) (fun K hK => ?_) AllReadyH.nil
                rw [if_pos (by rfl)]
                go_simp
                refine (HEP.out wr.drew (bel_drewN HI.out 1)).mono ?_
                rintro e y1 ⟨rfl, hy1⟩
                have HY1 : Hid (Below wc.heap.size wc y1) := bel_then (bel_drewN HI.out 1) (bel_drewN HI.out 1).size hy1
                clear hy1
                go_wp2_with fail
                refine hK.out _ _ ((HCE.out y1 HY1.out)) (fun hHeld => ?_)
                clear hK K
                try simp only [Act.put, List.setIfInBounds_toArray, List.set_cons_zero, List.set_cons_succ]
                refine take_val (i := 3) (.bool true) rfl (by kernel_rfl) (by kernel_rfl) (by kernel_rfl) (fun _ _ _ h => h) (by rfl) (fun w hSw => by go_simp) hHeld ?_
                simp only [Act.put, List.setIfInBounds_toArray, List.set_cons_zero, List.set_cons_succ]
                refine take_val (i := 4) (.agg #[.slice akp aks.length akc, .slice arp ars.length arc]) rfl (by kernel_rfl) (by kernel_rfl) (by kernel_rfl) (fun _ _ _ h => h) (by rfl) (fun w hSw => by go_simp) hHeld ?_
                simp only [Act.put, List.setIfInBounds_toArray, List.set_cons_zero, List.set_cons_succ]
                refine take_val (i := 5) (.agg #[.slice bkp bks.length bkc, .slice brp brs.length brc]) rfl (by kernel_rfl) (by kernel_rfl) (by kernel_rfl) (fun _ _ _ h => h) (by rfl) (fun w hSw => by go_simp) hHeld ?_
                simp only [Act.put, List.setIfInBounds_toArray, List.set_cons_zero, List.set_cons_succ]
                clear hHeld
                refine wpAnyH_ready (rs := [6]) (by kernel_rfl) (by simp) ?_
                refine AllReadyH.cons (at_drop0 rfl) (fun K hK => ?_) AllReadyH.nil
                rw [if_pos (by rfl)]
                go_simp
                refine (HER.out y1 HY1.out).mono ?_
                rintro e y2 ⟨rfl, hy2⟩
                have HY2 : Hid (Below wc.heap.size wc y2) := bel_then HY1.out HY1.out.size hy2
                clear hy2
                go_wp2_with fail
                refine hK.out _ _ ((HCE.out y2 HY2.out)) (fun hHeld => ?_)
                clear hK K
                try simp only [Act.put, List.setIfInBounds_toArray, List.set_cons_zero, List.set_cons_succ]
                refine take_val (i := 7) (.bool true) rfl (by kernel_rfl) (by kernel_rfl) (by kernel_rfl) (fun _ _ _ h => h) (by rfl) (fun w hSw => by go_simp) hHeld ?_
                simp only [Act.put, List.setIfInBounds_toArray, List.set_cons_zero, List.set_cons_succ]
                refine take_val (i := 8) (.bool true) rfl (by kernel_rfl) (by kernel_rfl) (by kernel_rfl) (fun _ _ _ h => h) (by rfl) (fun w hSw => by go_simp) hHeld ?_
                simp only [Act.put, List.setIfInBounds_toArray, List.set_cons_zero, List.set_cons_succ]
                refine take_val (i := 9) (.pointer (some ⟨A, 0, none⟩)) rfl (by kernel_rfl) (by kernel_rfl) (by kernel_rfl) (fun _ _ _ h => h) (by rfl) (fun w hSw => by go_simp) hHeld ?_
                simp only [Act.put, List.setIfInBounds_toArray, List.set_cons_zero, List.set_cons_succ]
                refine take_val (i := 10) (.slice akp aks.length akc) rfl (by kernel_rfl) (by kernel_rfl) (by kernel_rfl) (fun _ _ _ h => h) (by rfl) (fun w hSw => by go_simp) hHeld ?_
                simp only [Act.put, List.setIfInBounds_toArray, List.set_cons_zero, List.set_cons_succ]
                refine take_val (i := 11) (.slice pk ks.length ck) rfl (by kernel_rfl) (by kernel_rfl) (by kernel_rfl) (fun _ _ _ h => h) (by rfl) (fun w hSw => by go_simp) hHeld ?_
                simp only [Act.put, List.setIfInBounds_toArray, List.set_cons_zero, List.set_cons_succ]
                clear hHeld
                refine wpAnyH_ready (rs := [12]) (by kernel_rfl) (by simp) ?_
                refine AllReadyH.cons (at_drop0 rfl) (fun K hK => ?_) AllReadyH.nil
                rw [if_pos (by rfl)]
                go_simp
                refine (HSO.out y2 HY2.out).mono ?_
                rintro e y3 ⟨u3, rfl, ho3, hy3⟩
                have HY3 : Hid (Below wc.heap.size wc y3) := bel_then HY2.out HY2.out.size hy3
                have H13 := hid (HSK.out y3 u3 HY3.out (Kind.own_is ho3))
                clear hy3 ho3
                go_wp2_with fail
                refine hK.out _ _ ((HCE.out y3 HY3.out)) (fun hHeld => ?_)
                clear hK K
                try simp only [Act.put, List.setIfInBounds_toArray, List.set_cons_zero, List.set_cons_succ]
                clear hHeld
                refine wpAnyH_ready (rs := [13]) (by kernel_rfl) (by simp) ?_
                refine AllReadyH.cons (at_drop0 rfl) (fun K hK => ?_) AllReadyH.nil
                rw [if_pos (by rfl)]
                go_simp
                refine H13.out.mono ?_
                rintro e y4 ⟨rfl, n4, rfl⟩
                have HY4 : Hid (Below wc.heap.size wc (y3.drewN n4)) := bel_drewN HY3.out n4
                generalize y3.drewN n4 = y5 at HY4 ⊢
                clear H13
                go_wp2_with fail
                refine hK.out _ _ ((HCE.out y5 HY4.out)) (fun hHeld => ?_)
                clear hK K
                try simp only [Act.put, List.setIfInBounds_toArray, List.set_cons_zero, List.set_cons_succ]
                refine take_val (i := 14) (.bool true) rfl (by kernel_rfl) (by kernel_rfl) (by kernel_rfl) (fun _ _ _ h => h) (by rfl) (fun w hSw => by go_simp) hHeld ?_
                simp only [Act.put, List.setIfInBounds_toArray, List.set_cons_zero, List.set_cons_succ]
                refine take_val (i := 15) (.bool true) rfl (by kernel_rfl) (by kernel_rfl) (by kernel_rfl) (fun _ _ _ h => h) (by rfl) (fun w hSw => by go_simp) hHeld ?_
                simp only [Act.put, List.setIfInBounds_toArray, List.set_cons_zero, List.set_cons_succ]
                refine take_val (i := 16) (.pointer (some ⟨A, 1, none⟩)) rfl (by kernel_rfl) (by kernel_rfl) (by kernel_rfl) (fun _ _ _ h => h) (by rfl) (fun w hSw => by go_simp) hHeld ?_
                simp only [Act.put, List.setIfInBounds_toArray, List.set_cons_zero, List.set_cons_succ]
                refine take_val (i := 17) (.slice arp ars.length arc) rfl (by kernel_rfl) (by kernel_rfl) (by kernel_rfl) (fun _ _ _ h => h) (by rfl) (fun w hSw => by go_simp) hHeld ?_
                simp only [Act.put, List.setIfInBounds_toArray, List.set_cons_zero, List.set_cons_succ]
                refine take_val (i := 18) (.int .i64 ars.length) rfl (by kernel_rfl) (by kernel_rfl) (by kernel_rfl) (fun _ _ _ h => h) (by rfl) (fun w hSw => by go_simp) hHeld ?_
                simp only [Act.put, List.setIfInBounds_toArray, List.set_cons_zero, List.set_cons_succ]
                refine take_val (i := 19) (.slice pr rs.length cr) rfl (by kernel_rfl) (by kernel_rfl) (by kernel_rfl) (fun _ _ _ h => h) (by rfl) (fun w hSw => by go_simp) hHeld ?_
                simp only [Act.put, List.setIfInBounds_toArray, List.set_cons_zero, List.set_cons_succ]
                refine take_val (i := 20) (.int .i64 rs.length) rfl (by kernel_rfl) (by kernel_rfl) (by kernel_rfl) (fun _ _ _ h => h) (by rfl) (fun w hSw => by go_simp) hHeld ?_
                simp only [Act.put, List.setIfInBounds_toArray, List.set_cons_zero, List.set_cons_succ]
                refine take_val (i := 21) (.bool true) rfl (by kernel_rfl) (by kernel_rfl) (by kernel_rfl) (fun _ _ _ h => h) (by rfl) (fun w hSw => by go_simp) hHeld ?_
                simp only [Act.put, List.setIfInBounds_toArray, List.set_cons_zero, List.set_cons_succ]
                refine take_val (i := 22) (.bool true) rfl (by kernel_rfl) (by kernel_rfl) (by kernel_rfl) (fun _ _ _ h => h) (by rfl) (fun w hSw => by go_simp) hHeld ?_
                simp only [Act.put, List.setIfInBounds_toArray, List.set_cons_zero, List.set_cons_succ]
                refine take_val (i := 23) (.bool true) rfl (by kernel_rfl) (by kernel_rfl) (by kernel_rfl) (fun _ _ _ h => h) (by rfl) (fun w hSw => by go_simp) hHeld ?_
                simp only [Act.put, List.setIfInBounds_toArray, List.set_cons_zero, List.set_cons_succ]
                refine wpAnyH_done (by kernel_rfl) ?_ _
                clear hHeld
                have HE := hid (HBW.out y5 HY4.out)
                go_wp2_with fail
                go_ret
                exact ⟨rfl, HE.out⟩

end Go.Proofs.Ythdakljoabbghaa

/-
  The laws of stage 12: the chapter's examples, as data.
-/
namespace Go.Proofs.Ythdakljoabbghaa
open Go.RowKit

def gmA : ByteArray := ⟨#[65]⟩
def gma : Ky := (⟨#[65]⟩, ⟨#[97]⟩)
def gmt : Tm := (⟨#[110]⟩, 1, ⟨#[120]⟩)
def gmX : List Fld := [(⟨#[110]⟩, [⟨#[120]⟩])]
def gmY : List Fld := [(⟨#[110]⟩, [⟨#[121]⟩])]
def gmR : Rg := (⟨#[65]⟩, [gmt])
def gmC : Ch := ⟨gma, true, gmX, true, gmY⟩
def gmD : Ch := ⟨gma, false, [], true, gmY⟩
def gmM : Mk := ([gma], [gmR])
theorem gm_tc : touchesM gmR gmC = true := by decide +kernel
theorem gm_td : touchesM gmR gmD = false := by decide +kernel
theorem gm_key : keyM ([], []) gma = ([gma], []) := by rfl
theorem gm_range : rangeM ([gma], []) gmR = gmM := by rfl
theorem gm_hits : hitsM gmM [gmD] = true := by decide
theorem gm_hitc : hitM gmM gmC = true := by decide
theorem gm_which : whichM gmM [gmC] = [gma] := by
  unfold whichM
  rw [List.foldl_cons, if_pos gm_hitc]
  rfl
theorem gm_union : unionM gmM gmM = gmM := by
  have h1 : gmM.1.foldl (fun acc k => insR ltKy k acc) (sortK gmM.1) = gmM.1 := by
    refine rising_uniqR totK (inss_spec _ _ (sortK_spec _).1).1 (List.pairwise_singleton _ _) fun z => ?_
    rw [(inss_spec _ _ (sortK_spec _).1).2, (sortK_spec _).2]
    simp
  have h2 : gmM.2.foldl putR (gmM.2.foldl putR []) = gmM.2 := by
    show putR (putR [] gmR) gmR = [gmR]
    have e : putR [] gmR = [gmR] := rfl
    rw [e]
    unfold putR
    rw [if_pos (by simp)]
  unfold unionM
  rw [h1, h2]
theorem gm_ne : decide (gmM = (([], []) : Mk)) = false := decide_eq_false fun h => by
  have := congrArg (fun m : Mk => m.1.length) h
  simp [gmM] at this
theorem gm_fit : FitKy12 gma := ⟨by decide, by decide⟩

end Go.Proofs.Ythdakljoabbghaa

/-
  The laws of stage 12: the chapter's examples, walked.
-/
namespace Go.Proofs.Ythdakljoabbghaa
open Go.RowKit

/-- The field n with one text, as it lies. -/
def gmF (t : ByteArray) (b : Nat) : List Fx := [⟨⟨#[110]⟩, some ⟨b, 0, none⟩, 1, [t]⟩]
theorem gmf_is {W : World} {t : ByteArray} {b c : Nat} (h1 : W.heap[c]? = some (.cells #[.string ⟨#[110]⟩, .slice (some ⟨b, 0, none⟩) 1 1] 64 (0, 0))) (h2 : W.heap[b]? = some (.cells #[.string t] 9 (0, 0))) : IsXs W (.slice (some ⟨c, 0, none⟩) 1 1) (gmF t b) := by
  refine ⟨_, _, rfl, Or.inr ⟨_, _, rfl, fun i hi => ?_⟩, fun x hx => ?_⟩
  · have hi' : i = 0 := by simpa [gmF] using hi
    subst hi'
    exact ⟨by rw [Lib.cell_of_heap h1]; rfl, by rw [Lib.cell_of_heap h1]; rfl⟩
  · rw [gmF, List.mem_singleton] at hx
    subst hx
    refine Or.inr ⟨_, _, rfl, fun i hi => ?_⟩
    have hi' : i = 0 := by simpa using hi
    subst hi'
    rw [Lib.cell_of_heap h2]; rfl
theorem gmf_cp (t : ByteArray) (b : Nat) : CopyX (gmF t b) := by
  refine ⟨by simp [gmF], fun x hx => ?_⟩
  rw [gmF, List.mem_singleton] at hx
  subst hx
  show 1 * 16 ≤ _
  omega
theorem copyX_nil : CopyX [] := ⟨by simp, fun x hx => by cases hx⟩
theorem gmf_fit (t : ByteArray) (b : Nat) (h : t.size ≤ 1) : FitX (gmF t b) := by
  refine ⟨by unfold maxLen; simp [gmF], fun x hx => ?_⟩
  rw [gmF, List.mem_singleton] at hx
  subst hx
  refine ⟨show (⟨#[110]⟩ : ByteArray).size ≤ maxLen by decide, show [t].length ≤ maxLen by unfold maxLen; simp, fun t' ht => ?_⟩
  have e : t' = t := by simpa [Fx.fld] using ht
  subst e
  unfold maxLen
  omega

/-- The nine blocks that are laid first. -/
def gmBlocks (N : Nat) : List (Array Value × TypeId) := [
  (#[.string ⟨#[120]⟩], 9), (#[.string ⟨#[110]⟩, .slice (some ⟨N, 0, none⟩) 1 1], 64),
  (#[.string ⟨#[121]⟩], 9), (#[.string ⟨#[110]⟩, .slice (some ⟨N + 2, 0, none⟩) 1 1], 64),
  (#[.string ⟨#[65]⟩, .string ⟨#[97]⟩], 27),
  (#[.string ⟨#[110]⟩, .int .i64 1, .string ⟨#[120]⟩], 58), (#[.string ⟨#[65]⟩, .slice (some ⟨N + 5, 0, none⟩) 1 1], 34),
  (#[.string ⟨#[65]⟩, .string ⟨#[97]⟩, .bool true, .slice (some ⟨N + 1, 0, none⟩) 1 1, .bool true, .slice (some ⟨N + 3, 0, none⟩) 1 1], 43),
  (#[.string ⟨#[65]⟩, .string ⟨#[97]⟩, .bool false, .slice none 0 0, .bool true, .slice (some ⟨N + 3, 0, none⟩) 1 1], 43)]
/-- Blocks laid one behind the other. -/
def laidB (w : World) (l : List (Array Value × TypeId)) : World := l.foldl (fun w x => w.alloc (.cells x.1 x.2)) w
theorem laidB_spec : ∀ (l : List (Array Value × TypeId)) (w : World), Below w.heap.size w (laidB w l) ∧ (laidB w l).heap.size = w.heap.size + l.length ∧ ∀ i (h : i < l.length), (laidB w l).heap[w.heap.size + i]? = some (.cells (l[i]).1 (l[i]).2 (0, 0))
  | [], w => ⟨Below.refl _ _, rfl, fun i h => by simp at h⟩
  | x :: r, w => by
    obtain ⟨h1, h2, h3⟩ := laidB_spec r (w.alloc (.cells x.1 x.2))
    have hs : (w.alloc (.cells x.1 x.2)).heap.size = w.heap.size + 1 := by simp
    have hb : Below w.heap.size w (w.alloc (.cells x.1 x.2)) := (Below.refl _ _).alloc (Nat.le_refl _) _
    have e : laidB w (x :: r) = laidB (w.alloc (.cells x.1 x.2)) r := rfl
    rw [e]
    refine ⟨bel_then hb (by omega) h1, by rw [h2, hs, List.length_cons]; omega, fun i h => ?_⟩
    cases i with
    | zero =>
      rw [Nat.add_zero, h1.block _ (by omega)]
      exact heap_alloc_new w _
    | succ i =>
      have := h3 i (by simpa using h)
      rw [hs] at this
      rw [show w.heap.size + (i + 1) = w.heap.size + 1 + i by omega]
      exact this

/-- The state between the calls of 'm := marks.Range(marks.Key(..), ..)'. -/
def GmSt (V : World) (k : Nat) (fl : List Bool) (v27 v30 v7 : Value) (w : World) : Prop := ∃ (B : Nat) (m1 m : Mx), Below V.heap.size V w ∧ (k = 3 → fl = [true]) ∧
  (fl = [true] → v7 = .pointer (some ⟨B, 0, none⟩) ∧ V.heap.size ≤ B ∧ w.heap[B]? = some (.cells (if k = 3 then (encMx m).toArray else #[.slice none 0 0, .slice none 0 0]) 25 (0, 0))) ∧
  (1 ≤ k → v27 = .agg (encMx m1).toArray ∧ m1.mk' = ([gma], []) ∧ ∀ w', Fr (fun b => fl = [true] ∧ b = B) w w' → MIn w' m1) ∧
  (2 ≤ k → v30 = .agg (encMx m).toArray ∧ m.mk' = gmM ∧ ∀ w', Fr (fun b => fl = [true] ∧ b = B) w w' → MIn w' m)

theorem gmSt_start {V w : World} (v27 v30 v7 : Value) (h : Below V.heap.size V w) : GmSt V 0 [false] v27 v30 v7 w :=
  ⟨0, default, default, h, (fun h => by omega), (fun h => by cases h), (fun h => by omega), (fun h => by omega)⟩
theorem gmSt_key {V w w2 : World} {fl : List Bool} {v27 v30 v7 : Value} {m2 : Mx} (h : GmSt V 0 fl v27 v30 v7 w) (ho : MOwn w.heap.size w2 m2) (hk : m2.mk' = ([gma], [])) (hb2 : Below w.heap.size w w2) : GmSt V 1 fl (.agg (encMx m2).toArray) v30 v7 w2 := by
  obtain ⟨B, m1, m, hb, hg3, hbox, hm1, hm⟩ := h
  exact ⟨B, m2, m, bel_then hb hb.size hb2, (fun h => by omega), (fun h => by
    obtain ⟨h1, h2, h3⟩ := hbox h
    exact ⟨h1, h2, (hb2.block B (Array.getElem?_eq_some_iff.1 h3).1).trans h3⟩), (fun _ => ⟨rfl, hk, fun w3 f => (ho.fr f fun k hk => by
      obtain ⟨h, rfl⟩ := hk
      exact (Array.getElem?_eq_some_iff.1 (hbox h).2.2).1).inn⟩), (fun h => by omega)⟩
theorem gmSt_range {V w w2 : World} {fl : List Bool} {v27 v30 v7 : Value} {m2 : Mx} (h : GmSt V 1 fl v27 v30 v7 w) (ho : MOwn w.heap.size w2 m2) (hk : m2.mk' = gmM) (hb2 : Below w.heap.size w w2) : GmSt V 2 fl v27 (.agg (encMx m2).toArray) v7 w2 := by
  obtain ⟨B, m1, m, hb, hg3, hbox, hm1, hm⟩ := h
  exact ⟨B, m1, m2, bel_then hb hb.size hb2, (fun h => by omega), (fun h => by
    obtain ⟨h1, h2, h3⟩ := hbox h
    exact ⟨h1, h2, (hb2.block B (Array.getElem?_eq_some_iff.1 h3).1).trans h3⟩), (fun _ => by
    obtain ⟨h1, h2, h3⟩ := hm1 (Nat.le_refl _)
    exact ⟨h1, h2, fun w3 f => h3 w3 ((Fr.of_below hb2).then f fun k hk => Or.inl hk)⟩), (fun _ => ⟨rfl, hk, fun w3 f => (ho.fr f fun k hk => by
      obtain ⟨h, rfl⟩ := hk
      exact (Array.getElem?_eq_some_iff.1 (hbox h).2.2).1).inn⟩)⟩
theorem gmSt_alloc {V w : World} {k : Nat} {v27 v30 v7 : Value} (h : GmSt V k [false] v27 v30 v7 w) (hk3 : k ≤ 3) : GmSt V k [true] v27 v30 (.pointer (some ⟨w.heap.size, 0, none⟩)) (w.alloc (.cells #[.slice none 0 0, .slice none 0 0] 25)) := by
  obtain ⟨B, m1, m, hb, hg3, hbox, hm1, hm⟩ := h
  have hk : k ≤ 2 := by
    rcases Nat.lt_or_ge k 3 with h | h
    · omega
    · have := hg3 (by omega)
      cases this
  have hal : Below w.heap.size w (w.alloc (.cells #[.slice none 0 0, .slice none 0 0] 25)) := (Below.refl _ _).alloc (Nat.le_refl _) _
  have hfr : ∀ w', Fr (fun b => [true] = [true] ∧ b = w.heap.size) (w.alloc (.cells #[.slice none 0 0, .slice none 0 0] 25)) w' → Fr (fun b => [false] = [true] ∧ b = B) w w' := fun w' f => (Fr.of_below hal).then f fun k hk => Or.inr (Nat.le_of_eq hk.2.symm)
  refine ⟨w.heap.size, m1, m, bel_then hb hb.size hal, (fun _ => rfl), (fun _ => ⟨rfl, hb.size, ?_⟩), (fun h => ?_), (fun h => ?_)⟩
  · rw [if_neg (by omega)]
    exact heap_alloc_new w _
  · obtain ⟨h1, h2, h3⟩ := hm1 h
    exact ⟨h1, h2, fun w3 f => h3 w3 (hfr w3 f)⟩
  · obtain ⟨h1, h2, h3⟩ := hm h
    exact ⟨h1, h2, fun w3 f => h3 w3 (hfr w3 f)⟩
/-- A row of one change in a block of its own. -/
theorem one_at {W : World} {Z : Nat} {c : Cx} (h : W.heap[Z]? = some (.cells (encCx c).toArray 43 (0, 0))) : KCx.At W Z 0 [c] := fun i hi j u hu => by
  have hi' : i = 0 := by simpa using hi
  subst hi'
  have hj : j < 6 := (List.getElem?_eq_some_iff.1 hu).1
  rw [Lib.cell_of_heap h]
  rcases j with _ | _ | _ | _ | _ | _ | j
  all_goals first | exact hu | omega
/-- What lies behind the region: the marks in a box. -/
structure GmEnd (V : World) (B : Nat) (m : Mx) (w : World) : Prop where
  bel : Below V.heap.size V w
  low : V.heap.size ≤ B
  box : w.heap[B]? = some (.cells (encMx m).toArray 25 (0, 0))
  is : m.mk' = gmM
  inn : MIn w m
theorem gmSt_store {V w : World} {v27 v30 v7 : Value} (h : GmSt V 2 [true] v27 v30 v7 w) : ∃ B m, v7 = .pointer (some ⟨B, 0, none⟩) ∧ v30 = .agg (encMx m).toArray ∧ (w.cell? ⟨B, 0, none⟩ = some (.slice none 0 0) ∧ w.cell? ⟨B, 1, none⟩ = some (.slice none 0 0) ∧ w.frozen? ⟨B, 0, none⟩ = false ∧ w.frozen? ⟨B, 1, none⟩ = false) ∧ GmSt V 3 [true] v27 v30 v7 ((w.setCell ⟨B, 0, none⟩ m.ksl).setCell ⟨B, 1, none⟩ m.rsl) := by
  obtain ⟨B, m1, m, hb, hg3, hbox, hm1, hm⟩ := h
  obtain ⟨h1, h2, h3⟩ := hbox rfl
  rw [if_neg (by omega)] at h3
  obtain ⟨h4, h5, h6⟩ := hm (Nat.le_refl _)
  refine ⟨B, m, h1, h4, ⟨by rw [Lib.cell_of_heap h3]; rfl, by rw [Lib.cell_of_heap h3]; rfl, Lib.frozen_of_heap h3 0, Lib.frozen_of_heap h3 1⟩, ?_⟩
  have hlt := (Array.getElem?_eq_some_iff.1 h3).1
  have e1 : (w.setCell ⟨B, 0, none⟩ m.ksl).heap[B]? = some (.cells #[m.ksl, .slice none 0 0] 25 (0, 0)) := heap_setCell_same w B 0 _ _ _ h3
  have e2 : ((w.setCell ⟨B, 0, none⟩ m.ksl).setCell ⟨B, 1, none⟩ m.rsl).heap[B]? = some (.cells #[m.ksl, m.rsl] 25 (0, 0)) := heap_setCell_same _ B 1 _ _ _ e1
  have hfr : Fr (fun b => [true] = [true] ∧ b = B) w ((w.setCell ⟨B, 0, none⟩ m.ksl).setCell ⟨B, 1, none⟩ m.rsl) := ⟨rfl, rfl, rfl, by simp, fun k _ hn => by
    rw [heap_setCell_other _ _ k _ (fun e => hn ⟨rfl, e⟩), heap_setCell_other _ _ k _ (fun e => hn ⟨rfl, e⟩)]⟩
  refine ⟨B, m1, m, hb.trans (hfr.below (by have := hb.size; omega) fun k hk => by have := hk.2; omega), (fun _ => rfl), (fun _ => ⟨h1, h2, ?_⟩), (fun _ => ?_), (fun _ => ⟨h4, h5, fun w3 f => h6 w3 (hfr.then f fun k hk => Or.inl hk)⟩)⟩
  · rw [if_pos rfl]
    exact e2
  · obtain ⟨h7, h8, h9⟩ := hm1 (by omega)
    exact ⟨h7, h8, fun w3 f => h9 w3 (hfr.then f fun k hk => Or.inl hk)⟩
theorem gmSt_end {V w : World} {v27 v30 v7 : Value} (h : GmSt V 3 [true] v27 v30 v7 w) : ∃ B m, v7 = .pointer (some ⟨B, 0, none⟩) ∧ GmEnd V B m w := by
  obtain ⟨B, m1, m, hb, hg3, hbox, hm1, hm⟩ := h
  obtain ⟨h1, h2, h3⟩ := hbox rfl
  obtain ⟨h4, h5, h6⟩ := hm (by omega)
  rw [if_pos rfl] at h3
  exact ⟨B, m, h1, hb, h2, h3, h5, h6 w (Fr.refl _ _)⟩

set_option linter.unusedSimpArgs false in
set_option maxHeartbeats 8000000 in
set_option maxRecDepth 100000 in
theorem fixed12_any (S : MarksApi) : Fixed12 := by
  intro w
  obtain ⟨N, hN⟩ : ∃ N, w.heap.size = N := ⟨_, rfl⟩
  obtain ⟨V, hV⟩ : ∃ V, laidB w (gmBlocks N) = V := ⟨_, rfl⟩
  obtain ⟨hbV, hsV, hcV⟩ := laidB_spec (gmBlocks N) w
  rw [hV] at hbV hsV hcV
  rw [hN] at hsV hcV
  have hsV' : V.heap.size = N + 9 := hsV
  have HBL : Hid (∀ W', Below V.heap.size V W' → ∀ i (h : i < 9), W'.heap[N + i]? = some (.cells ((gmBlocks N)[i]'h).1 ((gmBlocks N)[i]'h).2 (0, 0))) := fun W' hW i h => (hW.block _ (by omega)).trans (hcV i h)
  have hV' : ((((((((w.alloc (.cells #[.string ⟨#[120]⟩] 9)).alloc (.cells #[.string ⟨#[110]⟩, .slice (some ⟨N, 0, none⟩) 1 1] 64)).alloc (.cells #[.string ⟨#[121]⟩] 9)).alloc (.cells #[.string ⟨#[110]⟩, .slice (some ⟨N + 2, 0, none⟩) 1 1] 64)).alloc (.cells #[.string ⟨#[65]⟩, .string ⟨#[97]⟩] 27)).alloc (.cells #[.string ⟨#[110]⟩, .int .i64 1, .string ⟨#[120]⟩] 58)).alloc (.cells #[.string ⟨#[65]⟩, .slice (some ⟨N + 5, 0, none⟩) 1 1] 34)).alloc (.cells #[.string ⟨#[65]⟩, .string ⟨#[97]⟩, .bool true, .slice (some ⟨N + 1, 0, none⟩) 1 1, .bool true, .slice (some ⟨N + 3, 0, none⟩) 1 1] 43)).alloc (.cells #[.string ⟨#[65]⟩, .string ⟨#[97]⟩, .bool false, .slice none 0 0, .bool true, .slice (some ⟨N + 3, 0, none⟩) 1 1] 43) = V := hV
  clear hV hcV hsV
  go_enter Try.func9, Try.ntmps9
  go_upto_region 6 with fail
  simp only [Nat.add_assoc, Nat.reduceAdd]
  try rw [hV']
  clear hV'
  have HS6 : Hid (∀ W', Below V.heap.size V W' → W'.cell? ⟨N + 4, 0, none⟩ = some (.string ⟨#[65]⟩) ∧ W'.cell? ⟨N + 4, 1, none⟩ = some (.string ⟨#[97]⟩) ∧ W'.cell? ⟨N + 6, 0, none⟩ = some (.string ⟨#[65]⟩) ∧ W'.cell? ⟨N + 6, 1, none⟩ = some (.slice (some ⟨N + 5, 0, none⟩) 1 1)) := fun W' hW => by
    have e4 := HBL.out W' hW 4 (by omega)
    have e6 := HBL.out W' hW 6 (by omega)
    exact ⟨by rw [Lib.cell_of_heap e4]; rfl, by rw [Lib.cell_of_heap e4]; rfl, by rw [Lib.cell_of_heap e6]; rfl, by rw [Lib.cell_of_heap e6]; rfl⟩
  have HRG : Hid (∀ W', Below V.heap.size V W' → (⟨⟨#[65]⟩, some ⟨N + 5, 0, none⟩, 1, [gmt]⟩ : Rx).at W') := fun W' hW => by
    have e5 := HBL.out W' hW 5 (by omega)
    refine ⟨⟨_, _, rfl, Or.inr ⟨_, _, rfl, fun i hi j u hu => ?_⟩⟩, ⟨⟨by unfold maxLen; simp, fun x hx => ?_⟩, by simp⟩⟩
    · have hi' : i = 0 := by simpa using hi
      subst hi'
      have hj : j < 3 := (List.getElem?_eq_some_iff.1 hu).1
      rw [Lib.cell_of_heap e5]
      rcases j with _ | _ | _ | j
      all_goals first | exact hu | omega
    · obtain rfl : x = gmt := by simpa using hx
      exact ⟨by decide, by decide, by decide, by decide⟩
  refine wp_region_held_drew (S := fun w' => w'.cell? ⟨N + 4, 0, none⟩ = some (.string ⟨#[65]⟩) ∧ w'.cell? ⟨N + 4, 1, none⟩ = some (.string ⟨#[97]⟩) ∧ w'.cell? ⟨N + 6, 0, none⟩ = some (.string ⟨#[65]⟩) ∧ w'.cell? ⟨N + 6, 1, none⟩ = some (.slice (some ⟨N + 5, 0, none⟩) 1 1)) (by kernel_rfl) (HS6.out V.drew (bel_drewN (Below.refl _ _) 1)) (fun hHeld => ?_)
  refine take_val (i := 0) (.agg #[.slice none 0 0, .slice none 0 0]) rfl (by kernel_rfl) (by kernel_rfl) (by kernel_rfl) (fun _ _ _ h => h) (by rfl) (fun w hSw => by go_simp) hHeld ?_
  simp only [Act.put, List.setIfInBounds_toArray, List.set_cons_zero, List.set_cons_succ]
  refine take_val (i := 1) (.agg #[.string ⟨#[65]⟩, .string ⟨#[97]⟩]) rfl (by kernel_rfl) (by kernel_rfl) (by kernel_rfl) (fun _ _ _ h => h) (by rfl) (fun w hSw => by go_simp) hHeld ?_
  simp only [Act.put, List.setIfInBounds_toArray, List.set_cons_zero, List.set_cons_succ]
  refine take_val (i := 3) (.pointer (some ⟨N + 6, 1, none⟩)) rfl (by kernel_rfl) (by kernel_rfl) (by kernel_rfl) (fun _ _ _ h => h) (by rfl) (fun w hSw => by go_simp) hHeld ?_
  simp only [Act.put, List.setIfInBounds_toArray, List.set_cons_zero, List.set_cons_succ]
  refine take_val (i := 4) (.slice (some ⟨N + 5, 0, none⟩) 1 1) rfl (by kernel_rfl) (by kernel_rfl) (by kernel_rfl) (fun _ _ _ h => h) (by rfl) (fun w hSw => by go_simp) hHeld ?_
  simp only [Act.put, List.setIfInBounds_toArray, List.set_cons_zero, List.set_cons_succ]
  clear hHeld
  refine wpAnyH_floats [2, 5, 7] [6] (fun a0 k fl a w' => ∃ v27 v30 v7, a = putS a0 [(27, v27), (30, v30), (7, v7)] ∧ GmSt V k fl v27 v30 v7 w') (by kernel_rfl) (by decide) ⟨_, _, _, (putS_self _ [27, 30, 7]).symm, gmSt_start _ _ _ (bel_drewN (Below.refl _ _) 1)⟩ ?hS ?hmain ?halloc ?hend
  case hS =>
    rintro k fl a w' ⟨v27, v30, v7, _, B, m1, m, hb, _⟩
    exact HS6.out w' hb
  case hmain =>
    rintro k i fl a w' hk hfl hrd ⟨v27, v30, v7, rfl, hst⟩
    rcases k with _ | _ | _ | k
    · obtain rfl : i = 2 := by simpa using hk.symm
      have HK := hid (S.key w' ⟨none, 0, [], none, 0, []⟩ gma ⟨KK.is_nil w', KRx.is_nil w', fun r hr => by cases hr⟩ ⟨by decide, by decide⟩ gm_fit (fun x hx => by cases hx))
      simp only [encMx, Mx.ksl, Mx.rsl, gma, List.length_nil] at HK
      have HST := hid hst
      clear hrd hst
      refine ⟨_, at_drop0 rfl, fun K hK => ?_⟩
      simp only [putS, List.foldl_cons, List.foldl_nil, Act.put, List.setIfInBounds_toArray, List.set_cons_zero, List.set_cons_succ]
      rw [if_pos (by rfl)]
      go_simp
      refine HK.out.mono ?_
      rintro e w2 ⟨m2, rfl, ho2, hk2, hb2⟩
      have HST2 := hid (gmSt_key HST.out ho2 hk2 hb2)
      clear hk2 ho2 hb2 HST
      go_wp2_with fail
      exact hK.out _ _ ⟨_, v30, v7, rfl, HST2.out⟩
    · obtain rfl : i = 5 := by simpa using hk.symm
      obtain ⟨B, m1, m, hb, _, hbox, hm1, hm⟩ := id hst
      obtain ⟨e1, e2, e3⟩ := hm1 (Nat.le_refl _)
      have e4 : m1.ks = [gma] := congrArg Prod.fst e2
      have e5 : m1.rs = [] := List.map_eq_nil_iff.1 (congrArg Prod.snd e2)
      have HK := hid (S.range w' m1 ⟨⟨#[65]⟩, some ⟨N + 5, 0, none⟩, 1, [gmt]⟩ (e3 w' (Fr.refl _ _)) ⟨by rw [e4]; decide, by rw [e5]; decide⟩ (HRG.out w' hb))
      rw [e2] at HK
      have HST := hid hst
      subst e1
      clear hrd hst hbox hm1 hm e2 e3
      obtain ⟨kp, kc, ks, rp, rc, rs⟩ := m1
      simp only at e4 e5
      subst e4 e5
      simp only [encMx, Mx.ksl, Mx.rsl, Rx.sl, List.length_cons, List.length_nil, Nat.zero_add] at HK HST
      refine ⟨_, at_drop0 rfl, fun K hK => ?_⟩
      simp only [encMx, Mx.ksl, Mx.rsl, List.length_cons, List.length_nil, Nat.zero_add, putS, List.foldl_cons, List.foldl_nil, Act.put, List.setIfInBounds_toArray, List.set_cons_zero, List.set_cons_succ]
      rw [if_pos (by rfl)]
      go_simp
      refine HK.out.mono ?_
      rintro e w2 ⟨m2, rfl, ho2, hk2, hb2⟩
      have HST2 := hid (gmSt_range HST.out ho2 hk2 hb2)
      clear hk2 ho2 hb2 HST
      go_wp2_with fail
      exact hK.out _ _ ⟨_, _, v7, rfl, HST2.out⟩
    · obtain rfl : i = 7 := by simpa using hk.symm
      obtain ⟨b, rfl⟩ : ∃ b, fl = [b] := by
        match fl, hfl with
        | [b], _ => exact ⟨b, rfl⟩
      cases b with
      | false => exact (not_ready hrd (by kernel_rfl)).elim
      | true =>
        obtain ⟨B, m, rfl, rfl, ⟨c0, c1, z0, z1⟩, hst2⟩ := gmSt_store hst
        have HST2 := hid hst2
        clear hrd hst hst2
        obtain ⟨kp, kc, ks, rp, rc, rs⟩ := m
        simp only [encMx, Mx.ksl, Mx.rsl] at HST2
        refine ⟨_, at_drop0 rfl, fun K hK => ?_⟩
        simp only [encMx, Mx.ksl, Mx.rsl, putS, List.foldl_cons, List.foldl_nil, Act.put, List.setIfInBounds_toArray, List.set_cons_zero, List.set_cons_succ]
        rw [if_pos (by rfl)]
        go_simp
        go_wp2_with fail
        exact hK.out _ _ ⟨v27, _, _, rfl, HST2.out⟩
    · simp at hk
  case halloc =>
    rintro j i k fl a w' hj hk hfl hf ⟨v27, v30, v7, rfl, hst⟩
    obtain ⟨b, rfl⟩ : ∃ b, fl = [b] := by
      match fl, hfl with
      | [b], _ => exact ⟨b, rfl⟩
    rcases j with _ | j
    · obtain rfl : i = 6 := by simpa using hj.symm
      obtain rfl : b = false := by simpa using hf
      have HST2 := hid (gmSt_alloc hst hk)
      clear hst hf hj hk
      refine ⟨_, at_drop0 rfl, fun K hK => ?_⟩
      simp only [putS, List.foldl_cons, List.foldl_nil, Act.put, List.setIfInBounds_toArray, List.set_cons_zero, List.set_cons_succ]
      rw [if_pos (by rfl)]
      go_simp
      go_wp2_with fail
      exact hK.out _ _ ⟨v27, v30, _, rfl, HST2.out⟩
    · simp at hj
  case hend =>
    rintro a w' ⟨v27, v30, v7, rfl, hst⟩
    obtain ⟨B, m, rfl, hE⟩ := gmSt_end hst
    clear hst
    simp only [putS, List.foldl_cons, List.foldl_nil, Act.put, List.setIfInBounds_toArray, List.set_cons_zero, List.set_cons_succ]
    obtain ⟨kp, kc, ks, rp, rc, rs⟩ := m
    obtain rfl : ks = [gma] := congrArg Prod.fst hE.is
    obtain ⟨r1, rfl⟩ : ∃ r1, rs = [r1] := by
      have := congrArg (fun x : Mk => x.2.length) hE.is
      simp only [Mx.mk', List.length_map] at this
      match rs, this with
      | [r1], _ => exact ⟨r1, rfl⟩
    have HE := hid hE
    have hlB : B < w'.heap.size := (Array.getElem?_eq_some_iff.1 hE.box).1
    have HIN : Hid (∀ W', Below w'.heap.size w' W' → (W'.cell? ⟨N + 6, 0, none⟩ = some (.string ⟨#[65]⟩) ∧ W'.cell? ⟨N + 6, 1, none⟩ = some (.slice (some ⟨N + 5, 0, none⟩) 1 1) ∧ W'.cell? ⟨N + 7, 0, none⟩ = some (.string ⟨#[65]⟩) ∧ W'.cell? ⟨N + 7, 1, none⟩ = some (.string ⟨#[97]⟩) ∧ W'.cell? ⟨N + 7, 2, none⟩ = some (.bool true) ∧ W'.cell? ⟨N + 7, 3, none⟩ = some (.slice (some ⟨N + 1, 0, none⟩) 1 1) ∧ W'.cell? ⟨N + 7, 4, none⟩ = some (.bool true) ∧ W'.cell? ⟨N + 7, 5, none⟩ = some (.slice (some ⟨N + 3, 0, none⟩) 1 1) ∧ W'.cell? ⟨N + 8, 0, none⟩ = some (.string ⟨#[65]⟩) ∧ W'.cell? ⟨N + 8, 1, none⟩ = some (.string ⟨#[97]⟩) ∧ W'.cell? ⟨N + 8, 2, none⟩ = some (.bool false) ∧ W'.cell? ⟨N + 8, 3, none⟩ = some (.slice none 0 0) ∧ W'.cell? ⟨N + 8, 4, none⟩ = some (.bool true) ∧ W'.cell? ⟨N + 8, 5, none⟩ = some (.slice (some ⟨N + 3, 0, none⟩) 1 1) ∧ W'.cell? ⟨B, 0, none⟩ = some (.slice kp 1 kc) ∧ W'.cell? ⟨B, 1, none⟩ = some (.slice rp 1 rc)) ∧ MIn W' ⟨kp, kc, [gma], rp, rc, [r1]⟩ ∧ Below V.heap.size V W') := fun W' hW => by
      have hVW : Below V.heap.size V W' := bel_then HE.out.bel HE.out.bel.size hW
      have e6 := HBL.out W' hVW 6 (by omega)
      have e7 := HBL.out W' hVW 7 (by omega)
      have e8 := HBL.out W' hVW 8 (by omega)
      have eB := (hW.block B hlB).trans HE.out.box
      refine ⟨⟨?_, ?_, ?_, ?_, ?_, ?_, ?_, ?_, ?_, ?_, ?_, ?_, ?_, ?_, ?_, ?_⟩, HE.out.inn.on hW, hVW⟩
      · rw [Lib.cell_of_heap e6]; rfl
      · rw [Lib.cell_of_heap e6]; rfl
      iterate 6 (· rw [Lib.cell_of_heap e7]; rfl)
      iterate 6 (· rw [Lib.cell_of_heap e8]; rfl)
      · rw [Lib.cell_of_heap eB]; rfl
      · rw [Lib.cell_of_heap eB]; rfl
    have HC : Hid (∀ W', Below V.heap.size V W' → CIn W' ⟨⟨#[65]⟩, ⟨#[97]⟩, true, some ⟨N + 1, 0, none⟩, 1, gmF ⟨#[120]⟩ N, true, some ⟨N + 3, 0, none⟩, 1, gmF ⟨#[121]⟩ (N + 2)⟩) := fun W' hW =>
      ⟨gmf_is (HBL.out W' hW 1 (by omega)) (HBL.out W' hW 0 (by omega)), gmf_fit _ _ (by decide), gmf_is (HBL.out W' hW 3 (by omega)) (HBL.out W' hW 2 (by omega)), gmf_fit _ _ (by decide), gmf_cp _ _, gmf_cp _ _⟩
    have HD : Hid (∀ W', Below V.heap.size V W' → CIn W' ⟨⟨#[65]⟩, ⟨#[97]⟩, false, none, 0, [], true, some ⟨N + 3, 0, none⟩, 1, gmF ⟨#[121]⟩ (N + 2)⟩) := fun W' hW =>
      ⟨⟨_, _, rfl, Or.inl rfl, fun x hx => by cases hx⟩, ⟨by unfold maxLen; simp, fun x hx => by cases hx⟩, gmf_is (HBL.out W' hW 3 (by omega)) (HBL.out W' hW 2 (by omega)), gmf_fit _ _ (by decide), copyX_nil, gmf_cp _ _⟩
    have HTC : Hid (∀ W', Below w'.heap.size w' W' → Calls Try.prog 23 #[.agg #[.string ⟨#[65]⟩, .slice (some ⟨N + 5, 0, none⟩) 1 1], .agg #[.string ⟨#[65]⟩, .string ⟨#[97]⟩, .bool true, .slice (some ⟨N + 1, 0, none⟩) 1 1, .bool true, .slice (some ⟨N + 3, 0, none⟩) 1 1]] W' fun e w' => BoolPost W' true e w') := fun W' hW => by
      have := S.touches W' _ _ (HRG.out W' (HIN.out W' hW).2.2) (HC.out W' (HIN.out W' hW).2.2)
      refine this.mono fun e x h => ?_
      have h' : e = .returned (.bool (touchesM gmR gmC)) ∧ Below W'.heap.size W' x := h
      rw [gm_tc] at h'
      exact h'
    have HTD : Hid (∀ W', Below w'.heap.size w' W' → Calls Try.prog 23 #[.agg #[.string ⟨#[65]⟩, .slice (some ⟨N + 5, 0, none⟩) 1 1], .agg #[.string ⟨#[65]⟩, .string ⟨#[97]⟩, .bool false, .slice none 0 0, .bool true, .slice (some ⟨N + 3, 0, none⟩) 1 1]] W' fun e w' => BoolPost W' false e w') := fun W' hW => by
      have := S.touches W' _ _ (HRG.out W' (HIN.out W' hW).2.2) (HD.out W' (HIN.out W' hW).2.2)
      refine this.mono fun e x h => ?_
      have h' : e = .returned (.bool (touchesM gmR gmD)) ∧ Below W'.heap.size W' x := h
      rw [gm_td] at h'
      exact h'
    have hfew : FewM ⟨kp, kc, [gma], rp, rc, [r1]⟩ := ⟨by show 1 < _; decide, by show 1 < _; decide⟩
    have HHI : Hid (∀ W' Z, Below w'.heap.size w' W' → W'.heap[Z]? = some (.cells #[.string ⟨#[65]⟩, .string ⟨#[97]⟩, .bool false, .slice none 0 0, .bool true, .slice (some ⟨N + 3, 0, none⟩) 1 1] 43 (0, 0)) → Calls Try.prog 19 #[.agg #[.slice kp 1 kc, .slice rp 1 rc], .slice (some ⟨Z, 0, none⟩) 1 1] W' fun e w' => BoolPost W' true e w') := fun W' Z hW hZ => by
      have := S.hits W' ⟨kp, kc, [gma], rp, rc, [r1]⟩ (.slice (some ⟨Z, 0, none⟩) 1 1) [⟨⟨#[65]⟩, ⟨#[97]⟩, false, none, 0, [], true, some ⟨N + 3, 0, none⟩, 1, gmF ⟨#[121]⟩ (N + 2)⟩] (HIN.out W' hW).2.1 hfew.len ⟨⟨_, _, rfl, Or.inr ⟨_, _, rfl, one_at hZ⟩⟩, fun c hc => by rw [List.mem_singleton] at hc; subst hc; exact HD.out W' (HIN.out W' hW).2.2⟩ (by show 1 < _; decide)
      rw [HE.out.is] at this
      refine this.mono fun e x h => ?_
      have h' : e = .returned (.bool (hitsM gmM [gmD])) ∧ Below W'.heap.size W' x := h
      rw [gm_hits] at h'
      exact h'
    have HWH : Hid (∀ W' Z, Below w'.heap.size w' W' → W'.heap[Z]? = some (.cells #[.string ⟨#[65]⟩, .string ⟨#[97]⟩, .bool true, .slice (some ⟨N + 1, 0, none⟩) 1 1, .bool true, .slice (some ⟨N + 3, 0, none⟩) 1 1] 43 (0, 0)) → Calls Try.prog 18 #[.agg #[.slice kp 1 kc, .slice rp 1 rc], .slice (some ⟨Z, 0, none⟩) 1 1] W' fun e w' => KeyRPost W' [gma] e w') := fun W' Z hW hZ => by
      have := S.which W' ⟨kp, kc, [gma], rp, rc, [r1]⟩ (.slice (some ⟨Z, 0, none⟩) 1 1) [⟨⟨#[65]⟩, ⟨#[97]⟩, true, some ⟨N + 1, 0, none⟩, 1, gmF ⟨#[120]⟩ N, true, some ⟨N + 3, 0, none⟩, 1, gmF ⟨#[121]⟩ (N + 2)⟩] (HIN.out W' hW).2.1 hfew.len ⟨⟨_, _, rfl, Or.inr ⟨_, _, rfl, one_at hZ⟩⟩, fun c hc => by rw [List.mem_singleton] at hc; subst hc; exact HC.out W' (HIN.out W' hW).2.2⟩ (by show 1 < _; decide)
      rw [HE.out.is] at this
      refine this.mono fun e x h => ?_
      have h' : KeyRPost W' (whichM gmM [gmC]) e x := h
      rw [gm_which] at h'
      exact h'
    have HUN : Hid (∀ W', Below w'.heap.size w' W' → Calls Try.prog 12 #[.agg #[.slice kp 1 kc, .slice rp 1 rc], .agg #[.slice kp 1 kc, .slice rp 1 rc]] W' fun e w' => MOwnPost W' gmM e w') := fun W' hW => by
      have := S.union W' ⟨kp, kc, [gma], rp, rc, [r1]⟩ ⟨kp, kc, [gma], rp, rc, [r1]⟩ (HIN.out W' hW).2.1 (HIN.out W' hW).2.1 hfew hfew (fun x hx => by rw [List.mem_singleton] at hx; subst hx; exact gm_fit) (fun x hx => by rw [List.mem_singleton] at hx; subst hx; exact gm_fit)
      rw [HE.out.is, gm_union] at this
      exact this
    have HEQ : Hid (∀ W' m2, Below w'.heap.size w' W' → MIn W' m2 → LenM m2 → Calls Try.prog 15 #[.agg #[.slice kp 1 kc, .slice rp 1 rc], .agg #[m2.ksl, m2.rsl]] W' fun e w' => BoolPost W' (decide (gmM = m2.mk')) e w') := fun W' m2 hW h1 h2 => by
      have := S.equal W' ⟨kp, kc, [gma], rp, rc, [r1]⟩ m2 (HIN.out W' hW).2.1 h1 hfew.len h2
      rw [HE.out.is] at this
      exact this
    have HMI : Hid (∀ W', Below w'.heap.size w' W' → Below w.heap.size w W') := fun W' hW => bel_then hbV hbV.size (HIN.out W' hW).2.2
    clear hE hfew
    go_upto_region 7 with fail
    refine wp_region_held_drew (S := fun W => W.cell? ⟨N + 6, 0, none⟩ = some (.string ⟨#[65]⟩) ∧ W.cell? ⟨N + 6, 1, none⟩ = some (.slice (some ⟨N + 5, 0, none⟩) 1 1) ∧ W.cell? ⟨N + 7, 0, none⟩ = some (.string ⟨#[65]⟩) ∧ W.cell? ⟨N + 7, 1, none⟩ = some (.string ⟨#[97]⟩) ∧ W.cell? ⟨N + 7, 2, none⟩ = some (.bool true) ∧ W.cell? ⟨N + 7, 3, none⟩ = some (.slice (some ⟨N + 1, 0, none⟩) 1 1) ∧ W.cell? ⟨N + 7, 4, none⟩ = some (.bool true) ∧ W.cell? ⟨N + 7, 5, none⟩ = some (.slice (some ⟨N + 3, 0, none⟩) 1 1) ∧ W.cell? ⟨N + 8, 0, none⟩ = some (.string ⟨#[65]⟩) ∧ W.cell? ⟨N + 8, 1, none⟩ = some (.string ⟨#[97]⟩) ∧ W.cell? ⟨N + 8, 2, none⟩ = some (.bool false) ∧ W.cell? ⟨N + 8, 3, none⟩ = some (.slice none 0 0) ∧ W.cell? ⟨N + 8, 4, none⟩ = some (.bool true) ∧ W.cell? ⟨N + 8, 5, none⟩ = some (.slice (some ⟨N + 3, 0, none⟩) 1 1) ∧ W.cell? ⟨B, 0, none⟩ = some (.slice kp 1 kc) ∧ W.cell? ⟨B, 1, none⟩ = some (.slice rp 1 rc)) (by kernel_rfl) (HIN.out w'.drew (bel_drewN (Below.refl _ _) 1)).1 (fun hHeld => ?_)
    refine take_val (i := 0) (.agg #[.string ⟨#[65]⟩, .slice (some ⟨N + 5, 0, none⟩) 1 1]) rfl (by kernel_rfl) (by kernel_rfl) (by kernel_rfl) (fun _ _ _ h => h) (by rfl) (fun w hSw => by go_simp) hHeld ?_
    simp only [Act.put, List.setIfInBounds_toArray, List.set_cons_zero, List.set_cons_succ]
    refine take_val (i := 1) (.agg #[.string ⟨#[65]⟩, .string ⟨#[97]⟩, .bool true, .slice (some ⟨N + 1, 0, none⟩) 1 1, .bool true, .slice (some ⟨N + 3, 0, none⟩) 1 1]) rfl (by kernel_rfl) (by kernel_rfl) (by kernel_rfl) (fun _ _ _ h => h) (by rfl) (fun w hSw => by go_simp) hHeld ?_
    simp only [Act.put, List.setIfInBounds_toArray, List.set_cons_zero, List.set_cons_succ]
    clear hHeld
    refine wpAnyH_ready (rs := [2]) (by kernel_rfl) (by simp) ?_
    refine AllReadyH.cons (at_drop0 rfl) (fun K hK => ?_) AllReadyH.nil
    rw [if_pos (by rfl)]
    go_simp
    refine (HTC.out _ (bel_drewN (Below.refl _ _) 1)).mono ?_
    rintro e w1 ⟨rfl, hb1⟩
    have HB1 : Hid (Below w'.heap.size w' w1) := (bel_drewN (Below.refl w'.heap.size w') 1).trans hb1
    clear hb1
    go_wp2_with fail
    refine hK.out _ _ ((HIN.out w1 HB1.out).1) (fun hHeld => ?_)
    clear hK K
    try simp only [Act.put, List.setIfInBounds_toArray, List.set_cons_zero, List.set_cons_succ]
    refine take_val (i := 3) (.bool true) rfl (by kernel_rfl) (by kernel_rfl) (by kernel_rfl) (fun _ _ _ h => h) (by rfl) (fun w hSw => by go_simp) hHeld ?_
    simp only [Act.put, List.setIfInBounds_toArray, List.set_cons_zero, List.set_cons_succ]
    refine take_val (i := 4) (.agg #[.string ⟨#[65]⟩, .slice (some ⟨N + 5, 0, none⟩) 1 1]) rfl (by kernel_rfl) (by kernel_rfl) (by kernel_rfl) (fun _ _ _ h => h) (by rfl) (fun w hSw => by go_simp) hHeld ?_
    simp only [Act.put, List.setIfInBounds_toArray, List.set_cons_zero, List.set_cons_succ]
    refine take_val (i := 5) (.agg #[.string ⟨#[65]⟩, .string ⟨#[97]⟩, .bool false, .slice none 0 0, .bool true, .slice (some ⟨N + 3, 0, none⟩) 1 1]) rfl (by kernel_rfl) (by kernel_rfl) (by kernel_rfl) (fun _ _ _ h => h) (by rfl) (fun w hSw => by go_simp) hHeld ?_
    simp only [Act.put, List.setIfInBounds_toArray, List.set_cons_zero, List.set_cons_succ]
    clear hHeld
    refine wpAnyH_ready (rs := [6]) (by kernel_rfl) (by simp) ?_
    refine AllReadyH.cons (at_drop0 rfl) (fun K hK => ?_) AllReadyH.nil
    rw [if_pos (by rfl)]
    go_simp
    refine (HTD.out w1 HB1.out).mono ?_
    rintro e w2 ⟨rfl, hb2⟩
    have HB2 : Hid (Below w'.heap.size w' w2) := bel_then HB1.out HB1.out.size hb2
    clear hb2 HB1
    go_wp2_with fail
    refine hK.out _ _ ((HIN.out w2 HB2.out).1) (fun hHeld => ?_)
    clear hK K
    try simp only [Act.put, List.setIfInBounds_toArray, List.set_cons_zero, List.set_cons_succ]
    refine take_val (i := 7) (.bool true) rfl (by kernel_rfl) (by kernel_rfl) (by kernel_rfl) (fun _ _ _ h => h) (by rfl) (fun w hSw => by go_simp) hHeld ?_
    simp only [Act.put, List.setIfInBounds_toArray, List.set_cons_zero, List.set_cons_succ]
    refine take_val (i := 8) (.bool true) rfl (by kernel_rfl) (by kernel_rfl) (by kernel_rfl) (fun _ _ _ h => h) (by rfl) (fun w hSw => by go_simp) hHeld ?_
    simp only [Act.put, List.setIfInBounds_toArray, List.set_cons_zero, List.set_cons_succ]
    refine take_val (i := 9) (.bool true) rfl (by kernel_rfl) (by kernel_rfl) (by kernel_rfl) (fun _ _ _ h => h) (by rfl) (fun w hSw => by go_simp) hHeld ?_
    simp only [Act.put, List.setIfInBounds_toArray, List.set_cons_zero, List.set_cons_succ]
    refine take_val (i := 10) (.pointer (some ⟨B, 0, none⟩)) rfl (by kernel_rfl) (by kernel_rfl) (by kernel_rfl) (fun _ _ _ h => h) (by rfl) (fun w hSw => by go_simp) hHeld ?_
    simp only [Act.put, List.setIfInBounds_toArray, List.set_cons_zero, List.set_cons_succ]
    refine take_val (i := 11) (.slice kp 1 kc) rfl (by kernel_rfl) (by kernel_rfl) (by kernel_rfl) (fun _ _ _ h => h) (by rfl) (fun w hSw => by go_simp) hHeld ?_
    simp only [Act.put, List.setIfInBounds_toArray, List.set_cons_zero, List.set_cons_succ]
    refine take_val (i := 12) (.int .i64 1) rfl (by kernel_rfl) (by kernel_rfl) (by kernel_rfl) (fun _ _ _ h => h) (by rfl) (fun w hSw => by go_simp) hHeld ?_
    simp only [Act.put, List.setIfInBounds_toArray, List.set_cons_zero, List.set_cons_succ]
    refine take_val (i := 13) (.bool true) rfl (by kernel_rfl) (by kernel_rfl) (by kernel_rfl) (fun _ _ _ h => h) (by rfl) (fun w hSw => by go_simp) hHeld ?_
    simp only [Act.put, List.setIfInBounds_toArray, List.set_cons_zero, List.set_cons_succ]
    refine take_val (i := 14) (.bool true) rfl (by kernel_rfl) (by kernel_rfl) (by kernel_rfl) (fun _ _ _ h => h) (by rfl) (fun w hSw => by go_simp) hHeld ?_
    simp only [Act.put, List.setIfInBounds_toArray, List.set_cons_zero, List.set_cons_succ]
    refine take_val (i := 15) (.bool true) rfl (by kernel_rfl) (by kernel_rfl) (by kernel_rfl) (fun _ _ _ h => h) (by rfl) (fun w hSw => by go_simp) hHeld ?_
    simp only [Act.put, List.setIfInBounds_toArray, List.set_cons_zero, List.set_cons_succ]
    refine take_val (i := 16) (.pointer (some ⟨B, 1, none⟩)) rfl (by kernel_rfl) (by kernel_rfl) (by kernel_rfl) (fun _ _ _ h => h) (by rfl) (fun w hSw => by go_simp) hHeld ?_
    simp only [Act.put, List.setIfInBounds_toArray, List.set_cons_zero, List.set_cons_succ]
    refine take_val (i := 17) (.slice rp 1 rc) rfl (by kernel_rfl) (by kernel_rfl) (by kernel_rfl) (fun _ _ _ h => h) (by rfl) (fun w hSw => by go_simp) hHeld ?_
    simp only [Act.put, List.setIfInBounds_toArray, List.set_cons_zero, List.set_cons_succ]
    refine take_val (i := 18) (.int .i64 1) rfl (by kernel_rfl) (by kernel_rfl) (by kernel_rfl) (fun _ _ _ h => h) (by rfl) (fun w hSw => by go_simp) hHeld ?_
    simp only [Act.put, List.setIfInBounds_toArray, List.set_cons_zero, List.set_cons_succ]
    refine take_val (i := 19) (.bool true) rfl (by kernel_rfl) (by kernel_rfl) (by kernel_rfl) (fun _ _ _ h => h) (by rfl) (fun w hSw => by go_simp) hHeld ?_
    simp only [Act.put, List.setIfInBounds_toArray, List.set_cons_zero, List.set_cons_succ]
    refine take_val (i := 20) (.bool true) rfl (by kernel_rfl) (by kernel_rfl) (by kernel_rfl) (fun _ _ _ h => h) (by rfl) (fun w hSw => by go_simp) hHeld ?_
    simp only [Act.put, List.setIfInBounds_toArray, List.set_cons_zero, List.set_cons_succ]
    refine take_val (i := 21) (.bool true) rfl (by kernel_rfl) (by kernel_rfl) (by kernel_rfl) (fun _ _ _ h => h) (by rfl) (fun w hSw => by go_simp) hHeld ?_
    simp only [Act.put, List.setIfInBounds_toArray, List.set_cons_zero, List.set_cons_succ]
    refine take_val (i := 22) (.agg #[.slice kp 1 kc, .slice rp 1 rc]) rfl (by kernel_rfl) (by kernel_rfl) (by kernel_rfl) (fun _ _ _ h => h) (by rfl) (fun w hSw => by go_simp) hHeld ?_
    simp only [Act.put, List.setIfInBounds_toArray, List.set_cons_zero, List.set_cons_succ]
    refine take_val (i := 23) (.agg #[.string ⟨#[65]⟩, .string ⟨#[97]⟩, .bool false, .slice none 0 0, .bool true, .slice (some ⟨N + 3, 0, none⟩) 1 1]) rfl (by kernel_rfl) (by kernel_rfl) (by kernel_rfl) (fun _ _ _ h => h) (by rfl) (fun w hSw => by go_simp) hHeld ?_
    simp only [Act.put, List.setIfInBounds_toArray, List.set_cons_zero, List.set_cons_succ]
    clear hHeld
    have hnew3 := heap_alloc_new w2 (.cells #[.string ⟨#[65]⟩, .string ⟨#[97]⟩, .bool false, .slice none 0 0, .bool true, .slice (some ⟨N + 3, 0, none⟩) 1 1] 43)
    obtain ⟨w3, hw3⟩ : ∃ w3, w2.alloc (.cells #[.string ⟨#[65]⟩, .string ⟨#[97]⟩, .bool false, .slice none 0 0, .bool true, .slice (some ⟨N + 3, 0, none⟩) 1 1] 43) = w3 := ⟨_, rfl⟩
    obtain ⟨Z3, hZ3⟩ : ∃ Z3, w2.heap.size = Z3 := ⟨_, rfl⟩
    have HB3 : Hid (Below w'.heap.size w' w3) := by rw [← hw3]; exact bel_then HB2.out HB2.out.size ((Below.refl _ _).alloc (Nat.le_refl _) _)
    rw [hw3, hZ3] at hnew3
    have HN3 := hid hnew3
    have HZ3 := hid hZ3
    have HW3 := hid hw3
    clear hnew3 hZ3 hw3
    refine wpAnyH_ready (rs := [24]) (by kernel_rfl) (by simp) ?_
    refine AllReadyH.cons (at_drop0 rfl) (fun K hK => ?_) AllReadyH.nil
    rw [if_pos (by rfl)]
    go_simp
    go_wp2_with fail
    try rw [HW3.out]
    try rw [HZ3.out]
    refine hK.out _ _ ((HIN.out w3 HB3.out).1) (fun hHeld => ?_)
    clear hK K
    try simp only [Act.put, List.setIfInBounds_toArray, List.set_cons_zero, List.set_cons_succ]
    clear hHeld
    refine wpAnyH_ready (rs := [25]) (by kernel_rfl) (by simp) ?_
    refine AllReadyH.cons (at_drop0 rfl) (fun K hK => ?_) AllReadyH.nil
    rw [if_pos (by rfl)]
    go_simp
    refine (HHI.out w3 Z3 HB3.out HN3.out).mono ?_
    rintro e w4 ⟨rfl, hb4⟩
    have HB4 : Hid (Below w'.heap.size w' w4) := bel_then HB3.out HB3.out.size hb4
    clear hb4 HB3 HN3 HB2 HW3 HZ3
    go_wp2_with fail
    refine hK.out _ _ ((HIN.out w4 HB4.out).1) (fun hHeld => ?_)
    clear hK K
    try simp only [Act.put, List.setIfInBounds_toArray, List.set_cons_zero, List.set_cons_succ]
    refine take_val (i := 26) (.bool true) rfl (by kernel_rfl) (by kernel_rfl) (by kernel_rfl) (fun _ _ _ h => h) (by rfl) (fun w hSw => by go_simp) hHeld ?_
    simp only [Act.put, List.setIfInBounds_toArray, List.set_cons_zero, List.set_cons_succ]
    refine take_val (i := 27) (.bool true) rfl (by kernel_rfl) (by kernel_rfl) (by kernel_rfl) (fun _ _ _ h => h) (by rfl) (fun w hSw => by go_simp) hHeld ?_
    simp only [Act.put, List.setIfInBounds_toArray, List.set_cons_zero, List.set_cons_succ]
    refine take_val (i := 28) (.agg #[.slice kp 1 kc, .slice rp 1 rc]) rfl (by kernel_rfl) (by kernel_rfl) (by kernel_rfl) (fun _ _ _ h => h) (by rfl) (fun w hSw => by go_simp) hHeld ?_
    simp only [Act.put, List.setIfInBounds_toArray, List.set_cons_zero, List.set_cons_succ]
    refine take_val (i := 29) (.agg #[.string ⟨#[65]⟩, .string ⟨#[97]⟩, .bool true, .slice (some ⟨N + 1, 0, none⟩) 1 1, .bool true, .slice (some ⟨N + 3, 0, none⟩) 1 1]) rfl (by kernel_rfl) (by kernel_rfl) (by kernel_rfl) (fun _ _ _ h => h) (by rfl) (fun w hSw => by go_simp) hHeld ?_
    simp only [Act.put, List.setIfInBounds_toArray, List.set_cons_zero, List.set_cons_succ]
    clear hHeld
    have hnew5 := heap_alloc_new w4 (.cells #[.string ⟨#[65]⟩, .string ⟨#[97]⟩, .bool true, .slice (some ⟨N + 1, 0, none⟩) 1 1, .bool true, .slice (some ⟨N + 3, 0, none⟩) 1 1] 43)
    obtain ⟨w5, hw5⟩ : ∃ w5, w4.alloc (.cells #[.string ⟨#[65]⟩, .string ⟨#[97]⟩, .bool true, .slice (some ⟨N + 1, 0, none⟩) 1 1, .bool true, .slice (some ⟨N + 3, 0, none⟩) 1 1] 43) = w5 := ⟨_, rfl⟩
    obtain ⟨Z5, hZ5⟩ : ∃ Z5, w4.heap.size = Z5 := ⟨_, rfl⟩
    have HB5 : Hid (Below w'.heap.size w' w5) := by rw [← hw5]; exact bel_then HB4.out HB4.out.size ((Below.refl _ _).alloc (Nat.le_refl _) _)
    rw [hw5, hZ5] at hnew5
    have HN5 := hid hnew5
    have HZ5 := hid hZ5
    have HW5 := hid hw5
    clear hnew5 hZ5 hw5
    refine wpAnyH_ready (rs := [30]) (by kernel_rfl) (by simp) ?_
    refine AllReadyH.cons (at_drop0 rfl) (fun K hK => ?_) AllReadyH.nil
    rw [if_pos (by rfl)]
    go_simp
    go_wp2_with fail
    try rw [HW5.out]
    try rw [HZ5.out]
    refine hK.out _ _ ((HIN.out w5 HB5.out).1) (fun hHeld => ?_)
    clear hK K
    try simp only [Act.put, List.setIfInBounds_toArray, List.set_cons_zero, List.set_cons_succ]
    clear hHeld
    refine wpAnyH_ready (rs := [31]) (by kernel_rfl) (by simp) ?_
    refine AllReadyH.cons (at_drop0 rfl) (fun K hK => ?_) AllReadyH.nil
    rw [if_pos (by rfl)]
    go_simp
    refine (HWH.out w5 Z5 HB5.out HN5.out).mono ?_
    rintro e w6 ⟨u6, rfl, ho6, hb6⟩
    obtain ⟨p6, c6, rfl⟩ := Kind.own_shape ho6
    have HB6 : Hid (Below w'.heap.size w' w6) := bel_then HB5.out HB5.out.size hb6
    clear hb6 HB5 HN5 HB4 HW5 HZ5 ho6
    simp only [List.length_cons, List.length_nil, Nat.zero_add]
    go_wp2_with fail
    refine hK.out _ _ ((HIN.out w6 HB6.out).1) (fun hHeld => ?_)
    clear hK K
    try simp only [Act.put, List.setIfInBounds_toArray, List.set_cons_zero, List.set_cons_succ]
    refine take_val (i := 32) (.int .i64 1) rfl (by kernel_rfl) (by kernel_rfl) (by kernel_rfl) (fun _ _ _ h => h) (by rfl) (fun w hSw => by go_simp) hHeld ?_
    simp only [Act.put, List.setIfInBounds_toArray, List.set_cons_zero, List.set_cons_succ]
    refine take_val (i := 33) (.bool true) rfl (by kernel_rfl) (by kernel_rfl) (by kernel_rfl) (fun _ _ _ h => h) (by rfl) (fun w hSw => by go_simp) hHeld ?_
    simp only [Act.put, List.setIfInBounds_toArray, List.set_cons_zero, List.set_cons_succ]
    refine take_val (i := 34) (.bool true) rfl (by kernel_rfl) (by kernel_rfl) (by kernel_rfl) (fun _ _ _ h => h) (by rfl) (fun w hSw => by go_simp) hHeld ?_
    simp only [Act.put, List.setIfInBounds_toArray, List.set_cons_zero, List.set_cons_succ]
    refine take_val (i := 35) (.bool true) rfl (by kernel_rfl) (by kernel_rfl) (by kernel_rfl) (fun _ _ _ h => h) (by rfl) (fun w hSw => by go_simp) hHeld ?_
    simp only [Act.put, List.setIfInBounds_toArray, List.set_cons_zero, List.set_cons_succ]
    refine take_val (i := 36) (.agg #[.slice kp 1 kc, .slice rp 1 rc]) rfl (by kernel_rfl) (by kernel_rfl) (by kernel_rfl) (fun _ _ _ h => h) (by rfl) (fun w hSw => by go_simp) hHeld ?_
    simp only [Act.put, List.setIfInBounds_toArray, List.set_cons_zero, List.set_cons_succ]
    refine take_val (i := 37) (.agg #[.slice kp 1 kc, .slice rp 1 rc]) rfl (by kernel_rfl) (by kernel_rfl) (by kernel_rfl) (fun _ _ _ h => h) (by rfl) (fun w hSw => by go_simp) hHeld ?_
    simp only [Act.put, List.setIfInBounds_toArray, List.set_cons_zero, List.set_cons_succ]
    refine take_val (i := 38) (.agg #[.slice kp 1 kc, .slice rp 1 rc]) rfl (by kernel_rfl) (by kernel_rfl) (by kernel_rfl) (fun _ _ _ h => h) (by rfl) (fun w hSw => by go_simp) hHeld ?_
    simp only [Act.put, List.setIfInBounds_toArray, List.set_cons_zero, List.set_cons_succ]
    clear hHeld
    refine wpAnyH_ready (rs := [39]) (by kernel_rfl) (by simp) ?_
    refine AllReadyH.cons (at_drop0 rfl) (fun K hK => ?_) AllReadyH.nil
    rw [if_pos (by rfl)]
    go_simp
    refine (HUN.out w6 HB6.out).mono ?_
    rintro e w7 ⟨m7, rfl, ho7, hk7, hb7⟩
    have HB7 : Hid (Below w'.heap.size w' w7) := bel_then HB6.out HB6.out.size hb7
    have HQ := hid (HEQ.out w7 m7 HB7.out ho7.inn (by
      constructor
      · rw [show m7.ks = gmM.1 from congrArg Prod.fst hk7]; decide
      · have := congrArg (fun x : Mk => x.2.length) hk7
        simp only [Mx.mk', List.length_map] at this
        rw [this]; decide))
    rw [hk7, decide_eq_true rfl] at HQ
    clear hb7 HB6 ho7 hk7
    obtain ⟨kp7, kc7, ks7, rp7, rc7, rs7⟩ := m7
    simp only [encMx, Mx.ksl, Mx.rsl] at HQ ⊢
    go_wp2_with fail
    refine hK.out _ _ ((HIN.out w7 HB7.out).1) (fun hHeld => ?_)
    clear hK K
    try simp only [Act.put, List.setIfInBounds_toArray, List.set_cons_zero, List.set_cons_succ]
    clear hHeld
    refine wpAnyH_ready (rs := [40]) (by kernel_rfl) (by simp) ?_
    refine AllReadyH.cons (at_drop0 rfl) (fun K hK => ?_) AllReadyH.nil
    rw [if_pos (by rfl)]
    go_simp
    refine HQ.out.mono ?_
    rintro e w8 ⟨rfl, hb8⟩
    have HB8 : Hid (Below w'.heap.size w' w8) := bel_then HB7.out HB7.out.size hb8
    clear hb8 HB7 HQ
    go_wp2_with fail
    refine hK.out _ _ ((HIN.out w8 HB8.out).1) (fun hHeld => ?_)
    clear hK K
    try simp only [Act.put, List.setIfInBounds_toArray, List.set_cons_zero, List.set_cons_succ]
    refine take_val (i := 41) (.bool true) rfl (by kernel_rfl) (by kernel_rfl) (by kernel_rfl) (fun _ _ _ h => h) (by rfl) (fun w hSw => by go_simp) hHeld ?_
    simp only [Act.put, List.setIfInBounds_toArray, List.set_cons_zero, List.set_cons_succ]
    refine take_val (i := 42) (.bool true) rfl (by kernel_rfl) (by kernel_rfl) (by kernel_rfl) (fun _ _ _ h => h) (by rfl) (fun w hSw => by go_simp) hHeld ?_
    simp only [Act.put, List.setIfInBounds_toArray, List.set_cons_zero, List.set_cons_succ]
    refine take_val (i := 43) (.agg #[.slice kp 1 kc, .slice rp 1 rc]) rfl (by kernel_rfl) (by kernel_rfl) (by kernel_rfl) (fun _ _ _ h => h) (by rfl) (fun w hSw => by go_simp) hHeld ?_
    simp only [Act.put, List.setIfInBounds_toArray, List.set_cons_zero, List.set_cons_succ]
    refine take_val (i := 44) (.agg #[.slice none 0 0, .slice none 0 0]) rfl (by kernel_rfl) (by kernel_rfl) (by kernel_rfl) (fun _ _ _ h => h) (by rfl) (fun w hSw => by go_simp) hHeld ?_
    simp only [Act.put, List.setIfInBounds_toArray, List.set_cons_zero, List.set_cons_succ]
    clear hHeld
    have HQ := hid (HEQ.out w8 ⟨none, 0, [], none, 0, []⟩ HB8.out ⟨KK.is_nil w8, KRx.is_nil w8, fun r hr => by cases hr⟩ ⟨by decide, by decide⟩)
    rw [show decide (gmM = (⟨none, 0, [], none, 0, []⟩ : Mx).mk') = false from gm_ne] at HQ
    simp only [Mx.ksl, Mx.rsl, List.length_nil] at HQ
    refine wpAnyH_ready (rs := [45]) (by kernel_rfl) (by simp) ?_
    refine AllReadyH.cons (at_drop0 rfl) (fun K hK => ?_) AllReadyH.nil
    rw [if_pos (by rfl)]
    go_simp
    refine HQ.out.mono ?_
    rintro e w9 ⟨rfl, hb9⟩
    have HB9 : Hid (Below w'.heap.size w' w9) := bel_then HB8.out HB8.out.size hb9
    clear hb9 HB8 HQ
    go_wp2_with fail
    refine hK.out _ _ ((HIN.out w9 HB9.out).1) (fun hHeld => ?_)
    clear hK K
    try simp only [Act.put, List.setIfInBounds_toArray, List.set_cons_zero, List.set_cons_succ]
    refine take_val (i := 46) (.bool true) rfl (by kernel_rfl) (by kernel_rfl) (by kernel_rfl) (fun _ _ _ h => h) (by rfl) (fun w hSw => by go_simp) hHeld ?_
    simp only [Act.put, List.setIfInBounds_toArray, List.set_cons_zero, List.set_cons_succ]
    refine take_val (i := 47) (.bool true) rfl (by kernel_rfl) (by kernel_rfl) (by kernel_rfl) (fun _ _ _ h => h) (by rfl) (fun w hSw => by go_simp) hHeld ?_
    simp only [Act.put, List.setIfInBounds_toArray, List.set_cons_zero, List.set_cons_succ]
    refine take_val (i := 48) (.bool true) rfl (by kernel_rfl) (by kernel_rfl) (by kernel_rfl) (fun _ _ _ h => h) (by rfl) (fun w hSw => by go_simp) hHeld ?_
    simp only [Act.put, List.setIfInBounds_toArray, List.set_cons_zero, List.set_cons_succ]
    refine wpAnyH_done (by kernel_rfl) ?_ _
    clear hHeld
    have HM9 := hid (HMI.out w9 HB9.out)
    go_wp2_with fail
    go_ret
    exact ⟨rfl, HM9.out⟩

end Go.Proofs.Ythdakljoabbghaa
