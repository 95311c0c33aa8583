/-
  Texts of this claim, one behind the other: Two Mtw Pbx Mr6 Psn Mkr Mkw Mlu.
-/
import Derived.Test.YthdakljoabbghaaPe
import Derived.Test.YthdakljoabbghaaPd
import Derived.Test.YthdakljoabbghaaPa
import Derived.Test.YthdakljoabbghaaPc
import Derived.Test.YthdakljoabbghaaPb
import Derived.Deep.DeepAppendRoom
import Derived.Laws.MakeOwn
/-
  'x, y := f(..), g(..)' where x and y are variables of struct types: two calls, two variables made meanwhile, two stores. No program.
-/
namespace Go.Proofs.Ythdakljoabbghaa
open Go.RowKit

/-- The blocks of the variables that have been made. -/
def TwoP (fl : List Bool) (B1 B2 : Nat) (b : Nat) : Prop := (fl[0]? = some true ∧ b = B1) ∨ (fl[1]? = some true ∧ b = B2)

section
variable {α β : Type}
/-- k of the calls and stores have been done, fl of the variables made. -/
structure TwoAt (V : World) (ea : α → Array Value) (Ta : TypeId) (za : Array Value) (eb : β → Array Value) (Tb : TypeId) (zb : Array Value) (G1 : World → α → Prop) (G2 : World → β → Prop) (BA : α → Nat → Prop) (BB : β → Nat → Prop)
    (k : Nat) (fl : List Bool) (v1 v2 u1 u2 : Value) (w : World) (B1 B2 : Nat) (x : α) (y : β) : Prop where
  bel : Below V.heap.size V w
  s1 : 3 ≤ k → fl[0]? = some true
  s2 : 4 ≤ k → fl[1]? = some true
  b1 : fl[0]? = some true → u1 = .pointer (some ⟨B1, 0, none⟩) ∧ V.heap.size ≤ B1 ∧ w.heap[B1]? = some (.cells (if 3 ≤ k then ea x else za) Ta (0, 0))
  b2 : fl[1]? = some true → u2 = .pointer (some ⟨B2, 0, none⟩) ∧ V.heap.size ≤ B2 ∧ w.heap[B2]? = some (.cells (if 4 ≤ k then eb y else zb) Tb (0, 0))
  ne : fl[0]? = some true → fl[1]? = some true → B1 ≠ B2
  g1 : 1 ≤ k → v1 = .agg (ea x) ∧ ∀ w', Fr (TwoP fl B1 B2) w w' → G1 w' x
  g2 : 2 ≤ k → v2 = .agg (eb y) ∧ ∀ w', Fr (TwoP fl B1 B2) w w' → G2 w' y
  l1 : 1 ≤ k → ∀ b, BA x b → V.heap.size ≤ b ∧ b < w.heap.size
  l2 : 2 ≤ k → ∀ b, BB y b → V.heap.size ≤ b ∧ b < w.heap.size
  ap : 2 ≤ k → ∀ b, BA x b → ¬ BB y b
def TwoSt (V : World) (ea : α → Array Value) (Ta : TypeId) (za : Array Value) (eb : β → Array Value) (Tb : TypeId) (zb : Array Value) (G1 : World → α → Prop) (G2 : World → β → Prop) (BA : α → Nat → Prop) (BB : β → Nat → Prop)
    (k : Nat) (fl : List Bool) (v1 v2 u1 u2 : Value) (w : World) : Prop := ∃ (B1 B2 : Nat) (x : α) (y : β), TwoAt V ea Ta za eb Tb zb G1 G2 BA BB k fl v1 v2 u1 u2 w B1 B2 x y

variable {V : World} {ea : α → Array Value} {Ta : TypeId} {za : Array Value} {eb : β → Array Value} {Tb : TypeId} {zb : Array Value} {G1 : World → α → Prop} {G2 : World → β → Prop} {BA : α → Nat → Prop} {BB : β → Nat → Prop} {k : Nat} {fl : List Bool} {v1 v2 u1 u2 : Value} {w : World}

theorem TwoSt.bel (h : TwoSt V ea Ta za eb Tb zb G1 G2 BA BB k fl v1 v2 u1 u2 w) : Below V.heap.size V w := by
  obtain ⟨_, _, _, _, h⟩ := h
  exact h.bel
theorem two_start [Inhabited α] [Inhabited β] (v1 v2 u1 u2 : Value) (h : Below V.heap.size V w) : TwoSt V ea Ta za eb Tb zb G1 G2 BA BB 0 [false, false] v1 v2 u1 u2 w :=
  ⟨0, 0, default, default, h, (fun h => by omega), (fun h => by omega), (fun h => by cases h), (fun h => by cases h), (fun h => by cases h), (fun h => by omega), (fun h => by omega), (fun h => by omega), (fun h => by omega), (fun h => by omega)⟩

theorem two_call1 {w2 : World} {x' : α} (h : TwoSt V ea Ta za eb Tb zb G1 G2 BA BB 0 fl v1 v2 u1 u2 w) (hb : Below w.heap.size w w2) (hG : ∀ P w', (∀ b, P b → V.heap.size ≤ b ∧ b < w.heap.size) → Fr P w2 w' → G1 w' x') (hB : ∀ b, BA x' b → w.heap.size ≤ b ∧ b < w2.heap.size) : TwoSt V ea Ta za eb Tb zb G1 G2 BA BB 1 fl (.agg (ea x')) v2 u1 u2 w2 := by
  obtain ⟨B1, B2, x, y, h⟩ := h
  have hl1 : fl[0]? = some true → B1 < w.heap.size := fun e => (Array.getElem?_eq_some_iff.1 (h.b1 e).2.2).1
  have hl2 : fl[1]? = some true → B2 < w.heap.size := fun e => (Array.getElem?_eq_some_iff.1 (h.b2 e).2.2).1
  refine ⟨B1, B2, x', y, bel_then h.bel h.bel.size hb, (fun h => by omega), (fun h => by omega), (fun e => ?_), (fun e => ?_), h.ne, (fun _ => ⟨rfl, fun w' f => hG _ w' (fun b hb => ?_) f⟩), (fun h => by omega), (fun _ b hb => ⟨Nat.le_trans h.bel.size (hB b hb).1, (hB b hb).2⟩), (fun h => by omega), (fun h => by omega)⟩
  · obtain ⟨q1, q2, q3⟩ := h.b1 e
    exact ⟨q1, q2, (hb.block B1 (hl1 e)).trans q3⟩
  · obtain ⟨q1, q2, q3⟩ := h.b2 e
    exact ⟨q1, q2, (hb.block B2 (hl2 e)).trans q3⟩
  · rcases hb with ⟨e, rfl⟩ | ⟨e, rfl⟩
    · exact ⟨(h.b1 e).2.1, hl1 e⟩
    · exact ⟨(h.b2 e).2.1, hl2 e⟩
theorem two_call2 {w2 : World} {y' : β} (h : TwoSt V ea Ta za eb Tb zb G1 G2 BA BB 1 fl v1 v2 u1 u2 w) (hb : Below w.heap.size w w2) (hG : ∀ P w', (∀ b, P b → V.heap.size ≤ b ∧ b < w.heap.size) → Fr P w2 w' → G2 w' y') (hB : ∀ b, BB y' b → w.heap.size ≤ b ∧ b < w2.heap.size) : TwoSt V ea Ta za eb Tb zb G1 G2 BA BB 2 fl v1 (.agg (eb y')) u1 u2 w2 := by
  obtain ⟨B1, B2, x, y, h⟩ := h
  have hl1 : fl[0]? = some true → B1 < w.heap.size := fun e => (Array.getElem?_eq_some_iff.1 (h.b1 e).2.2).1
  have hl2 : fl[1]? = some true → B2 < w.heap.size := fun e => (Array.getElem?_eq_some_iff.1 (h.b2 e).2.2).1
  refine ⟨B1, B2, x, y', bel_then h.bel h.bel.size hb, (fun h => by omega), (fun h => by omega), (fun e => ?_), (fun e => ?_), h.ne, (fun _ => ?_), (fun _ => ⟨rfl, fun w' f => hG _ w' (fun b hb => ?_) f⟩), (fun _ b hx => ⟨(h.l1 (Nat.le_refl _) b hx).1, Nat.lt_of_lt_of_le (h.l1 (Nat.le_refl _) b hx).2 hb.size⟩), (fun _ b hy => ⟨Nat.le_trans h.bel.size (hB b hy).1, (hB b hy).2⟩), (fun _ b hx hy => by
    have h1 := (h.l1 (Nat.le_refl _) b hx).2
    have h2 := (hB b hy).1
    omega)⟩
  · obtain ⟨q1, q2, q3⟩ := h.b1 e
    exact ⟨q1, q2, (hb.block B1 (hl1 e)).trans q3⟩
  · obtain ⟨q1, q2, q3⟩ := h.b2 e
    exact ⟨q1, q2, (hb.block B2 (hl2 e)).trans q3⟩
  · obtain ⟨q1, q2⟩ := h.g1 (Nat.le_refl _)
    exact ⟨q1, fun w' f => q2 w' ((Fr.of_below hb).then f fun k hk => Or.inl hk)⟩
  · rcases hb with ⟨e, rfl⟩ | ⟨e, rfl⟩
    · exact ⟨(h.b1 e).2.1, hl1 e⟩
    · exact ⟨(h.b2 e).2.1, hl2 e⟩
theorem two_alloc1 {f2 : Bool} (h : TwoSt V ea Ta za eb Tb zb G1 G2 BA BB k [false, f2] v1 v2 u1 u2 w) : TwoSt V ea Ta za eb Tb zb G1 G2 BA BB k [true, f2] v1 v2 (.pointer (some ⟨w.heap.size, 0, none⟩)) u2 (w.alloc (.cells za Ta)) := by
  obtain ⟨B1, B2, x, y, h⟩ := h
  have hal : Below w.heap.size w (w.alloc (.cells za Ta)) := (Below.refl _ _).alloc (Nat.le_refl _) _
  have hk : ¬ 3 ≤ k := fun e => by have := h.s1 e; cases this
  have hl2 : f2 = true → B2 < w.heap.size := fun e => (Array.getElem?_eq_some_iff.1 (h.b2 (by rw [e]; rfl)).2.2).1
  have hfr : ∀ w', Fr (TwoP [true, f2] w.heap.size B2) (w.alloc (.cells za Ta)) w' → Fr (TwoP [false, f2] B1 B2) w w' := fun w' f => (Fr.of_below hal).then f fun b hb => by
    rcases hb with ⟨_, rfl⟩ | hb
    · exact Or.inr (Nat.le_refl _)
    · exact Or.inl (Or.inr hb)
  refine ⟨w.heap.size, B2, x, y, bel_then h.bel h.bel.size hal, (fun _ => rfl), (fun e => absurd (by omega) hk), (fun _ => ⟨rfl, h.bel.size, ?_⟩), (fun e => ?_), (fun _ e => ?_), (fun e => ?_), (fun e => ?_), (fun e b hb => ⟨(h.l1 e b hb).1, Nat.lt_of_lt_of_le (h.l1 e b hb).2 hal.size⟩), (fun e b hb => ⟨(h.l2 e b hb).1, Nat.lt_of_lt_of_le (h.l2 e b hb).2 hal.size⟩), h.ap⟩
  · rw [if_neg hk]
    exact heap_alloc_new w _
  · obtain ⟨q1, q2, q3⟩ := h.b2 e
    exact ⟨q1, q2, (hal.block B2 (hl2 (by simpa using e))).trans q3⟩
  · have := hl2 (by simpa using e)
    omega
  · obtain ⟨q1, q2⟩ := h.g1 e
    exact ⟨q1, fun w' f => q2 w' (hfr w' f)⟩
  · obtain ⟨q1, q2⟩ := h.g2 e
    exact ⟨q1, fun w' f => q2 w' (hfr w' f)⟩
theorem two_alloc2 {f1 : Bool} (h : TwoSt V ea Ta za eb Tb zb G1 G2 BA BB k [f1, false] v1 v2 u1 u2 w) : TwoSt V ea Ta za eb Tb zb G1 G2 BA BB k [f1, true] v1 v2 u1 (.pointer (some ⟨w.heap.size, 0, none⟩)) (w.alloc (.cells zb Tb)) := by
  obtain ⟨B1, B2, x, y, h⟩ := h
  have hal : Below w.heap.size w (w.alloc (.cells zb Tb)) := (Below.refl _ _).alloc (Nat.le_refl _) _
  have hk : ¬ 4 ≤ k := fun e => by have := h.s2 e; cases this
  have hl1 : f1 = true → B1 < w.heap.size := fun e => (Array.getElem?_eq_some_iff.1 (h.b1 (by rw [e]; rfl)).2.2).1
  have hfr : ∀ w', Fr (TwoP [f1, true] B1 w.heap.size) (w.alloc (.cells zb Tb)) w' → Fr (TwoP [f1, false] B1 B2) w w' := fun w' f => (Fr.of_below hal).then f fun b hb => by
    rcases hb with hb | ⟨_, rfl⟩
    · exact Or.inl (Or.inl hb)
    · exact Or.inr (Nat.le_refl _)
  refine ⟨B1, w.heap.size, x, y, bel_then h.bel h.bel.size hal, (fun e => h.s1 e), (fun e => absurd e hk), (fun e => ?_), (fun _ => ⟨rfl, h.bel.size, ?_⟩), (fun e _ => ?_), (fun e => ?_), (fun e => ?_), (fun e b hb => ⟨(h.l1 e b hb).1, Nat.lt_of_lt_of_le (h.l1 e b hb).2 hal.size⟩), (fun e b hb => ⟨(h.l2 e b hb).1, Nat.lt_of_lt_of_le (h.l2 e b hb).2 hal.size⟩), h.ap⟩
  · obtain ⟨q1, q2, q3⟩ := h.b1 e
    exact ⟨q1, q2, (hal.block B1 (hl1 (by simpa using e))).trans q3⟩
  · rw [if_neg hk]
    exact heap_alloc_new w _
  · have := hl1 (by simpa using e)
    omega
  · obtain ⟨q1, q2⟩ := h.g1 e
    exact ⟨q1, fun w' f => q2 w' (hfr w' f)⟩
  · obtain ⟨q1, q2⟩ := h.g2 e
    exact ⟨q1, fun w' f => q2 w' (hfr w' f)⟩
/-- The first store: what is there, and what must be shown of the world behind it. -/
theorem two_store1 {f2 : Bool} (h : TwoSt V ea Ta za eb Tb zb G1 G2 BA BB 2 [true, f2] v1 v2 u1 u2 w) : ∃ B1 x, u1 = .pointer (some ⟨B1, 0, none⟩) ∧ v1 = .agg (ea x) ∧ w.heap[B1]? = some (.cells za Ta (0, 0)) ∧
    ∀ w', w'.heap[B1]? = some (.cells (ea x) Ta (0, 0)) → Fr (fun b => b = B1) w w' → TwoSt V ea Ta za eb Tb zb G1 G2 BA BB 3 [true, f2] v1 v2 u1 u2 w' := by
  obtain ⟨B1, B2, x, y, h⟩ := h
  obtain ⟨q1, q2, q3⟩ := h.b1 rfl
  rw [if_neg (by omega)] at q3
  obtain ⟨p1, p2⟩ := h.g1 (by omega)
  obtain ⟨p3, p4⟩ := h.g2 (by omega)
  refine ⟨B1, x, q1, p1, q3, fun w' hw f => ?_⟩
  have hlt := (Array.getElem?_eq_some_iff.1 q3).1
  have hfr : Fr (TwoP [true, f2] B1 B2) w w' := f.mono fun b hb => Or.inl ⟨rfl, hb⟩
  refine ⟨B1, B2, x, y, h.bel.trans (f.below (by have := h.bel.size; omega) fun b hb => by omega), (fun _ => rfl), (fun e => by omega), (fun _ => ⟨q1, q2, ?_⟩), (fun e => ?_), h.ne, (fun _ => ⟨p1, fun w3 f3 => p2 w3 (hfr.then f3 fun b hb => Or.inl hb)⟩), (fun _ => ⟨p3, fun w3 f3 => p4 w3 (hfr.then f3 fun b hb => Or.inl hb)⟩), (fun _ b hb => ⟨(h.l1 (by omega) b hb).1, Nat.lt_of_lt_of_le (h.l1 (by omega) b hb).2 f.size⟩), (fun _ b hb => ⟨(h.l2 (by omega) b hb).1, Nat.lt_of_lt_of_le (h.l2 (by omega) b hb).2 f.size⟩), (fun _ => h.ap (by omega))⟩
  · rw [if_pos (by omega)]
    exact hw
  · obtain ⟨r1, r2, r3⟩ := h.b2 e
    refine ⟨r1, r2, ?_⟩
    rw [if_neg (by omega)] at r3 ⊢
    exact (f.block B2 (Array.getElem?_eq_some_iff.1 r3).1 (h.ne rfl e).symm).trans r3
theorem two_store2 {f1 : Bool} (h : TwoSt V ea Ta za eb Tb zb G1 G2 BA BB 3 [f1, true] v1 v2 u1 u2 w) : ∃ B2 y, u2 = .pointer (some ⟨B2, 0, none⟩) ∧ v2 = .agg (eb y) ∧ w.heap[B2]? = some (.cells zb Tb (0, 0)) ∧
    ∀ w', w'.heap[B2]? = some (.cells (eb y) Tb (0, 0)) → Fr (fun b => b = B2) w w' → TwoSt V ea Ta za eb Tb zb G1 G2 BA BB 4 [f1, true] v1 v2 u1 u2 w' := by
  obtain ⟨B1, B2, x, y, h⟩ := h
  obtain ⟨q1, q2, q3⟩ := h.b2 rfl
  rw [if_neg (by omega)] at q3
  obtain ⟨p1, p2⟩ := h.g1 (by omega)
  obtain ⟨p3, p4⟩ := h.g2 (by omega)
  have hf1 : f1 = true := by simpa using h.s1 (Nat.le_refl _)
  refine ⟨B2, y, q1, p3, q3, fun w' hw f => ?_⟩
  have hlt := (Array.getElem?_eq_some_iff.1 q3).1
  have hfr : Fr (TwoP [f1, true] B1 B2) w w' := f.mono fun b hb => Or.inr ⟨rfl, hb⟩
  refine ⟨B1, B2, x, y, h.bel.trans (f.below (by have := h.bel.size; omega) fun b hb => by omega), (fun _ => h.s1 (Nat.le_refl _)), (fun e => rfl), (fun e => ?_), (fun _ => ⟨q1, q2, ?_⟩), h.ne, (fun _ => ⟨p1, fun w3 f3 => p2 w3 (hfr.then f3 fun b hb => Or.inl hb)⟩), (fun _ => ⟨p3, fun w3 f3 => p4 w3 (hfr.then f3 fun b hb => Or.inl hb)⟩), (fun _ b hb => ⟨(h.l1 (by omega) b hb).1, Nat.lt_of_lt_of_le (h.l1 (by omega) b hb).2 f.size⟩), (fun _ b hb => ⟨(h.l2 (by omega) b hb).1, Nat.lt_of_lt_of_le (h.l2 (by omega) b hb).2 f.size⟩), (fun _ => h.ap (by omega))⟩
  · obtain ⟨r1, r2, r3⟩ := h.b1 e
    refine ⟨r1, r2, ?_⟩
    rw [if_pos (by omega)] at r3 ⊢
    exact (f.block B1 (Array.getElem?_eq_some_iff.1 r3).1 (h.ne e rfl)).trans r3
  · rw [if_pos (by omega)]
    exact hw
/-- What lies behind. -/
structure TwoEnd (V : World) (ea : α → Array Value) (Ta : TypeId) (eb : β → Array Value) (Tb : TypeId) (G1 : World → α → Prop) (G2 : World → β → Prop) (BA : α → Nat → Prop) (BB : β → Nat → Prop) (B1 B2 : Nat) (x : α) (y : β) (w : World) : Prop where
  bel : Below V.heap.size V w
  low1 : V.heap.size ≤ B1
  low2 : V.heap.size ≤ B2
  box1 : w.heap[B1]? = some (.cells (ea x) Ta (0, 0))
  box2 : w.heap[B2]? = some (.cells (eb y) Tb (0, 0))
  ne : B1 ≠ B2
  g1 : G1 w x
  g2 : G2 w y
  l1 : ∀ b, BA x b → V.heap.size ≤ b ∧ b < w.heap.size
  l2 : ∀ b, BB y b → V.heap.size ≤ b ∧ b < w.heap.size
  ap : ∀ b, BA x b → ¬ BB y b
theorem two_end (h : TwoSt V ea Ta za eb Tb zb G1 G2 BA BB 4 [true, true] v1 v2 u1 u2 w) : ∃ B1 B2 x y, u1 = .pointer (some ⟨B1, 0, none⟩) ∧ u2 = .pointer (some ⟨B2, 0, none⟩) ∧ TwoEnd V ea Ta eb Tb G1 G2 BA BB B1 B2 x y w := by
  obtain ⟨B1, B2, x, y, h⟩ := h
  obtain ⟨q1, q2, q3⟩ := h.b1 rfl
  obtain ⟨r1, r2, r3⟩ := h.b2 rfl
  rw [if_pos (by omega)] at q3 r3
  exact ⟨B1, B2, x, y, q1, r1, h.bel, q2, r2, q3, r3, h.ne rfl rfl, (h.g1 (by omega)).2 w (Fr.refl _ _), (h.g2 (by omega)).2 w (Fr.refl _ _), h.l1 (by omega), h.l2 (by omega), h.ap (by omega)⟩
end

/-- A struct of two cells stored into its block. -/
theorem store_two {w : World} {B : Nat} {a b z1 z2 : Value} {T : TypeId} (h : w.heap[B]? = some (.cells #[z1, z2] T (0, 0))) :
    (w.cell? ⟨B, 0, none⟩ = some z1 ∧ w.cell? ⟨B, 1, none⟩ = some z2 ∧ w.frozen? ⟨B, 0, none⟩ = false ∧ w.frozen? ⟨B, 1, none⟩ = false) ∧ ((w.setCell ⟨B, 0, none⟩ a).setCell ⟨B, 1, none⟩ b).heap[B]? = some (.cells #[a, b] T (0, 0)) ∧ Fr (fun k => k = B) w ((w.setCell ⟨B, 0, none⟩ a).setCell ⟨B, 1, none⟩ b) := by
  have e1 : (w.setCell ⟨B, 0, none⟩ a).heap[B]? = some (.cells #[a, z2] T (0, 0)) := heap_setCell_same w B 0 _ _ _ h
  have e2 : ((w.setCell ⟨B, 0, none⟩ a).setCell ⟨B, 1, none⟩ b).heap[B]? = some (.cells #[a, b] T (0, 0)) := heap_setCell_same _ B 1 _ _ _ e1
  refine ⟨⟨by rw [Lib.cell_of_heap h]; rfl, by rw [Lib.cell_of_heap h]; rfl, Lib.frozen_of_heap h 0, Lib.frozen_of_heap h 1⟩, e2, ⟨rfl, rfl, rfl, by simp, fun k _ hn => ?_⟩⟩
  rw [heap_setCell_other _ _ k _ hn, heap_setCell_other _ _ k _ hn]

end Go.Proofs.Ythdakljoabbghaa

/-
  Marks that two calls answer, kept apart from the variables they are laid into (stage 12). No function.
-/
namespace Go.Proofs.Ythdakljoabbghaa
open Go.RowKit

/-- Ranges, keys that lie in what was there at V. -/
def PrV (V : World) (r : Rx) : Prop := ∀ W', Below V.heap.size V W' → r.at W'
def KrV (V : World) (v : Value) (l : List Ky) : Prop := ∀ W', Below V.heap.size V W' → KK.Is W' v l

theorem mark_fr {V w w2 w' : World} {m : Mx} {P : Nat → Prop} (hV : Below V.heap.size V w) (hb2 : Below w.heap.size w w2) (hk : KK.Own w.heap.size w2 m.ksl m.ks ∨ (KK.Is w m.ksl m.ks ∧ KrV V m.ksl m.ks)) (hr : KRx.Own w.heap.size w2 m.rsl m.rs) (he : ∀ r ∈ m.rs, r.atP (PrV V) w)
    (hP : ∀ b, P b → V.heap.size ≤ b ∧ b < w.heap.size) (f : Fr P w2 w') : MIn w' m := by
  have hbV : Below V.heap.size V w' := (bel_then hV hV.size hb2).trans (f.below (by have := hV.size; have := hb2.size; omega) fun b hb => (hP b hb).1)
  refine ⟨?_, ?_, fun r hr' => (he r hr').2 w' hbV⟩
  · rcases hk with hk | hk
    · exact Kind.own_is (f.row (show w2.ownsRow w.heap.size KK.T KK.k m.ksl m.ks.length (KK.cells m.ks) from hk) fun k h1 h2 => by
        have := (World.ownsRow.lt (show w2.ownsRow w.heap.size KK.T KK.k m.ksl m.ks.length (KK.cells m.ks) from hk) k h1).1
        have := (hP k h2).2
        omega)
    · exact hk.2 w' hbV
  · exact Kind.own_is (f.row (show w2.ownsRow w.heap.size KRx.T KRx.k m.rsl m.rs.length (KRx.cells m.rs) from hr) fun k h1 h2 => by
      have := (World.ownsRow.lt (show w2.ownsRow w.heap.size KRx.T KRx.k m.rsl m.rs.length (KRx.cells m.rs) from hr) k h1).1
      have := (hP k h2).2
      omega)
/-- Marks that say mk. -/
def GMk (mk : Mk) (W : World) (m : Mx) : Prop := MIn W m ∧ m.mk' = mk
theorem gmk_own {V w w2 : World} {m : Mx} {mk : Mk} (ho : MOwn w.heap.size w2 m) (hk : m.mk' = mk) (P : Nat → Prop) (w' : World) (hP : ∀ b, P b → V.heap.size ≤ b ∧ b < w.heap.size) (f : Fr P w2 w') : GMk mk w' m := ⟨(ho.fr f fun k h => (hP k h).2).inn, hk⟩
theorem gmk_ref {V w w2 : World} {m : Mx} {mk : Mk} (hV : Below V.heap.size V w) (hb2 : Below w.heap.size w w2) (hk : m.mk' = mk) (hks : KK.Own w.heap.size w2 m.ksl m.ks ∨ (KK.Is w m.ksl m.ks ∧ KrV V m.ksl m.ks)) (hr : KRx.Own w.heap.size w2 m.rsl m.rs) (he : ∀ r ∈ m.rs, r.atP (PrV V) w) (P : Nat → Prop) (w' : World) (hP : ∀ b, P b → V.heap.size ≤ b ∧ b < w.heap.size) (f : Fr P w2 w') : GMk mk w' m := ⟨mark_fr hV hb2 hks hr he hP f, hk⟩
def encA (m : Mx) : Array Value := #[m.ksl, m.rsl]
/-- Two variables of marks. -/
abbrev TwoM (V : World) (mk1 mk2 : Mk) := TwoSt V encA 25 #[.slice none 0 0, .slice none 0 0] encA 25 #[.slice none 0 0, .slice none 0 0] (GMk mk1) (GMk mk2) (fun _ _ => False) (fun _ _ => False)
abbrev TwoMEnd (V : World) (mk1 mk2 : Mk) := TwoEnd V encA 25 encA 25 (GMk mk1) (GMk mk2) (fun _ _ => False) (fun _ _ => False)

end Go.Proofs.Ythdakljoabbghaa

/-
  'r.F = append(r.F, x)' in a region that draws: r lies in a box, its field owns a row; the field's load and x's box float. No program.
-/
namespace Go.Proofs.Ythdakljoabbghaa
open Go.RowKit

/-- k of append, address and store are done; fl: the load, x's box. -/
structure PbAt {α : Type} (K : Kind α) (T : TypeId) (N : Nat) (W : World) (x : α) (l : List α) (v : Value) (G f : Nat) (c : Array Value) (TG : TypeId) (w0 : World) (k : Nat) (fl : List Bool) (u s p : Value) (w : World) (Z : Nat) : Prop where
  row : RowSt K N W (if 1 ≤ k then p else v) (if 1 ≤ k then l ++ [x] else l) w
  ld : fl[0]? = some true → u = v
  bx : fl[1]? = some true → s = .slice (some ⟨Z, 0, none⟩) 1 1 ∧ (k = 0 → w.heap[Z]? = some (.cells (K.enc x).toArray T (0, 0)))
  box : w.heap[G]? = some (.cells (if 3 ≤ k then c.setIfInBounds f p else c) TG (0, 0))
  own : 1 ≤ k → ∀ b, p.ownBlock = some b → v.ownBlock = some b ∨ w0.heap.size ≤ b
  fr : Fr (fun b => b = G ∨ v.ownBlock = some b) w0 w
def Pb {α : Type} (K : Kind α) (T : TypeId) (N : Nat) (W : World) (x : α) (l : List α) (v : Value) (G f : Nat) (c : Array Value) (TG : TypeId) (w0 : World) (k : Nat) (fl : List Bool) (u s p : Value) (w : World) : Prop := ∃ Z, PbAt K T N W x l v G f c TG w0 k fl u s p w Z

section
variable {α : Type} {K : Kind α} {T : TypeId} {N : Nat} {W : World} {x : α} {l : List α} {v : Value} {G f : Nat} {c : Array Value} {TG : TypeId} {w0 : World} {k : Nat} {fl : List Bool} {u s p : Value} {w : World}
theorem pb_start (u s p : Value) (h : RowSt K N W v l w) (hG : w.heap[G]? = some (.cells c TG (0, 0))) : Pb K T N W x l v G f c TG w 0 [false, false] u s p w :=
  ⟨0, h, (fun e => by cases e), (fun e => by cases e), hG, (fun e => by omega), Fr.refl _ _⟩
theorem pb_fr (h : Pb K T N W x l v G f c TG w0 k fl u s p w) : Fr (fun b => b = G ∨ v.ownBlock = some b) w0 w := by
  obtain ⟨Z, h⟩ := h
  exact h.fr
theorem pb_bel (h : Pb K T N W x l v G f c TG w0 k fl u s p w) : Below N W w := by
  obtain ⟨Z, h⟩ := h
  exact h.row.bel
/-- The field's load. -/
theorem pb_load {f2 : Bool} (h : Pb K T N W x l v G f c TG w0 k [false, f2] u s p w) (hk : k ≤ 2) : w.heap[G]? = some (.cells c TG (0, 0)) ∧ Pb K T N W x l v G f c TG w0 k [true, f2] v s p w := by
  obtain ⟨Z, h⟩ := h
  have hb := h.box
  rw [if_neg (by omega)] at hb
  exact ⟨hb, Z, h.row, (fun _ => rfl), h.bx, h.box, h.own, h.fr⟩
/-- x's box. -/
theorem pb_box {f1 : Bool} (h : Pb K T N W x l v G f c TG w0 k [f1, false] u s p w) : Pb K T N W x l v G f c TG w0 k [f1, true] u (.slice (some ⟨w.heap.size, 0, none⟩) 1 1) p (w.alloc (.cells (K.enc x).toArray T)) := by
  obtain ⟨Z, h⟩ := h
  have hal : Below w.heap.size w (w.alloc (.cells (K.enc x).toArray T)) := (Below.refl _ _).alloc (Nat.le_refl _) _
  exact ⟨w.heap.size, h.row.on hal, h.ld, (fun _ => ⟨rfl, fun _ => heap_alloc_new w _⟩), (hal.block G (Array.getElem?_eq_some_iff.1 h.box).1).trans h.box, h.own, h.fr.then (Fr.of_below hal) fun b hb => Or.inl hb⟩
theorem pb_row (h : Pb K T N W x l v G f c TG w0 0 [true, true] u s p w) : ∃ Z, u = v ∧ s = .slice (some ⟨Z, 0, none⟩) 1 1 ∧ w.heap[Z]? = some (.cells (K.enc x).toArray T (0, 0)) ∧ RowSt K N W v l w := by
  obtain ⟨Z, h⟩ := h
  exact ⟨Z, h.ld rfl, (h.bx rfl).1, (h.bx rfl).2 rfl, h.row⟩
theorem pb_push {g cap : Nat} {w' : World} (h : Pb K T N W x l v G f c TG w0 0 [true, true] u s p w) (hG : ∀ b, v.ownBlock = some b → b ≠ G) (hst : RowSt K N W (.slice (some ⟨g, 0, none⟩) (l.length + 1) cap) (l ++ [x]) w') (hg : w.grownBy w' v.ownBlock) (hat : v.ownBlock = some g ∨ g = w.heap.size) : Pb K T N W x l v G f c TG w0 1 [true, true] u s (.slice (some ⟨g, 0, none⟩) (l.length + 1) cap) w' := by
  obtain ⟨Z, h⟩ := h
  have hb : w.heap[G]? = some (.cells c TG (0, 0)) := h.box
  refine ⟨Z, hst, h.ld, (fun _ => ⟨(h.bx rfl).1, fun e => by omega⟩), (hg.block G (Array.getElem?_eq_some_iff.1 hb).1 (fun e => hG G e.symm rfl)).trans hb, (fun _ b hb => ?_), h.fr.then (Fr.of_grown hg fun k hk => hk) fun b hb => Or.inl (Or.inr hb)⟩
  rw [slice_own hb]
  rcases hat with h1 | h1
  · exact Or.inl h1
  · exact Or.inr (by have := h.fr.size; omega)
/-- The address turns nothing. -/
theorem pb_on (h : Pb K T N W x l v G f c TG w0 1 fl u s p w) : Pb K T N W x l v G f c TG w0 2 fl u s p w := by
  obtain ⟨Z, h⟩ := h
  exact ⟨Z, h.row, h.ld, (fun e => ⟨(h.bx e).1, fun e => by omega⟩), h.box, (fun _ => h.own (by omega)), h.fr⟩
/-- The store. -/
theorem pb_store (h : Pb K T N W x l v G f c TG w0 2 fl u s p w) (hNG : N ≤ G) (hG : ∀ b, p.ownBlock = some b → b ≠ G) : w.heap[G]? = some (.cells c TG (0, 0)) ∧ Pb K T N W x l v G f c TG w0 3 fl u s p (w.setCell ⟨G, f, none⟩ p) := by
  obtain ⟨Z, h⟩ := h
  have hb : w.heap[G]? = some (.cells c TG (0, 0)) := h.box
  have hr : RowSt K N W p (l ++ [x]) w := h.row
  have hf : Fr (fun b => b = G) w (w.setCell ⟨G, f, none⟩ p) := ⟨rfl, rfl, rfl, by simp, fun k _ hn => heap_setCell_other _ _ k _ hn⟩
  have hf' := h.fr.then (hf.mono (Q := fun b => b = G ∨ v.ownBlock = some b) fun b hb => Or.inl hb) fun b hb => Or.inl hb
  refine ⟨hb, Z, ⟨hf.row (show w.ownsRow N K.T K.k p (l ++ [x]).length (K.cells (l ++ [x])) from hr.own) fun b h1 h2 => hG b h1 h2, hr.bel.trans (hf.below hr.base fun b hb => by omega), by simpa using hr.base⟩, h.ld, (fun e => ⟨(h.bx e).1, fun e => by omega⟩), heap_setCell_same _ G f _ _ _ hb, (fun _ => h.own (by omega)), hf'⟩
theorem pb_shape (h : Pb K T N W x l v G f c TG w0 k fl u s p w) (hk : 1 ≤ k) : ∃ pp cc, p = .slice pp (l.length + 1) cc := by
  obtain ⟨Z, h⟩ := h
  have hr := h.row.own
  rw [if_pos hk, if_pos hk] at hr
  obtain ⟨pp, cc, e⟩ := Kind.own_shape hr
  exact ⟨pp, cc, by rw [e, List.length_append]; rfl⟩
theorem pb_shape2 (h : Pb K T N W x l v G f c TG w0 k fl u s p w) (hk : 1 ≤ k) : ∃ g cc, p = .slice (some ⟨g, 0, none⟩) (l.length + 1) cc := by
  obtain ⟨Z, h⟩ := h
  have hr := h.row.own
  rw [if_pos hk, if_pos hk] at hr
  have h1 : w.ownsRow N K.T K.k p (l ++ [x]).length (K.cells (l ++ [x])) := hr
  rcases h1.2 with ⟨_, h2⟩ | ⟨g, cap, cur, h2, _⟩
  · simp at h2
  · exact ⟨g, cap, by rw [h2, List.length_append]; rfl⟩
theorem pb_off (h : Pb K T N W x l v G f c TG w0 k fl u s p w) (hk : 1 ≤ k) (hG : ∀ b, v.ownBlock = some b → b ≠ G) (hlt : G < w0.heap.size) : ∀ b, p.ownBlock = some b → b ≠ G := fun b hb => by
  obtain ⟨Z, h⟩ := h
  rcases h.own hk b hb with h1 | h1
  · exact hG b h1
  · omega
theorem pb_end (h : Pb K T N W x l v G f c TG w0 3 fl u s p w) : RowSt K N W p (l ++ [x]) w ∧ w.heap[G]? = some (.cells (c.setIfInBounds f p) TG (0, 0)) ∧ Fr (fun b => b = G ∨ v.ownBlock = some b) w0 w ∧ ∀ b, p.ownBlock = some b → v.ownBlock = some b ∨ w0.heap.size ≤ b := by
  obtain ⟨Z, h⟩ := h
  exact ⟨h.row, h.box, h.fr, h.own (by omega)⟩
end

end Go.Proofs.Ythdakljoabbghaa

/-
  The reference's marks (stage 12): Marks, a copy. (Written by mkmr6.py.)
-/
namespace Go.Proofs.Ythdakljoabbghaa
open Go.RowKit

theorem Try.infoKy12 : (Try.prog.info? 27).map (fun i => (i.zero, i.size, i.bytes)) = some (some (.agg #[.string ⟨#[]⟩, .string ⟨#[]⟩]), 2, 32) := by kernel_rfl
theorem Try.infoTm12 : (Try.prog.info? 58).map (fun i => (i.zero, i.size, i.bytes)) = some (some (.agg #[.string ⟨#[]⟩, .int .i64 0, .string ⟨#[]⟩]), 3, 40) := by kernel_rfl

/-- Between two keys: G holds them, in a row of their own. -/
structure CpK (V : World) (G : Nat) (l : List Ky) (p : Option Addr) (c : Nat) (w : World) : Prop where
  box : w.heap[G]? = some (.cells #[.slice p l.length c, .slice none 0 0] 25 (0, 0))
  row : RowSt KK G V (.slice p l.length c) l w
  off : ∀ b, (Value.slice p l.length c).ownBlock = some b → b ≠ G

/-- Between two ranges. -/
structure CpR (V : World) (G : Nat) (ks : List Ky) (kp : Option Addr) (kc : Nat) (L : List Rx) (p : Option Addr) (c : Nat) (w : World) : Prop where
  box : w.heap[G]? = some (.cells #[.slice kp ks.length kc, .slice p L.length c] 25 (0, 0))
  keys : RowSt KK G V (.slice kp ks.length kc) ks w
  koff : ∀ b, (Value.slice kp ks.length kc).ownBlock = some b → b ≠ G
  row : RowSt KRx G V (.slice p L.length c) L w
  off : ∀ b, (Value.slice p L.length c).ownBlock = some b → b ≠ G ∧ ¬ (Value.slice kp ks.length kc).ownBlock = some b
  each : ∀ r ∈ L, KM.Own (G + 1) w r.sl r.tm ∧ FitP r.tm ∧ ∀ b, r.sl.ownBlock = some b → ¬ (Value.slice p L.length c).ownBlock = some b
  apart : ApartR L

theorem CpR.on {V : World} {G : Nat} {ks : List Ky} {kp : Option Addr} {kc : Nat} {L : List Rx} {p : Option Addr} {c : Nat} {w w' : World} (h : CpR V G ks kp kc L p c w) (hb : Below w.heap.size w w') : CpR V G ks kp kc L p c w' :=
  ⟨(hb.block G (Array.getElem?_eq_some_iff.1 h.box).1).trans h.box, h.keys.on hb, h.koff, h.row.on hb, h.off, fun r hr => ⟨Kind.own_on (h.each r hr).1 hb, (h.each r hr).2⟩, h.apart⟩

/-- One range more. -/
theorem CpR.push {V : World} {G : Nat} {ks : List Ky} {kp : Option Addr} {kc : Nat} {L : List Rx} {p : Option Addr} {c : Nat} {w w' : World} {g c' : Nat} {x : Rx} {n : Nat} (h : CpR V G ks kp kc L p c w) (hn : n = L.length + 1)
    (hst : RowSt KRx G V (.slice (some ⟨g, 0, none⟩) n c') (L ++ [x]) w') (hbox : w'.heap[G]? = some (.cells #[.slice kp ks.length kc, .slice (some ⟨g, 0, none⟩) n c'] 25 (0, 0)))
    (hf : Fr (fun b => b = G ∨ (Value.slice p L.length c).ownBlock = some b) w w') (hg : (Value.slice p L.length c).ownBlock = some g ∨ w.heap.size ≤ g)
    (hx : KM.Own (G + 1) w x.sl x.tm ∧ FitP x.tm) (hxo : ∀ b, x.sl.ownBlock = some b → ¬ (Value.slice p L.length c).ownBlock = some b ∧ ∀ r ∈ L, ¬ r.sl.ownBlock = some b) : CpR V G ks kp kc (L ++ [x]) (some ⟨g, 0, none⟩) c' w' := by
  subst hn
  have hlt : ∀ {α : Type} {K : Kind α} {N : Nat} {v : Value} {l : List α}, K.Own N w v l → ∀ b, v.ownBlock = some b → N ≤ b ∧ b < w.heap.size := fun {α} {K} {N} {v} {l} ho b hb => World.ownsRow.lt (show w.ownsRow N K.T K.k v l.length (K.cells l) from ho) b hb
  have hG := (Array.getElem?_eq_some_iff.1 h.box).1
  have hown : ∀ b, (Value.slice (some ⟨g, 0, none⟩) (L.length + 1) c').ownBlock = some b → (Value.slice p L.length c).ownBlock = some b ∨ w.heap.size ≤ b := fun b hb => by rw [slice_own hb]; exact hg
  have hlen : (L ++ [x]).length = L.length + 1 := by simp
  refine ⟨by rw [hlen]; exact hbox, ⟨hf.row (show w.ownsRow G KK.T KK.k _ ks.length (KK.cells ks) from h.keys.own) fun b h1 h2 => ?_, hst.bel, hst.base⟩, h.koff, by rw [hlen]; exact hst, fun b hb => ?_, fun r hr => ?_, ?_⟩
  · rcases h2 with h2 | h2
    · exact h.koff b h1 h2
    · exact (h.off b h2).2 h1
  · rw [hlen] at hb
    rcases hown b hb with h1 | h1
    · exact h.off b h1
    · refine ⟨by omega, fun h2 => ?_⟩
      have := (hlt h.keys.own b h2).2
      omega
  · have hr' : KM.Own (G + 1) w r.sl r.tm ∧ FitP r.tm ∧ ∀ b, r.sl.ownBlock = some b → ¬ (Value.slice p L.length c).ownBlock = some b := by
      rcases List.mem_append.1 hr with h1 | h1
      · exact h.each r h1
      · rw [List.mem_singleton] at h1
        subst h1
        exact ⟨hx.1, hx.2, fun b hb => (hxo b hb).1⟩
    refine ⟨hf.row (show w.ownsRow (G + 1) KM.T KM.k r.sl r.tm.length (KM.cells r.tm) from hr'.1) fun b h1 h2 => ?_, hr'.2.1, fun b hb h2 => ?_⟩
    · rcases h2 with h2 | h2
      · have := (hlt hr'.1 b h1).1
        omega
      · exact hr'.2.2 b h1 h2
    · rw [hlen] at h2
      rcases hown b h2 with h3 | h3
      · exact hr'.2.2 b hb h3
      · have := (hlt hr'.1 b hb).2
        omega
  · unfold ApartR
    rw [List.pairwise_append]
    refine ⟨h.apart, List.pairwise_singleton _ _, fun r hr y hy k h1 h2 => ?_⟩
    rw [List.mem_singleton] at hy
    subst hy
    exact (hxo k h2).2 r hr h1
/-- Keys that are copied make room for ranges. -/
theorem CpK.done {V : World} {G : Nat} {l : List Ky} {p : Option Addr} {c : Nat} {w : World} (h : CpK V G l p c w) : CpR V G l p c [] none 0 w :=
  ⟨h.box, h.row, h.off, RowSt.nil KRx h.row.bel h.row.base, (fun b hb => by cases hb), (fun r hr => by cases hr), List.Pairwise.nil⟩

set_option linter.unusedSimpArgs false in
set_option maxHeartbeats 16000000 in
set_option maxRecDepth 100000 in
theorem marks12_any (m : Mx) (w : World) (hm : MIn w m) (hw : FewM m) (hft : ∀ r ∈ m.rs, r.tm.length < 1500000000000) :
    Calls Try.prog 27 #[.agg (encMx m).toArray] w fun e w' => MOwnPost w m.mk' e w' := by
  obtain ⟨i0, hi0, hz0, hz1, hz2⟩ := info_parts Try.infoKy12
  obtain ⟨i1, hi1, hy0, hy1, hy2⟩ := info_parts Try.infoRx
  obtain ⟨i2, hi2, hx0, hx1, hx2⟩ := info_parts Try.infoTm12
  have HIi0 := hid hi0
  have HIi1 := hid hi1
  have HIi2 := hid hi2
  obtain ⟨V, hV⟩ : ∃ V, ((w.alloc (.cells (encMx m).toArray 25)).alloc (.cells #[.slice none 0 0, .slice none 0 0] 25)).alloc (.cells #[.slice none 0 0, .slice none 0 0] 25) = V := ⟨_, rfl⟩
  obtain ⟨M, hM⟩ : ∃ M, w.heap.size = M := ⟨_, rfl⟩
  obtain ⟨hbV, h1, h2, h3, hs⟩ := three_boxes w _ _ _ _ _ _ V hV
  rw [hM] at h1 h2 h3 hs
  have HIN : Hid (∀ W', Below (M + 2) V W' → MIn W' m ∧ Below w.heap.size w W' ∧ (W'.cell? ⟨M, 0, none⟩ = some m.ksl ∧ W'.cell? ⟨M, 1, none⟩ = some m.rsl) ∧ W'.heap[M + 1]? = some (.cells #[.slice none 0 0, .slice none 0 0] 25 (0, 0))) := fun W' hW => by
    have hb : Below w.heap.size w W' := hbV.trans (hW.mono (by omega))
    have e1 := (hW.block M (by omega)).trans h1
    exact ⟨hm.on hb, hb, ⟨by rw [Lib.cell_of_heap e1]; rfl, by rw [Lib.cell_of_heap e1]; rfl⟩, (hW.block (M + 1) (by omega)).trans h2⟩
  have HC0 : Hid (CpK V (M + 2) (m.ks.take 0) none 0 V) := ⟨h3, RowSt.nil KK (Below.refl _ _) (by omega), fun b hb => by cases hb⟩
  obtain ⟨hw1, hw2⟩ := hw
  have HFT := hid hft
  obtain ⟨_, _, ⟨a0, a1⟩, _⟩ := HIN.out V (Below.refl _ _)
  clear hm hbV h1 h2 h3 hi0 hi1 hi2 hft
  obtain ⟨kp, kc, ks, rp, rc, rs⟩ := m
  simp only [encMx, Mx.ksl, Mx.rsl] at *
  go_enter Try.func27, Try.ntmps27
  go_wp2_with fail
  try rw [hV]
  try rw [hM]
  try simp only [Nat.add_assoc, Nat.reduceAdd]
  clear hV a0 a1
  go_loopg [4] ks.length (fun gg vi wr => ∃ (i : Nat) (p : Option Addr) (c : Nat), vi = .int .i64 i ∧ i ≤ ks.length ∧ ks.length - i ≤ gg ∧ Hid (CpK V (M + 2) (ks.take i) p c wr))
  case atStart => exact ⟨0, none, 0, rfl, by omega, by omega, HC0.out⟩
  case round =>
    clear HC0
    obtain ⟨i, p, c, rfl, hi, hgk, HI⟩ := hrel
    obtain ⟨hma, _, ⟨a0, a1⟩, _⟩ := HIN.out wr HI.out.row.bel
    by_cases hlt : i < ks.length
    · have hltz : (i : Int) < (ks.length : Int) := by omega
      have hiz : (0 : Int) ≤ i := by omega
      obtain ⟨b7, o7, rfl, _⟩ : ∃ b off, kp = some ⟨b, off, none⟩ ∧ KK.At wr b off ks := by
        obtain ⟨p', c', he, h⟩ := hma.keys
        injection he with e1 _ _
        subst e1
        rcases h with h | h
        · have h' : ks = [] := h
          rw [h'] at hlt; simp at hlt
        · exact h
      have HCE : Hid (∀ W, Below (M + 2) V W → W.cell? ⟨M, 0, none⟩ = some (.slice (some ⟨b7, o7, none⟩) ks.length kc) ∧ W.cell? ⟨b7, o7 + i * 2, none⟩ = some (.string (ks[i]).1) ∧ W.cell? ⟨b7, o7 + i * 2 + 1, none⟩ = some (.string (ks[i]).2)) := fun W hW => by
        obtain ⟨hq, _, ⟨q0, _⟩, _⟩ := HIN.out W hW
        obtain ⟨p', c', he, h⟩ := hq.keys
        injection he with e1 _ _
        subst e1
        rcases h with h | ⟨b', o', e2, h⟩
        · have h' : ks = [] := h
          rw [h'] at hlt; simp at hlt
        · injection e2 with e2
          injection e2 with e3 e4 e5
          subst e3 e4
          exact ⟨q0, h i hlt 0 _ rfl, h i hlt 1 _ rfl⟩
      have HTK : Hid (ks.take (i + 1) = ks.take i ++ [ks[i]]) := List.take_succ_eq_append_getElem hlt
      have hal : (ks.take i).length ≤ i := by rw [List.length_take]; omega
      generalize ks[i] = k at *
      generalize ks.take i = A at *
      have HROW : Hid (RowSt KK (M + 2) V (.slice p A.length c) A wr.drew) := HI.out.row.on (bel_drewN (Below.refl _ _) 1)
      have HBX : Hid (wr.drew.heap[M + 2]? = some (.cells #[.slice p A.length c, .slice none 0 0] 25 (0, 0))) := HI.out.box
      have HOF := hid HI.out.off
      have HLT : Hid (M + 2 < wr.drew.heap.size) := (Array.getElem?_eq_some_iff.1 HI.out.box).1
      clear hma HI
      obtain ⟨ka, kb⟩ := k
      go_upto_region 5 with fail
      clear a0 a1
      refine wp_region_held_drew (S := fun W => W.cell? ⟨M, 0, none⟩ = some (.slice (some ⟨b7, o7, none⟩) ks.length kc) ∧ W.cell? ⟨b7, o7 + i * 2, none⟩ = some (.string ka) ∧ W.cell? ⟨b7, o7 + i * 2 + 1, none⟩ = some (.string kb)) (by kernel_rfl) (HCE.out wr.drew HROW.out.bel) (fun hHeld => ?_)
      refine take_val (i := 0) (.pointer (some ⟨M + 2, 0, none⟩)) rfl (by kernel_rfl) (by kernel_rfl) (by kernel_rfl) (fun _ _ _ h => h) (by rfl) (fun w hSw => by go_simp) hHeld ?_
      simp only [Act.put, List.setIfInBounds_toArray, List.set_cons_zero, List.set_cons_succ]
      refine take_val (i := 2) (.pointer (some ⟨M, 0, none⟩)) rfl (by kernel_rfl) (by kernel_rfl) (by kernel_rfl) (fun _ _ _ h => h) (by rfl) (fun w hSw => by go_simp) hHeld ?_
      simp only [Act.put, List.setIfInBounds_toArray, List.set_cons_zero, List.set_cons_succ]
      refine take_val (i := 3) (.slice (some ⟨b7, o7, none⟩) ks.length kc) rfl (by kernel_rfl) (by kernel_rfl) (by kernel_rfl) (fun _ _ _ h => h) (by rfl) (fun w hSw => by go_simp) hHeld ?_
      simp only [Act.put, List.setIfInBounds_toArray, List.set_cons_zero, List.set_cons_succ]
      refine take_val (i := 4) (.int .i64 i) rfl (by kernel_rfl) (by kernel_rfl) (by kernel_rfl) (fun _ _ _ h => h) (by rfl) (fun w hSw => by go_simp) hHeld ?_
      simp only [Act.put, List.setIfInBounds_toArray, List.set_cons_zero, List.set_cons_succ]
      refine take_val (i := 5) (.pointer (some ⟨b7, o7 + i * 2, none⟩)) rfl (by kernel_rfl) (by kernel_rfl) (by kernel_rfl) (fun _ _ _ h => h) (by rfl) (fun w hSw => by go_simp) hHeld ?_
      simp only [Act.put, List.setIfInBounds_toArray, List.set_cons_zero, List.set_cons_succ]
      refine take_val (i := 6) (.agg #[.string ka, .string kb]) rfl (by kernel_rfl) (by kernel_rfl) (by kernel_rfl) (fun _ _ _ h => h) (by rfl) (fun w hSw => by go_simp) hHeld ?_
      simp only [Act.put, List.setIfInBounds_toArray, List.set_cons_zero, List.set_cons_succ]
      clear hHeld
      refine wpAnyH_floats [8, 9, 10] [1, 7] (fun a0 k fl a w' => ∃ tu ts tp tq, a = putS a0 [(16, tu), (22, ts), (23, tp), (24, tq)] ∧ Pb KK 27 (M + 2) V (ka, kb) A (.slice p A.length c) (M + 2) 0 #[.slice p A.length c, .slice none 0 0] 25 wr.drew k fl tu ts tp w' ∧ (2 ≤ k → tq = .pointer (some ⟨(M + 2), 0, none⟩)) ∧ (1 ≤ k → fl = [true, true])) (by kernel_rfl) (by decide) ⟨_, _, _, _, (putS_self _ [16, 22, 23, 24]).symm, pb_start _ _ _ HROW.out HBX.out, (fun h => by omega), (fun h => by omega)⟩ ?hS ?hmain ?halloc ?hend
      case hS =>
        rintro k fl a w' ⟨tu, ts, tp, tq, _, h, _⟩
        exact HCE.out w' (pb_bel h)
      case hmain =>
        rintro k i' fl a w' hk hfl hrd ⟨tu, ts, tp, tq, rfl, hst, hq, hfe⟩
        obtain ⟨f1, f2, rfl⟩ : ∃ f1 f2, fl = [f1, f2] := by
          match fl, hfl with
          | [f1, f2], _ => exact ⟨f1, f2, rfl⟩
        rcases k with _ | _ | _ | k
        · obtain rfl : i' = 8 := by simpa using hk.symm
          cases f1 with
          | false => exact (not_ready hrd (by cases f2 <;> kernel_rfl)).elim
          | true =>
            cases f2 with
            | false => exact (not_ready hrd (by kernel_rfl)).elim
            | true =>
              obtain ⟨Z1, rfl, rfl, hbx, hrow⟩ := pb_row hst
              refine ⟨_, at_drop0 rfl, fun K hK => ?_⟩
              simp only [putS, List.foldl_cons, List.foldl_nil, Act.put, List.setIfInBounds_toArray, List.set_cons_zero, List.set_cons_succ]
              rw [if_pos (by rfl)]
              refine wp_push KK rfl _ _ 22 rfl i0 _ 32 Try.underlying22 HIi0.out hz0 hz1 hz2 rfl (M + 2) V (.slice p A.length c) A (by rfl) hrow (ka, kb) Z1 1 1 rfl (by rfl) 27 (0, 0) hbx (by unfold maxLen; omega) (by omega) ?_
              intro g cc w3 h1 h2 h3
              exact hK.out _ _ ⟨_, _, _, tq, rfl, pb_push hst HOF.out h1 h2 h3, (fun h => by omega), (fun _ => rfl)⟩
        · obtain rfl : i' = 9 := by simpa using hk.symm
          have HST2 := hid (pb_on hst)
          have HFE := hid (hfe (by omega))
          clear hrd hst hq hfe
          refine ⟨_, at_drop0 rfl, fun K hK => ?_⟩
          simp only [putS, List.foldl_cons, List.foldl_nil, Act.put, List.setIfInBounds_toArray, List.set_cons_zero, List.set_cons_succ]
          rw [if_pos (by rfl)]
          go_simp
          go_wp2_with fail
          exact hK.out _ _ ⟨tu, ts, tp, _, rfl, HST2.out, (fun _ => rfl), (fun _ => HFE.out)⟩
        · obtain rfl : i' = 10 := by simpa using hk.symm
          obtain rfl : tq = .pointer (some ⟨(M + 2), 0, none⟩) := hq (by omega)
          obtain ⟨hb2, hst2⟩ := pb_store hst (Nat.le_refl _) (pb_off hst (by omega) HOF.out HLT.out)
          obtain ⟨pp, cc, rfl⟩ := pb_shape hst (by omega)
          have HST2 := hid hst2
          have HFE := hid (hfe (by omega))
          have c0 : w'.cell? ⟨(M + 2), 0, none⟩ = some (.slice p A.length c) := by rw [Lib.cell_of_heap hb2]; rfl
          have z0 : w'.frozen? ⟨(M + 2), 0, none⟩ = false := Lib.frozen_of_heap hb2 0
          clear hrd hst hq hfe hst2 hb2
          refine ⟨_, at_drop0 rfl, fun K hK => ?_⟩
          simp only [putS, List.foldl_cons, List.foldl_nil, Act.put, List.setIfInBounds_toArray, List.set_cons_zero, List.set_cons_succ]
          rw [if_pos (by rfl)]
          go_simp
          go_wp2_with fail
          exact hK.out _ _ ⟨tu, ts, _, _, rfl, HST2.out, (fun _ => rfl), (fun _ => HFE.out)⟩
        · simp at hk
      case halloc =>
        rintro j i' k fl a w' hj hk hfl hf ⟨tu, ts, tp, tq, rfl, hst, hq, hfe⟩
        obtain ⟨f1, f2, rfl⟩ : ∃ f1 f2, fl = [f1, f2] := by
          match fl, hfl with
          | [f1, f2], _ => exact ⟨f1, f2, rfl⟩
        have hk0 : k = 0 := by
          rcases Nat.eq_zero_or_pos k with h | h
          · exact h
          · have := hfe h
            rcases j with _ | _ | j
            · simp at this hf; simp_all
            · simp at this hf; simp_all
            · simp at hj
        subst hk0
        rcases j with _ | _ | j
        · obtain rfl : i' = 1 := by simpa using hj.symm
          obtain rfl : f1 = false := by simpa using hf
          obtain ⟨hb2, hst2⟩ := pb_load hst (by omega)
          have HST2 := hid hst2
          have c0 : w'.cell? ⟨(M + 2), 0, none⟩ = some (.slice p A.length c) := by rw [Lib.cell_of_heap hb2]; rfl
          clear hst hf hj hk hq hst2 hfe hb2
          refine ⟨_, at_drop0 rfl, fun K hK => ?_⟩
          simp only [putS, List.foldl_cons, List.foldl_nil, Act.put, List.setIfInBounds_toArray, List.set_cons_zero, List.set_cons_succ]
          rw [if_pos (by rfl)]
          go_simp
          go_wp2_with fail
          exact hK.out _ _ ⟨_, ts, tp, tq, rfl, HST2.out, (fun h => by omega), (fun h => by omega)⟩
        · obtain rfl : i' = 7 := by simpa using hj.symm
          obtain rfl : f2 = false := by simpa using hf
          have HST2 := hid (pb_box hst)
          clear hst hf hj hk hq hfe
          refine ⟨_, at_drop0 rfl, fun K hK => ?_⟩
          simp only [putS, List.foldl_cons, List.foldl_nil, Act.put, List.setIfInBounds_toArray, List.set_cons_zero, List.set_cons_succ]
          rw [if_pos (by rfl)]
          go_simp
          go_wp2_with fail
          exact hK.out _ _ ⟨tu, _, tp, tq, rfl, HST2.out, (fun h => by omega), (fun h => by omega)⟩
        · simp at hj
      case hend =>
        rintro a w3 ⟨u, s, p2, q, rfl, hst, _, _⟩
        obtain ⟨q1, q2, q3, q4⟩ := pb_end hst
        have q5 := pb_off hst (by decide) HOF.out HLT.out
        obtain ⟨pp, cc, rfl⟩ := Kind.own_shape q1.own
        have HE : Hid (CpK V (M + 2) (ks.take (i + 1)) pp cc w3) := by
          rw [HTK.out]
          exact ⟨q2, q1, q5⟩
        clear hst q1 q2 q3 q4 q5
        simp only [putS, List.foldl_cons, List.foldl_nil, Act.put, List.setIfInBounds_toArray, List.set_cons_zero, List.set_cons_succ]
        go_wp2_with fail
        go_roundg (ks.length - (i + 1))
        case measure => omega
        exact ⟨i + 1, pp, cc, by go_num, by omega, by omega, HE.out⟩
    · have hltz : ¬ (i : Int) < (ks.length : Int) := by omega
      have hti : ks.take i = ks := List.take_of_length_le (by omega)
      have HR0 : Hid (CpR V (M + 2) ks p c [] none 0 wr) := by
        have := HI.out
        rw [hti] at this
        exact this.done
      clear HI hti
      go_wp2_with fail
      clear a0 a1 hma hltz hlt hi hgk
      go_loopg [5] rs.length (fun gg vi wr => ∃ (i : Nat) (L : List Rx) (lp : Option Addr) (lc : Nat), vi = .int .i64 i ∧ i ≤ rs.length ∧ rs.length - i ≤ gg ∧ L.length ≤ i ∧ Hid (CpR V (M + 2) ks p c L lp lc wr ∧ L.map Rx.rg = (rs.take i).map Rx.rg))
      case atStart => exact ⟨0, [], none, 0, rfl, by omega, by omega, by simp, HR0.out, by simp⟩
      case round =>
        clear HR0
        obtain ⟨i2', L, lp, lc, rfl, hi, hgk, hLl, HI⟩ := hrel
        rename World => W2
        obtain ⟨hma, _, ⟨a0, a1⟩, hres⟩ := HIN.out W2 HI.out.1.row.bel
        by_cases hlt : i2' < rs.length
        · have hltz : (i2' : Int) < (rs.length : Int) := by omega
          have hiz : (0 : Int) ≤ i2' := by omega
          obtain ⟨b8, o8, rfl, _⟩ : ∃ b off, rp = some ⟨b, off, none⟩ ∧ KRx.At W2 b off rs := by
            obtain ⟨p', c', he, h⟩ := hma.rows
            injection he with e1 _ _
            subst e1
            rcases h with h | h
            · have h' : rs = [] := h
              rw [h'] at hlt; simp at hlt
            · exact h
          have HCE : Hid (∀ W, Below (M + 2) V W → (W.cell? ⟨M, 1, none⟩ = some (.slice (some ⟨b8, o8, none⟩) rs.length rc) ∧ W.cell? ⟨b8, o8 + i2' * 2, none⟩ = some (.string (rs[i2']).typ) ∧ W.cell? ⟨b8, o8 + i2' * 2 + 1, none⟩ = some (rs[i2']).sl) ∧ (rs[i2']).at W) := fun W hW => by
            obtain ⟨hq, _, ⟨_, q1⟩, _⟩ := HIN.out W hW
            obtain ⟨p', c', he, h⟩ := hq.rows
            injection he with e1 _ _
            subst e1
            rcases h with h | ⟨b', o', e2, h⟩
            · have h' : rs = [] := h
              rw [h'] at hlt; simp at hlt
            · injection e2 with e2
              injection e2 with e3 e4 e5
              subst e3 e4
              exact ⟨⟨q1, h i2' hlt 0 _ rfl, h i2' hlt 1 _ rfl⟩, hq.each _ (List.getElem_mem hlt)⟩
          have HTK : Hid ((rs.take (i2' + 1)).map Rx.rg = (rs.take i2').map Rx.rg ++ [(rs[i2']).rg]) := by
            show _ = _
            rw [List.take_succ_eq_append_getElem hlt, List.map_append]
            rfl
          have hrt := HFT.out _ (List.getElem_mem hlt)
          generalize rs[i2'] = r at *
          have HP0 : Hid (RowSt KM W2.heap.size W2 (.slice none 0 0) (r.tm.take 0) W2) := RowSt.nil KM (Below.refl _ _) (Nat.le_refl _)
          have HBV : Hid (∀ W, Below W2.heap.size W2 W → Below (M + 2) V W) := fun W hW => HI.out.1.row.bel.trans (hW.mono HI.out.1.row.base)
          clear hma
          obtain ⟨xt, xp, xc, xm⟩ := r
          simp only [Rx.sl] at *
          go_wp2_with fail
          clear a0 a1
          go_loopg [6, 7] xm.length (fun gg v6 vj wr => ∃ (j : Nat) (pp : Option Addr) (pc : Nat), vj = .int .i64 j ∧ v6 = .slice pp (xm.take j).length pc ∧ j ≤ xm.length ∧ xm.length - j ≤ gg ∧ Hid (RowSt KM W2.heap.size W2 (.slice pp (xm.take j).length pc) (xm.take j) wr))
          case atStart => exact ⟨0, none, 0, rfl, rfl, by omega, by omega, HP0.out⟩
          case round =>
            clear HP0
            obtain ⟨j, pp, pc, rfl, rfl, hj, hgj, HJ⟩ := hrel
            obtain ⟨⟨c0, c1, c2⟩, hat⟩ := HCE.out wr (HBV.out wr HJ.out.bel)
            by_cases hjt : j < xm.length
            · have hjz : (j : Int) < (xm.length : Int) := by omega
              have hj0 : (0 : Int) ≤ j := by omega
              obtain ⟨b9, o9, rfl, k9⟩ : ∃ b off, xp = some ⟨b, off, none⟩ ∧ KM.At wr b off xm := by
                obtain ⟨p', c', he, h⟩ := hat.1
                unfold Rx.sl at he
                injection he with e1 _ _
                subst e1
                rcases h with h | h
                · have h' : xm = [] := h
                  rw [h'] at hjt; simp at hjt
                · exact h
              have y0 : wr.cell? ⟨b9, o9 + j * 3, none⟩ = some (.string (xm[j]).1) := k9 j hjt 0 _ rfl
              have y1 : wr.cell? ⟨b9, o9 + j * 3 + 1, none⟩ = some (.int .i64 (xm[j]).2.1) := k9 j hjt 1 _ rfl
              have y2 : wr.cell? ⟨b9, o9 + j * 3 + 2, none⟩ = some (.string (xm[j]).2.2) := k9 j hjt 2 _ rfl
              have HTJ : Hid (xm.take (j + 1) = xm.take j ++ [xm[j]]) := List.take_succ_eq_append_getElem hjt
              have hkl : (xm.take j).length ≤ j := by rw [List.length_take]; omega
              generalize xm[j] = t at *
              generalize xm.take j = Bt at *
              obtain ⟨tf, tn, tx⟩ := t
              simp only at y0 y1 y2
              obtain ⟨W1, hW1⟩ : ∃ W1, wr.alloc (.cells #[.string tf, .int .i64 tn, .string tx] 58) = W1 := ⟨_, rfl⟩
              have hb1 : Below wr.heap.size wr W1 := by rw [← hW1]; exact (Below.refl _ _).alloc (Nat.le_refl _) _
              have HN1 : Hid (W1.heap[wr.heap.size]? = some (.cells #[.string tf, .int .i64 tn, .string tx] 58 (0, 0))) := by rw [← hW1]; exact heap_alloc_new wr _
              have HO1 := hid (HJ.out.on hb1)
              clear hb1 HJ k9 hat
              go_wp2_with (at_builtin; refine wpList_push KM rfl _ _ 32 rfl i2 _ 40 Try.underlying32 HIi2.out hx0 hx1 hx2 rfl W2.heap.size W2 _ Bt rfl HO1.out (tf, tn, tx) _ _ _ rfl rfl _ _ HN1.out (by unfold maxLen; omega) (by omega) ?_
                           intro g3 c3 w3 hst3 _ _
                           have HS3 := hid hst3
                           clear hst3)
              go_roundg (xm.length - (j + 1))
              case measure => omega
              exact ⟨j + 1, some ⟨g3, 0, none⟩, c3, by go_num, by rw [HTJ.out, List.length_append]; rfl, by omega, by omega, by rw [HTJ.out, List.length_append]; exact HS3.out⟩
            · have hjz : ¬ (j : Int) < (xm.length : Int) := by omega
              have htj : xm.take j = xm := List.take_of_length_le (by omega)
              rw [htj] at HJ ⊢
              have hbJ := HJ.out.bel
              have hC := HI.out.1.on hbJ
              have HROW : Hid (RowSt KRx (M + 2) V (.slice lp L.length lc) L wr.drew) := hC.row.on (bel_drewN (Below.refl _ _) 1)
              have HBX : Hid (wr.drew.heap[M + 2]? = some (.cells #[.slice p ks.length c, .slice lp L.length lc] 25 (0, 0))) := hC.box
              have HOF : Hid (∀ b, (Value.slice lp L.length lc).ownBlock = some b → b ≠ M + 2) := fun b hb => (hC.off b hb).1
              have HLT : Hid (M + 2 < wr.drew.heap.size) := (Array.getElem?_eq_some_iff.1 hC.box).1
              have HC := hid hC
              have HFM := hid hat.2
              have HEO : Hid (∀ b, (Value.slice pp xm.length pc).ownBlock = some b → ¬ (Value.slice lp L.length lc).ownBlock = some b ∧ ∀ r ∈ L, ¬ r.sl.ownBlock = some b) := fun b hb => by
                have h1 := (World.ownsRow.lt (show wr.ownsRow W2.heap.size KM.T KM.k (.slice pp xm.length pc) xm.length (KM.cells xm) from HJ.out.own) b hb).1
                refine ⟨fun h2 => ?_, fun r hr h2 => ?_⟩
                · have := (World.ownsRow.lt (show W2.ownsRow (M + 2) KRx.T KRx.k (.slice lp L.length lc) L.length (KRx.cells L) from HI.out.1.row.own) b h2).2
                  omega
                · have := (World.ownsRow.lt (show W2.ownsRow (M + 2 + 1) KM.T KM.k r.sl r.tm.length (KM.cells r.tm) from (HI.out.1.each r hr).1) b h2).2
                  omega
              have HPO : Hid (KM.Own (M + 2 + 1) wr (.slice pp xm.length pc) xm) := Kind.own_weak HJ.out.own (by have := (Array.getElem?_eq_some_iff.1 HI.out.1.box).1; omega)
              have HLE := hid HI.out.2
              have HS : Hid (∀ W, Below (M + 2) V W → W.cell? ⟨M, 1, none⟩ = some (.slice (some ⟨b8, o8, none⟩) rs.length rc) ∧ W.cell? ⟨b8, o8 + i2' * 2, none⟩ = some (.string xt) ∧ W.cell? ⟨b8, o8 + i2' * 2 + 1, none⟩ = some (.slice xp xm.length xc)) := fun W hW => (HCE.out W hW).1
              clear htj hbJ hC hat HI HJ
              go_upto_region 14 with fail
              clear c0 c1 c2
              refine wp_region_held_drew (S := fun W => W.cell? ⟨M, 1, none⟩ = some (.slice (some ⟨b8, o8, none⟩) rs.length rc) ∧ W.cell? ⟨b8, o8 + i2' * 2, none⟩ = some (.string xt) ∧ W.cell? ⟨b8, o8 + i2' * 2 + 1, none⟩ = some (.slice xp xm.length xc)) (by kernel_rfl) (HS.out wr.drew HROW.out.bel) (fun hHeld => ?_)
              refine take_val (i := 0) (.pointer (some ⟨M + 2, 1, none⟩)) rfl (by kernel_rfl) (by kernel_rfl) (by kernel_rfl) (fun _ _ _ h => h) (by rfl) (fun w hSw => by go_simp) hHeld ?_
              simp only [Act.put, List.setIfInBounds_toArray, List.set_cons_zero, List.set_cons_succ]
              refine take_val (i := 2) (.pointer (some ⟨M, 1, none⟩)) rfl (by kernel_rfl) (by kernel_rfl) (by kernel_rfl) (fun _ _ _ h => h) (by rfl) (fun w hSw => by go_simp) hHeld ?_
              simp only [Act.put, List.setIfInBounds_toArray, List.set_cons_zero, List.set_cons_succ]
              refine take_val (i := 3) (.slice (some ⟨b8, o8, none⟩) rs.length rc) rfl (by kernel_rfl) (by kernel_rfl) (by kernel_rfl) (fun _ _ _ h => h) (by rfl) (fun w hSw => by go_simp) hHeld ?_
              simp only [Act.put, List.setIfInBounds_toArray, List.set_cons_zero, List.set_cons_succ]
              refine take_val (i := 4) (.int .i64 i2') rfl (by kernel_rfl) (by kernel_rfl) (by kernel_rfl) (fun _ _ _ h => h) (by rfl) (fun w hSw => by go_simp) hHeld ?_
              simp only [Act.put, List.setIfInBounds_toArray, List.set_cons_zero, List.set_cons_succ]
              refine take_val (i := 5) (.pointer (some ⟨b8, o8 + i2' * 2, none⟩)) rfl (by kernel_rfl) (by kernel_rfl) (by kernel_rfl) (fun _ _ _ h => h) (by rfl) (fun w hSw => by go_simp) hHeld ?_
              simp only [Act.put, List.setIfInBounds_toArray, List.set_cons_zero, List.set_cons_succ]
              refine take_val (i := 6) (.pointer (some ⟨b8, o8 + i2' * 2, none⟩)) rfl (by kernel_rfl) (by kernel_rfl) (by kernel_rfl) (fun _ _ _ h => h) (by rfl) (fun w hSw => by go_simp) hHeld ?_
              simp only [Act.put, List.setIfInBounds_toArray, List.set_cons_zero, List.set_cons_succ]
              refine take_val (i := 7) (.string xt) rfl (by kernel_rfl) (by kernel_rfl) (by kernel_rfl) (fun _ _ _ h => h) (by rfl) (fun w hSw => by go_simp) hHeld ?_
              simp only [Act.put, List.setIfInBounds_toArray, List.set_cons_zero, List.set_cons_succ]
              refine take_val (i := 8) (.slice pp xm.length pc) rfl (by kernel_rfl) (by kernel_rfl) (by kernel_rfl) (fun _ _ _ h => h) (by rfl) (fun w hSw => by go_simp) hHeld ?_
              simp only [Act.put, List.setIfInBounds_toArray, List.set_cons_zero, List.set_cons_succ]
              refine take_val (i := 9) (.agg #[.string xt, .slice pp xm.length pc]) rfl (by kernel_rfl) (by kernel_rfl) (by kernel_rfl) (fun _ _ _ h => h) (by rfl) (fun w hSw => by go_simp) hHeld ?_
              simp only [Act.put, List.setIfInBounds_toArray, List.set_cons_zero, List.set_cons_succ]
              clear hHeld
              refine wpAnyH_floats [11, 12, 13] [1, 10] (fun a0 k fl a w' => ∃ tu ts tp tq, a = putS a0 [(56, tu), (65, ts), (66, tp), (67, tq)] ∧ Pb KRx 34 (M + 2) V ⟨xt, pp, pc, xm⟩ L (.slice lp L.length lc) (M + 2) 1 #[.slice p ks.length c, .slice lp L.length lc] 25 wr.drew k fl tu ts tp w' ∧ (2 ≤ k → tq = .pointer (some ⟨(M + 2), 1, none⟩)) ∧ (1 ≤ k → fl = [true, true])) (by kernel_rfl) (by decide) ⟨_, _, _, _, (putS_self _ [56, 65, 66, 67]).symm, pb_start _ _ _ HROW.out HBX.out, (fun h => by omega), (fun h => by omega)⟩ ?hS ?hmain ?halloc ?hend
              case hS =>
                rintro k fl a w' ⟨tu, ts, tp, tq, _, h, _⟩
                exact HS.out w' (pb_bel h)
              case hmain =>
                rintro k i' fl a w' hk hfl hrd ⟨tu, ts, tp, tq, rfl, hst, hq, hfe⟩
                obtain ⟨f1, f2, rfl⟩ : ∃ f1 f2, fl = [f1, f2] := by
                  match fl, hfl with
                  | [f1, f2], _ => exact ⟨f1, f2, rfl⟩
                rcases k with _ | _ | _ | k
                · obtain rfl : i' = 11 := by simpa using hk.symm
                  cases f1 with
                  | false => exact (not_ready hrd (by cases f2 <;> kernel_rfl)).elim
                  | true =>
                    cases f2 with
                    | false => exact (not_ready hrd (by kernel_rfl)).elim
                    | true =>
                      obtain ⟨Z1, rfl, rfl, hbx, hrow⟩ := pb_row hst
                      refine ⟨_, at_drop0 rfl, fun K hK => ?_⟩
                      simp only [putS, List.foldl_cons, List.foldl_nil, Act.put, List.setIfInBounds_toArray, List.set_cons_zero, List.set_cons_succ]
                      rw [if_pos (by rfl)]
                      refine wp_push KRx rfl _ _ 23 rfl i1 _ 40 Try.underlying23 HIi1.out hy0 hy1 hy2 rfl (M + 2) V (.slice lp L.length lc) L (by rfl) hrow ⟨xt, pp, pc, xm⟩ Z1 1 1 rfl (by rfl) 34 (0, 0) hbx (by unfold maxLen; omega) (by omega) ?_
                      intro g cc w3 h1 h2 h3
                      exact hK.out _ _ ⟨_, _, _, tq, rfl, pb_push hst HOF.out h1 h2 h3, (fun h => by omega), (fun _ => rfl)⟩
                · obtain rfl : i' = 12 := by simpa using hk.symm
                  have HST2 := hid (pb_on hst)
                  have HFE := hid (hfe (by omega))
                  clear hrd hst hq hfe
                  refine ⟨_, at_drop0 rfl, fun K hK => ?_⟩
                  simp only [putS, List.foldl_cons, List.foldl_nil, Act.put, List.setIfInBounds_toArray, List.set_cons_zero, List.set_cons_succ]
                  rw [if_pos (by rfl)]
                  go_simp
                  go_wp2_with fail
                  exact hK.out _ _ ⟨tu, ts, tp, _, rfl, HST2.out, (fun _ => rfl), (fun _ => HFE.out)⟩
                · obtain rfl : i' = 13 := by simpa using hk.symm
                  obtain rfl : tq = .pointer (some ⟨(M + 2), 1, none⟩) := hq (by omega)
                  obtain ⟨hb2, hst2⟩ := pb_store hst (Nat.le_refl _) (pb_off hst (by omega) HOF.out HLT.out)
                  obtain ⟨pp, cc, rfl⟩ := pb_shape hst (by omega)
                  have HST2 := hid hst2
                  have HFE := hid (hfe (by omega))
                  have c0 : w'.cell? ⟨(M + 2), 1, none⟩ = some (.slice lp L.length lc) := by rw [Lib.cell_of_heap hb2]; rfl
                  have z0 : w'.frozen? ⟨(M + 2), 1, none⟩ = false := Lib.frozen_of_heap hb2 1
                  clear hrd hst hq hfe hst2 hb2
                  refine ⟨_, at_drop0 rfl, fun K hK => ?_⟩
                  simp only [putS, List.foldl_cons, List.foldl_nil, Act.put, List.setIfInBounds_toArray, List.set_cons_zero, List.set_cons_succ]
                  rw [if_pos (by rfl)]
                  go_simp
                  go_wp2_with fail
                  exact hK.out _ _ ⟨tu, ts, _, _, rfl, HST2.out, (fun _ => rfl), (fun _ => HFE.out)⟩
                · simp at hk
              case halloc =>
                rintro j i' k fl a w' hj hk hfl hf ⟨tu, ts, tp, tq, rfl, hst, hq, hfe⟩
                obtain ⟨f1, f2, rfl⟩ : ∃ f1 f2, fl = [f1, f2] := by
                  match fl, hfl with
                  | [f1, f2], _ => exact ⟨f1, f2, rfl⟩
                have hk0 : k = 0 := by
                  rcases Nat.eq_zero_or_pos k with h | h
                  · exact h
                  · have := hfe h
                    rcases j with _ | _ | j
                    · simp at this hf; simp_all
                    · simp at this hf; simp_all
                    · simp at hj
                subst hk0
                rcases j with _ | _ | j
                · obtain rfl : i' = 1 := by simpa using hj.symm
                  obtain rfl : f1 = false := by simpa using hf
                  obtain ⟨hb2, hst2⟩ := pb_load hst (by omega)
                  have HST2 := hid hst2
                  have c0 : w'.cell? ⟨(M + 2), 1, none⟩ = some (.slice lp L.length lc) := by rw [Lib.cell_of_heap hb2]; rfl
                  clear hst hf hj hk hq hst2 hfe hb2
                  refine ⟨_, at_drop0 rfl, fun K hK => ?_⟩
                  simp only [putS, List.foldl_cons, List.foldl_nil, Act.put, List.setIfInBounds_toArray, List.set_cons_zero, List.set_cons_succ]
                  rw [if_pos (by rfl)]
                  go_simp
                  go_wp2_with fail
                  exact hK.out _ _ ⟨_, ts, tp, tq, rfl, HST2.out, (fun h => by omega), (fun h => by omega)⟩
                · obtain rfl : i' = 10 := by simpa using hj.symm
                  obtain rfl : f2 = false := by simpa using hf
                  have HST2 := hid (pb_box hst)
                  clear hst hf hj hk hq hfe
                  refine ⟨_, at_drop0 rfl, fun K hK => ?_⟩
                  simp only [putS, List.foldl_cons, List.foldl_nil, Act.put, List.setIfInBounds_toArray, List.set_cons_zero, List.set_cons_succ]
                  rw [if_pos (by rfl)]
                  go_simp
                  go_wp2_with fail
                  exact hK.out _ _ ⟨tu, _, tp, tq, rfl, HST2.out, (fun h => by omega), (fun h => by omega)⟩
                · simp at hj
              case hend =>
                rintro a w3 ⟨tu, ts, tp, tq, rfl, hst, _, _⟩
                obtain ⟨q1, q2, q3, q4⟩ := pb_end hst
                obtain ⟨g, cc, rfl⟩ := pb_shape2 hst (by decide)
                have hown : (Value.slice (some ⟨g, 0, none⟩) (L.length + 1) cc).ownBlock = some g := rfl
                have hCd := HC.out.on (bel_drewN (Below.refl wr.heap.size wr) 1)
                have HE : Hid (CpR V (M + 2) ks p c (L ++ [⟨xt, pp, pc, xm⟩]) (some ⟨g, 0, none⟩) cc w3) := hCd.push rfl q1 q2 q3 (q4 g hown) ⟨Kind.own_on HPO.out (bel_drewN (Below.refl wr.heap.size wr) 1), HFM.out⟩ HEO.out
                have HE2 : Hid ((L ++ [(⟨xt, pp, pc, xm⟩ : Rx)]).map Rx.rg = (rs.take (i2' + 1)).map Rx.rg) := by
                  show _ = _
                  rw [HTK.out, List.map_append, HLE.out]
                  rfl
                clear hst q1 q2 q3 q4 hCd hown
                simp only [putS, List.foldl_cons, List.foldl_nil, Act.put, List.setIfInBounds_toArray, List.set_cons_zero, List.set_cons_succ]
                go_wp2_with fail
                go_roundg (rs.length - (i2' + 1))
                case measure => omega
                exact ⟨i2' + 1, L ++ [⟨xt, pp, pc, xm⟩], some ⟨g, 0, none⟩, cc, by go_num, by omega, by omega, by rw [List.length_append]; simp; omega, HE.out, HE2.out⟩
        · have hltz : ¬ (i2' : Int) < (rs.length : Int) := by omega
          have hti : rs.take i2' = rs := List.take_of_length_le (by omega)
          rw [hti] at HI
          obtain ⟨W5, hW5⟩ : ∃ W5, (W2.setCell ⟨M + 1, 0, none⟩ (.slice p ks.length c)).setCell ⟨M + 1, 1, none⟩ (.slice lp L.length lc) = W5 := ⟨_, rfl⟩
          have hC := HI.out.1
          have r0 : W2.cell? ⟨M + 2, 0, none⟩ = some (.slice p ks.length c) := by rw [Lib.cell_of_heap hC.box]; rfl
          have r1 : W2.cell? ⟨M + 2, 1, none⟩ = some (.slice lp L.length lc) := by rw [Lib.cell_of_heap hC.box]; rfl
          obtain ⟨⟨d0, d1, f0, f1⟩, e5, fr5⟩ := store_two (a := .slice p ks.length c) (b := .slice lp L.length lc) hres
          rw [hW5] at e5 fr5
          have g0 : W5.cell? ⟨M + 1, 0, none⟩ = some (.slice p ks.length c) := by rw [Lib.cell_of_heap e5]; rfl
          have g1 : W5.cell? ⟨M + 1, 1, none⟩ = some (.slice lp L.length lc) := by rw [Lib.cell_of_heap e5]; rfl
          have HG := hid (And.intro g0 g1)
          have HB5 : Hid (Below w.heap.size w W5) := by
            have h9 := (HIN.out W2 hC.row.bel).2.1
            refine h9.trans (fr5.below (by have := h9.size; omega) fun k hk => by omega)
          have HO5 : Hid (MOwn w.heap.size W5 ⟨p, c, ks, lp, lc, L⟩) := by
            refine ⟨fr5.row (show W2.ownsRow w.heap.size KK.T KK.k (.slice p ks.length c) ks.length (KK.cells ks) from Kind.own_weak hC.keys.own (by omega)) fun k h1 h2 => ?_, fr5.row (show W2.ownsRow w.heap.size KRx.T KRx.k (.slice lp L.length lc) L.length (KRx.cells L) from Kind.own_weak hC.row.own (by omega)) fun k h1 h2 => ?_, fun r hr => ⟨fr5.row (show W2.ownsRow w.heap.size KM.T KM.k r.sl r.tm.length (KM.cells r.tm) from Kind.own_weak (hC.each r hr).1 (by omega)) fun k h1 h2 => ?_, (hC.each r hr).2.1⟩, hC.apart⟩
            · have := (World.ownsRow.lt (show W2.ownsRow (M + 2) KK.T KK.k (.slice p ks.length c) ks.length (KK.cells ks) from hC.keys.own) k h1).1
              omega
            · have := (World.ownsRow.lt (show W2.ownsRow (M + 2) KRx.T KRx.k (.slice lp L.length lc) L.length (KRx.cells L) from hC.row.own) k h1).1
              omega
            · have := (World.ownsRow.lt (show W2.ownsRow (M + 2 + 1) KM.T KM.k r.sl r.tm.length (KM.cells r.tm) from (hC.each r hr).1) k h1).1
              omega
          have HLE := hid HI.out.2
          clear hC HI hti g0 g1 e5 fr5 hma
          go_wp2_with fail
          try rw [hW5]
          obtain ⟨g0, g1⟩ := HG.out
          refine bodyPost_ret (v := .agg #[.slice p ks.length c, .slice lp L.length lc]) (by simp [results, Try.results27, go_sem, g0, g1]) rfl ⟨⟨p, c, ks, lp, lc, L⟩, rfl, HO5.out, ?_, HB5.out⟩
          exact congrArg (Prod.mk ks) HLE.out

end Go.Proofs.Ythdakljoabbghaa

/-
  One element of a row of one's own written over, whatever its kind. No program.
-/
namespace Go.Proofs.Ythdakljoabbghaa
open Go.RowKit

/-- Cells written one behind the other, from o + k on. -/
def setFrom (w : World) (g o : Nat) : Nat → List Value → World
  | _, [] => w
  | k, u :: r => setFrom (w.setCell ⟨g, o + k, none⟩ u) g o (k + 1) r

def setL (o : Nat) : Nat → List Value → List Value → List Value
  | _, [], xs => xs
  | k, u :: r, xs => setL o (k + 1) r (xs.set (o + k) u)

theorem setL_len (o : Nat) : ∀ (k : Nat) (us xs : List Value), (setL o k us xs).length = xs.length
  | _, [], _ => rfl
  | k, u :: r, xs => by
    unfold setL
    rw [setL_len o (k + 1) r, List.length_set]

theorem setL_get (o : Nat) : ∀ (k : Nat) (us xs : List Value) (j : Nat), o + k + us.length ≤ xs.length → (setL o k us xs)[j]? = if o + k ≤ j ∧ j < o + k + us.length then us[j - (o + k)]? else xs[j]?
  | k, [], xs, j, _ => by
    unfold setL
    rw [if_neg (by simp)]
  | k, u :: r, xs, j, h => by
    unfold setL
    rw [List.length_cons] at h
    rw [setL_get o (k + 1) r _ j (by rw [List.length_set]; omega), List.getElem?_set]
    by_cases h1 : j = o + k
    · subst h1
      rw [if_neg (by omega), if_pos rfl, if_pos (by omega), if_pos (by rw [List.length_cons]; omega)]
      simp
    · by_cases h2 : o + k ≤ j ∧ j < o + k + (u :: r).length
      · rw [if_pos (by rw [List.length_cons] at h2; omega), if_pos h2]
        have : j - (o + k) = (j - (o + (k + 1))) + 1 := by omega
        rw [this, List.getElem?_cons_succ]
      · rw [if_neg (by rw [List.length_cons] at h2; omega), if_neg h2, if_neg (fun e => h1 e.symm)]

theorem Kind.cells_setL {α : Type} (K : Kind α) (d : List α) (i : Nat) (h : i < d.length) (x : α) : K.cells (d.set i x) = setL (i * K.k) 0 (K.enc x) (K.cells d) := by
  apply List.ext_getElem?
  intro j
  have h1 : (i + 1) * K.k ≤ d.length * K.k := Nat.mul_le_mul_right _ h
  rw [Nat.add_mul, Nat.one_mul] at h1
  rw [K.cells_set d i h x j, setL_get _ _ _ _ _ (by rw [K.len, K.cells_len]; omega), K.len, Nat.add_zero]

theorem ownsRow_setFrom {N : Nat} {e : TypeId} {size g n cap o : Nat} : ∀ (k : Nat) (us xs : List Value) (w : World), w.ownsRow N e size (.slice (some ⟨g, 0, none⟩) n cap) n xs → (setFrom w g o k us).ownsRow N e size (.slice (some ⟨g, 0, none⟩) n cap) n (setL o k us xs)
  | _, [], _, _, h => h
  | k, u :: r, xs, w, h => by
    unfold setFrom setL
    exact ownsRow_setFrom (k + 1) r _ _ (World.ownsRow.stored h (o + k) u).1

theorem below_setFrom {N g o : Nat} {W : World} (hg : N ≤ g) : ∀ (k : Nat) (us : List Value) (w : World), Below N W w → Below N W (setFrom w g o k us)
  | _, [], _, h => h
  | k, u :: r, w, h => by
    unfold setFrom
    exact below_setFrom hg (k + 1) r _ (h.setCell hg _)
theorem size_setFrom {g o : Nat} : ∀ (k : Nat) (us : List Value) (w : World), (setFrom w g o k us).heap.size = w.heap.size
  | _, [], _ => rfl
  | k, u :: r, w => by
    unfold setFrom
    rw [size_setFrom (k + 1) r]
    simp
theorem block_setFrom {g o b : Nat} (hb : b ≠ g) : ∀ (k : Nat) (us : List Value) (w : World), (setFrom w g o k us).heap[b]? = w.heap[b]?
  | _, [], _ => rfl
  | k, u :: r, w => by
    unfold setFrom
    rw [block_setFrom hb (k + 1) r, heap_setCell_other w _ b _ hb]

theorem RowSt.put {α : Type} {K : Kind α} {N : Nat} {W : World} {g n cap : Nat} {l : List α} {w : World} (h : RowSt K N W (.slice (some ⟨g, 0, none⟩) n cap) l w) (i : Nat) (hi : i < l.length) (x : α) :
    RowSt K N W (.slice (some ⟨g, 0, none⟩) n cap) (l.set i x) (setFrom w g (i * K.k) 0 (K.enc x)) := by
  have hg : N ≤ g := (World.ownsRow.lt h.own g rfl).1
  obtain ⟨p', c', he⟩ := Kind.own_shape h.own
  injection he with _ hn _
  subst hn
  refine ⟨?_, below_setFrom hg 0 _ w h.bel, by rw [size_setFrom]; exact h.base⟩
  unfold Kind.Own
  rw [K.cells_setL l i hi x, List.length_set]
  exact ownsRow_setFrom 0 _ _ w h.own

end Go.Proofs.Ythdakljoabbghaa

/-
  MarksKeeps (stage 12): a row of keys with spare room, made and filled; the blocks of marks. No function.
-/
namespace Go.Proofs.Ythdakljoabbghaa
open Go.RowKit Go.Lib

/-- The blocks of marks. -/
def BlkM (m : Mx) (k : Nat) : Prop := m.ksl.ownBlock = some k ∨ m.rsl.ownBlock = some k ∨ ∃ r ∈ m.rs, r.sl.ownBlock = some k
theorem own_lt {α : Type} {K : Kind α} {N : Nat} {w : World} {v : Value} {l : List α} (h : K.Own N w v l) (b : Nat) (hb : v.ownBlock = some b) : N ≤ b ∧ b < w.heap.size := World.ownsRow.lt (show w.ownsRow N K.T K.k v l.length (K.cells l) from h) b hb
theorem MOwn.blk {n : Nat} {w : World} {m : Mx} (h : MOwn n w m) (k : Nat) (hk : BlkM m k) : n ≤ k ∧ k < w.heap.size := by
  rcases hk with hk | hk | ⟨r, hr, hk⟩
  · exact own_lt h.keys k hk
  · exact own_lt h.rows k hk
  · exact own_lt (h.each r hr).1 k hk
/-- Marks stand where none of their blocks turns. -/
theorem MOwn.off {n : Nat} {w w' : World} {m : Mx} {P : Nat → Prop} (h : MOwn n w m) (f : Fr P w w') (hP : ∀ k, BlkM m k → ¬ P k) : MOwn n w' m :=
  ⟨f.row (show w.ownsRow n KK.T KK.k m.ksl m.ks.length (KK.cells m.ks) from h.keys) fun k hk => hP k (Or.inl hk), f.row (show w.ownsRow n KRx.T KRx.k m.rsl m.rs.length (KRx.cells m.rs) from h.rows) fun k hk => hP k (Or.inr (Or.inl hk)), fun r hr => ⟨f.row (show w.ownsRow n KM.T KM.k r.sl r.tm.length (KM.cells r.tm) from (h.each r hr).1) fun k hk => hP k (Or.inr (Or.inr ⟨r, hr, hk⟩)), (h.each r hr).2⟩, h.apart⟩

theorem own_heap {α : Type} {K : Kind α} {N g n cap : Nat} {w : World} {l : List α} (h : K.Own N w (.slice (some ⟨g, 0, none⟩) n cap) l) : ∃ cur : Array Value, w.heap[g]? = some (.cells cur K.T (0, 0)) ∧ cur.size = cap * K.k := by
  have h' : w.ownsRow N K.T K.k (.slice (some ⟨g, 0, none⟩) n cap) l.length (K.cells l) := h
  rcases h'.2 with ⟨h0, _⟩ | ⟨g', cap', cur, hv, _, hg, _, _, hcs, _⟩
  · cases h0
  · cases hv
    exact ⟨cur, hg, hcs⟩

/-- 'append(make([]api.Key, 0, n+2), keys...)'. -/
theorem keys_room (W : World) (kp : Option Addr) (kc : Nat) (ks : List Ky) (h : KK.Is W (.slice kp ks.length kc) ks) (hl : ks.length < 1000000000000) :
    ∃ W4 W5, (Instr.makeSlice 22 (.int .i64 0) (.int .i64 ((ks.length : Int) + 2))).run Try.prog W = .ok (.slice (some ⟨W.heap.size, 0, none⟩) 0 (ks.length + 2)) W4 ∧ Below W.heap.size W W4 ∧
      (∀ ty, (Builtin.append_ #[22, 22] ty #[.slice (some ⟨W.heap.size, 0, none⟩) 0 (ks.length + 2), .slice kp ks.length kc]).run Try.prog W4 = .ok (.slice (some ⟨W.heap.size, 0, none⟩) ks.length (ks.length + 2)) W5) ∧
      KK.Own W.heap.size W5 (.slice (some ⟨W.heap.size, 0, none⟩) ks.length (ks.length + 2)) ks ∧ Below W.heap.size W W5 := by
  obtain ⟨i0, hi0, hz0, hz1, hz2⟩ := info_parts Try.infoKy12
  have hmk := run_make (P := Try.prog) W 22 27 i0 (.agg #[.string ⟨#[]⟩, .string ⟨#[]⟩]) Try.underlying22 hi0 hz0 .i64 .i64 0 ((ks.length : Int) + 2) (by omega) (by omega) (by rw [hz2]; omega) (by omega)
  rw [hz1, show ((ks.length : Int) + 2).toNat = ks.length + 2 by omega] at hmk
  obtain ⟨c0, hc0⟩ : ∃ c0, madeCells (Value.agg #[.string ⟨#[]⟩, .string ⟨#[]⟩]).cells ((ks.length + 2) * 2) = c0 := ⟨_, rfl⟩
  have hcs : c0.size = (ks.length + 2) * 2 := by rw [← hc0]; exact size_madeCells _ _
  rw [hc0] at hmk
  have hb4 : Below W.heap.size W (W.alloc (.cells c0 27)) := (Below.refl _ _).alloc (Nat.le_refl _) _
  have hn4 : (W.alloc (.cells c0 27)).heap[W.heap.size]? = some (.cells c0 27 (0, 0)) := heap_alloc_new W _
  have ho4 : (W.alloc (.cells c0 27)).ownsRow W.heap.size 27 2 (.slice (some ⟨W.heap.size, 0, none⟩) 0 (ks.length + 2)) 0 [] := ⟨rfl, Or.inr ⟨W.heap.size, ks.length + 2, c0, rfl, Nat.le_refl _, hn4, by omega, by unfold maxLen; omega, hcs, by simp⟩⟩
  refine ⟨W.alloc (.cells c0 27), ?_⟩
  by_cases h0 : ks.length = 0
  · have hnil : ks = [] := List.eq_nil_of_length_eq_zero h0
    subst hnil
    refine ⟨W.alloc (.cells c0 27), hmk, hb4, fun ty => ?_, ho4, hb4⟩
    cases kp <;> simp [Builtin.append_, run_underlying Try.underlying22, Builtin.lenOf, Builtin.firstCells, sizeOf, typeInfo, hi0, storeCells, loadCells, loadCellsFrom]
  · have h4 := Kind.is_kept h hb4
    obtain ⟨p', c', he, hd⟩ := h4
    injection he with e1 e2 e3
    subst e1 e3
    obtain ⟨ad, rfl, hsrc⟩ : ∃ ad, kp = some ad ∧ ∀ j u, (KK.cells ks)[j]? = some u → (W.alloc (.cells c0 27)).cell? (ad.add j) = some u := (Kind.src hd).resolve_left h0
    obtain ⟨w', hr, hown, hg⟩ := run_append_own_spare (P := Try.prog) (W.alloc (.cells c0 27)) W.heap.size 22 0 27 i0 2 Try.underlying22 hi0 hz1 W.heap.size 0 (ks.length + 2) [] ho4 ad ks.length kc (KK.cells ks) (KK.cells_len ks) hsrc (KK.cells_ones _) (by omega)
    rw [Nat.zero_add] at hr hown
    refine ⟨w', hmk, hb4, fun ty => ?_, hown, hb4.trans ⟨hg.os, hg.tape, hg.output, hg.size, fun k hk => hg.block k (by simp; omega) (fun e => by injection e with e; omega)⟩⟩
    rw [← hr]
    rfl

/-- Marks in memory of their own that say mk. -/
def GOw (mk : Mk) (W : World) (m : Mx) : Prop := (∃ n, MOwn n W m) ∧ m.mk' = mk
theorem gow_own {V w w2 : World} {m : Mx} {mk : Mk} (ho : MOwn w.heap.size w2 m) (hk : m.mk' = mk) (P : Nat → Prop) (w' : World) (hP : ∀ b, P b → V.heap.size ≤ b ∧ b < w.heap.size) (f : Fr P w2 w') : GOw mk w' m := ⟨⟨_, ho.fr f fun k h => (hP k h).2⟩, hk⟩
/-- Two variables of marks, each in memory of its own. -/
abbrev TwoK (V : World) (mk1 mk2 : Mk) := TwoSt V encA 25 #[.slice none 0 0, .slice none 0 0] encA 25 #[.slice none 0 0, .slice none 0 0] (GOw mk1) (GOw mk2) BlkM BlkM

end Go.Proofs.Ythdakljoabbghaa

/-
  MarksKeeps (stage 12): marks that are being wiped: only their own blocks turn. No function.
-/
namespace Go.Proofs.Ythdakljoabbghaa
open Go.RowKit

theorem own_ty12 {α : Type} {K : Kind α} {N : Nat} {w : World} {v : Value} {l : List α} (h : K.Own N w v l) (b : Nat) (hb : v.ownBlock = some b) : ∃ cur, w.heap[b]? = some (.cells cur K.T (0, 0)) := by
  have h' : w.ownsRow N K.T K.k v l.length (K.cells l) := h
  rcases h'.2 with ⟨h0, _⟩ | ⟨g, cap, cur, hv, _, hg, _⟩
  · rw [h0] at hb; cases hb
  · rw [hv] at hb
    injection hb with hb
    subst hb
    exact ⟨cur, hg⟩
/-- Rows of two types lie in two blocks. -/
theorem own_two {α β : Type} {K : Kind α} {J : Kind β} {N M : Nat} {w : World} {v u : Value} {l : List α} {r : List β} (h : K.Own N w v l) (g : J.Own M w u r) (ht : K.T ≠ J.T) (b : Nat) (hb : v.ownBlock = some b) : ¬ u.ownBlock = some b := fun hu => by
  obtain ⟨c1, e1⟩ := own_ty12 h b hb
  obtain ⟨c2, e2⟩ := own_ty12 g b hu
  rw [e1] at e2
  injection e2 with e2
  injection e2 with _ e3
  exact ht e3
theorem own_box {α : Type} {K : Kind α} {N O : Nat} {w : World} {v : Value} {l : List α} {c : Array Value} {T : TypeId} (h : K.Own N w v l) (hO : w.heap[O]? = some (.cells c T (0, 0))) (ht : K.T ≠ T) (b : Nat) (hb : v.ownBlock = some b) : b ≠ O := fun e => by
  obtain ⟨c1, e1⟩ := own_ty12 h b hb
  rw [e, hO] at e1
  injection e1 with e1
  injection e1 with _ e3
  exact ht e3.symm
theorem fr_setFrom (w : World) (g o k : Nat) (us : List Value) : Fr (fun b => b = g) w (setFrom w g o k us) :=
  have h := below_setFrom (N := 0) (g := g) (o := o) (W := w) (Nat.zero_le _) k us w (Below.refl _ _)
  ⟨h.os, h.tape, h.output, h.size, fun _ _ hn => block_setFrom hn k us w⟩

theorem MOwn.weak0 {n : Nat} {w : World} {m : Mx} (h : MOwn n w m) : MOwn 0 w m := ⟨Kind.own_weak h.keys (Nat.zero_le _), Kind.own_weak h.rows (Nat.zero_le _), fun r hr => ⟨Kind.own_weak (h.each r hr).1 (Nat.zero_le _), (h.each r hr).2⟩, h.apart⟩
def KMk : Kind Mx := ⟨25, 2, encMx, fun _ => rfl, by decide, fun x u hu => by simp [encMx, Mx.ksl, Mx.rsl] at hu; rcases hu with rfl | rfl <;> rfl⟩

/-- Marks m being wiped, from Wr on: their box O holds the keys' slice kv. -/
structure WpM (m : Mx) (Wr : World) (n O : Nat) (kv : Value) (w : World) : Prop where
  fr : Fr (BlkM m) Wr w
  low : Wr.heap.size ≤ O
  box : w.heap[O]? = some (.cells #[kv, m.rsl] 25 (0, 0))
  keys : ∃ l : List Ky, KK.Own n w kv l
  kblk : ∀ b, kv.ownBlock = some b → BlkM m b ∨ Wr.heap.size ≤ b
  rows : ∃ L : List Rx, KRx.Own n w m.rsl L ∧ L.map Rx.sl = m.rs.map Rx.sl
  each : ∀ r ∈ m.rs, ∃ t : List Tm, t.length = r.tm.length ∧ KM.Own n w r.sl t
  apart : ApartR m.rs

section
variable {m : Mx} {Wr : World} {n O : Nat} {kv : Value} {w : World}
theorem ty_kr : KK.T ≠ KRx.T := by decide
theorem ty_km : KK.T ≠ KM.T := by decide
theorem ty_rm : KRx.T ≠ KM.T := by decide
theorem ty_kb : KK.T ≠ 25 := by decide
theorem ty_rb : KRx.T ≠ 25 := by decide
theorem ty_mb : KM.T ≠ 25 := by decide

theorem MOwn.box {c : Array Value} (h : MOwn n w m) (hO : w.heap[O]? = some (.cells c 25 (0, 0))) (b : Nat) (hb : BlkM m b) : b ≠ O := by
  rcases hb with hb | hb | ⟨r, hr, hb⟩
  · exact own_box h.keys hO ty_kb b hb
  · exact own_box h.rows hO ty_rb b hb
  · exact own_box (h.each r hr).1 hO ty_mb b hb
/-- The beginning: a box with what the marks are. -/
theorem WpM.start (h : MOwn n Wr m) (O : Nat) (hw : Below Wr.heap.size Wr w) (hl : Wr.heap.size ≤ O) (hb : w.heap[O]? = some (.cells #[m.ksl, m.rsl] 25 (0, 0))) : WpM m Wr n O m.ksl w :=
  ⟨Fr.of_below hw, hl, hb, ⟨_, Kind.own_on h.keys hw⟩, fun _ hb => Or.inl (Or.inl hb), ⟨_, Kind.own_on h.rows hw, rfl⟩, fun r hr => ⟨_, rfl, Kind.own_on (h.each r hr).1 hw⟩, h.apart⟩
theorem WpM.on {w' : World} (h : WpM m Wr n O kv w) (hb : Below w.heap.size w w') : WpM m Wr n O kv w' := by
  obtain ⟨l, hk⟩ := h.keys
  obtain ⟨L, hL, hm⟩ := h.rows
  refine ⟨h.fr.then (Fr.of_below hb) fun k hk => Or.inl hk, h.low, (hb.block O (Array.getElem?_eq_some_iff.1 h.box).1).trans h.box, ⟨l, Kind.own_on hk hb⟩, h.kblk, ⟨L, Kind.own_on hL hb, hm⟩, fun r hr => ?_, h.apart⟩
  obtain ⟨t, ht, ho⟩ := h.each r hr
  exact ⟨t, ht, Kind.own_on ho hb⟩

/-- One block turned. -/
theorem fr_step {g : Nat} {w' : World} (h : Fr (BlkM m) Wr w) (f : Fr (fun b => b = g) w w') (hg : BlkM m g ∨ Wr.heap.size ≤ g) : Fr (BlkM m) Wr w' :=
  h.then (f.mono (Q := fun b => b = g) fun _ hb => hb) fun k hk => by rw [hk]; exact hg

theorem at_cell {α : Type} {K : Kind α} {g : Nat} {l : List α} (h : K.At w g 0 l) (i : Nat) (hi : i < l.length) (j : Nat) (u : Value) (hu : (K.enc l[i])[j]? = some u) : w.cell? ⟨g, i * K.k + j, none⟩ = some u := by
  have := h i hi j u hu
  rwa [Nat.zero_add] at this
/-- Where a key lies. -/
theorem WpM.kform {p : Option Addr} {len cap : Nat} (h : WpM m Wr n O (.slice p len cap) w) (i : Nat) (hi : i < len) : ∃ g, p = some ⟨g, 0, none⟩ ∧ (∃ z, w.cell? ⟨g, i * 2, none⟩ = some z) ∧ (∃ z, w.cell? ⟨g, i * 2 + 1, none⟩ = some z) ∧ w.frozen? ⟨g, i * 2, none⟩ = false ∧ w.frozen? ⟨g, i * 2 + 1, none⟩ = false := by
  obtain ⟨l, hk⟩ := h.keys
  obtain ⟨p', c', he⟩ := Kind.own_shape hk
  injection he with e1 e2 e3
  obtain ⟨g, hp, _, hl, hat, hfz⟩ := Kind.own_form hk (by omega)
  have hil : i < l.length := by omega
  exact ⟨g, hp, ⟨_, at_cell hat i hil 0 _ rfl⟩, ⟨_, at_cell hat i hil 1 _ rfl⟩, hfz _, hfz _⟩
/-- Where a range lies. -/
theorem WpM.rform (h : WpM m Wr n O kv w) (i : Nat) (hi : i < m.rs.length) : ∃ g, m.rp = some ⟨g, 0, none⟩ ∧ (∃ z, w.cell? ⟨g, i * 2, none⟩ = some z) ∧ w.cell? ⟨g, i * 2 + 1, none⟩ = some (m.rs[i]).sl ∧ w.frozen? ⟨g, i * 2, none⟩ = false := by
  obtain ⟨L, hL, hm⟩ := h.rows
  have hLl : L.length = m.rs.length := by have := congrArg List.length hm; simpa using this
  obtain ⟨g, hp, _, _, hat, hfz⟩ := Kind.own_form (q := m.rp) (n := m.rs.length) (c := m.rc) hL (by omega)
  have hil : i < L.length := by omega
  have hsl : (L[i]).sl = (m.rs[i]).sl := by
    have h1 : (L.map Rx.sl)[i]? = (m.rs.map Rx.sl)[i]? := by rw [hm]
    rw [List.getElem?_eq_getElem (by simpa using hil), List.getElem?_eq_getElem (by simpa using hi), List.getElem_map, List.getElem_map] at h1
    injection h1
  refine ⟨g, hp, ⟨_, at_cell hat i hil 0 _ rfl⟩, ?_, hfz _⟩
  rw [← hsl]
  exact at_cell hat i hil 1 _ rfl
/-- Where a term lies. -/
theorem WpM.tform (h : WpM m Wr n O kv w) (i : Nat) (hi : i < m.rs.length) (j : Nat) (hj : j < (m.rs[i]).tm.length) : ∃ g, (m.rs[i]).p = some ⟨g, 0, none⟩ ∧ ((∃ z, w.cell? ⟨g, j * 3, none⟩ = some z) ∧ (∃ z, w.cell? ⟨g, j * 3 + 1, none⟩ = some z) ∧ ∃ z, w.cell? ⟨g, j * 3 + 2, none⟩ = some z) ∧ w.frozen? ⟨g, j * 3, none⟩ = false ∧ w.frozen? ⟨g, j * 3 + 1, none⟩ = false ∧ w.frozen? ⟨g, j * 3 + 2, none⟩ = false := by
  obtain ⟨t, ht, ho⟩ := h.each _ (List.getElem_mem hi)
  obtain ⟨g, hp, _, _, hat, hfz⟩ := Kind.own_form (q := (m.rs[i]).p) (n := (m.rs[i]).tm.length) (c := (m.rs[i]).cap) ho (by omega)
  have hjl : j < t.length := by omega
  exact ⟨g, hp, ⟨⟨_, at_cell hat j hjl 0 _ rfl⟩, ⟨_, at_cell hat j hjl 1 _ rfl⟩, ⟨_, at_cell hat j hjl 2 _ rfl⟩⟩, hfz _, hfz _, hfz _⟩
theorem WpM.cells (h : WpM m Wr n O kv w) : w.cell? ⟨O, 0, none⟩ = some kv ∧ w.cell? ⟨O, 1, none⟩ = some m.rsl ∧ w.frozen? ⟨O, 0, none⟩ = false := ⟨by rw [Lib.cell_of_heap h.box]; rfl, by rw [Lib.cell_of_heap h.box]; rfl, Lib.frozen_of_heap h.box 0⟩

/-- A key written over. -/
theorem WpM.key {g len cap : Nat} (h : WpM m Wr n O (.slice (some ⟨g, 0, none⟩) len cap) w) (i : Nat) (hi : i < len) (x : Ky) : WpM m Wr n O (.slice (some ⟨g, 0, none⟩) len cap) (setFrom w g (i * 2) 0 (KK.enc x)) := by
  obtain ⟨l, hk⟩ := h.keys
  obtain ⟨L, hL, hm⟩ := h.rows
  obtain ⟨p', c', he⟩ := Kind.own_shape hk
  injection he with e1 e2 e3
  have hil : i < l.length := by omega
  have f := fr_setFrom w g (i * 2) 0 (KK.enc x)
  have hgk : (Value.slice (some ⟨g, 0, none⟩) len cap).ownBlock = some g := rfl
  have hgO : g ≠ O := own_box hk h.box ty_kb g hgk
  have hput := (RowSt.put (K := KK) (N := n) (W := w) ⟨hk, Below.refl _ _, by have := (own_lt hk g hgk); omega⟩ i hil x).own
  refine ⟨fr_step h.fr f (h.kblk g hgk), h.low, (f.block O (Array.getElem?_eq_some_iff.1 h.box).1 (Ne.symm hgO)).trans h.box, ⟨_, hput⟩, h.kblk, ⟨L, f.row (show w.ownsRow n KRx.T KRx.k m.rsl L.length (KRx.cells L) from hL) fun b h1 h2 => ?_, hm⟩, fun r hr => ?_, h.apart⟩
  · subst h2
    exact own_two hk hL ty_kr b hgk h1
  · obtain ⟨t, ht, ho⟩ := h.each r hr
    refine ⟨t, ht, f.row (show w.ownsRow n KM.T KM.k r.sl t.length (KM.cells t) from ho) fun b h1 h2 => ?_⟩
    subst h2
    exact own_two hk ho ty_km b hgk h1
/-- A range's type written over. -/
theorem WpM.typ {g len cap : Nat} (h : WpM m Wr n O kv w) (hr : m.rsl = .slice (some ⟨g, 0, none⟩) len cap) (i : Nat) (hi : i < len) (x : ByteArray) : WpM m Wr n O kv (w.setCell ⟨g, i * 2, none⟩ (.string x)) := by
  obtain ⟨l, hk⟩ := h.keys
  obtain ⟨L, hL, hm⟩ := h.rows
  have hL' := hL
  rw [hr] at hL'
  obtain ⟨p', c', he⟩ := Kind.own_shape hL'
  injection he with e1 e2 e3
  have hil : i < L.length := by omega
  have hgr : m.rsl.ownBlock = some g := by rw [hr]; rfl
  have f : Fr (fun b => b = g) w (w.setCell ⟨g, i * 2, none⟩ (.string x)) := ⟨rfl, rfl, rfl, by simp, fun k _ hn => heap_setCell_other _ _ k _ hn⟩
  have hc : KRx.cells (L.set i ⟨x, (L[i]).p, (L[i]).cap, (L[i]).tm⟩) = (KRx.cells L).set (i * 2) (.string x) := by
    refine List.ext_getElem? fun j => ?_
    have hk2 : KRx.k = 2 := rfl
    have hlen : (KRx.cells L).length = L.length * 2 := KRx.cells_len L
    have hself := KRx.cells_set L i hil L[i] j
    rw [List.set_getElem_self, hk2] at hself
    rw [KRx.cells_set L i hil _ j, List.getElem?_set, hk2]
    by_cases hj : i * 2 ≤ j ∧ j < i * 2 + 2
    · rw [if_pos hj] at hself ⊢
      by_cases h2 : i * 2 = j
      · subst h2
        rw [if_pos rfl, if_pos (by omega), Nat.sub_self]
        rfl
      · rw [if_neg h2, hself]
        have : j - i * 2 = 1 := by omega
        rw [this]
        rfl
    · rw [if_neg hj, if_neg (by omega)]
  have hown : KRx.Own n (w.setCell ⟨g, i * 2, none⟩ (.string x)) m.rsl (L.set i ⟨x, (L[i]).p, (L[i]).cap, (L[i]).tm⟩) := by
    have h0 : w.ownsRow n KRx.T KRx.k (.slice (some ⟨g, 0, none⟩) len cap) len (KRx.cells L) := by
      have h1 : w.ownsRow n KRx.T KRx.k (.slice (some ⟨g, 0, none⟩) len cap) L.length (KRx.cells L) := hL'
      rw [show L.length = len by omega] at h1
      exact h1
    have h1 := ownsRow_setFrom (o := i * 2) 0 [.string x] (KRx.cells L) w h0
    unfold Kind.Own
    rw [hr, List.length_set, hc, show L.length = len by omega]
    exact h1
  have hmm : (L.set i ⟨x, (L[i]).p, (L[i]).cap, (L[i]).tm⟩).map Rx.sl = m.rs.map Rx.sl := by
    rw [← hm, List.map_set]
    have : (L.map Rx.sl)[i]'(by simpa using hil) = (L[i]).sl := List.getElem_map ..
    show (L.map Rx.sl).set i (L[i]).sl = _
    rw [← this, List.set_getElem_self]
  refine ⟨fr_step h.fr f (Or.inl (Or.inr (Or.inl hgr))), h.low, (f.block O (Array.getElem?_eq_some_iff.1 h.box).1 (Ne.symm (own_box hL h.box ty_rb g hgr))).trans h.box, ⟨l, f.row (show w.ownsRow n KK.T KK.k kv l.length (KK.cells l) from hk) fun b h1 h2 => ?_⟩, h.kblk, ⟨_, hown, hmm⟩, fun r hr' => ?_, h.apart⟩
  · subst h2
    exact own_two hk hL ty_kr b h1 hgr
  · obtain ⟨t, ht, ho⟩ := h.each r hr'
    refine ⟨t, ht, f.row (show w.ownsRow n KM.T KM.k r.sl t.length (KM.cells t) from ho) fun b h1 h2 => ?_⟩
    subst h2
    exact own_two hL ho ty_rm b hgr h1
/-- A range's term written over. -/
theorem WpM.term {g len cap : Nat} {r : Rx} (h : WpM m Wr n O kv w) (i : Nat) (hi : i < m.rs.length) (hri : m.rs[i] = r) (hr : r.sl = .slice (some ⟨g, 0, none⟩) len cap) (j : Nat) (hj : j < len) (x : Tm) : WpM m Wr n O kv (setFrom w g (j * 3) 0 (KM.enc x)) := by
  obtain ⟨l, hk⟩ := h.keys
  obtain ⟨L, hL, hm⟩ := h.rows
  have hmem : r ∈ m.rs := hri ▸ List.getElem_mem hi
  obtain ⟨t, ht, ho⟩ := h.each r hmem
  have ho' := ho
  rw [hr] at ho'
  obtain ⟨p', c', he⟩ := Kind.own_shape ho'
  injection he with e1 e2 e3
  have hjl : j < t.length := by omega
  have hgr : r.sl.ownBlock = some g := by rw [hr]; rfl
  have f := fr_setFrom w g (j * 3) 0 (KM.enc x)
  have hput := (RowSt.put (K := KM) (N := n) (W := w) ⟨ho', Below.refl _ _, by have := (own_lt ho g hgr); omega⟩ j hjl x).own
  refine ⟨fr_step h.fr f (Or.inl (Or.inr (Or.inr ⟨r, hmem, hgr⟩))), h.low, (f.block O (Array.getElem?_eq_some_iff.1 h.box).1 (Ne.symm (own_box ho h.box ty_mb g hgr))).trans h.box, ⟨l, f.row (show w.ownsRow n KK.T KK.k kv l.length (KK.cells l) from hk) fun b h1 h2 => ?_⟩, h.kblk, ⟨L, f.row (show w.ownsRow n KRx.T KRx.k m.rsl L.length (KRx.cells L) from hL) fun b h1 h2 => ?_, hm⟩, fun s hs => ?_, h.apart⟩
  · subst h2
    exact own_two hk ho ty_km b h1 hgr
  · subst h2
    exact own_two hL ho ty_rm b h1 hgr
  · obtain ⟨i', hi', rfl⟩ := List.mem_iff_getElem.1 hs
    by_cases hii : i' = i
    · subst hii
      rw [hri]
      refine ⟨t.set j x, by rw [List.length_set]; exact ht, ?_⟩
      rw [hr]
      exact hput
    · obtain ⟨t', ht', ho''⟩ := h.each _ hs
      refine ⟨t', ht', f.row (show w.ownsRow n KM.T KM.k (m.rs[i']).sl t'.length (KM.cells t') from ho'') fun b h1 h2 => ?_⟩
      subst h2
      have hap := List.pairwise_iff_getElem.1 h.apart
      rcases Nat.lt_or_gt_of_ne hii with h3 | h3
      · exact hap i' i hi' hi h3 b h1 (by rw [hri]; exact hgr)
      · exact hap i i' hi hi' h3 b (by rw [hri]; exact hgr) h1
/-- A key appended, and the slice laid into the box. -/
theorem WpM.push {g len cap : Nat} {w' : World} {l' : List Ky} (h : WpM m Wr n O kv w) (hst : KK.Own n w' (.slice (some ⟨g, 0, none⟩) len cap) l') (hg : w.grownBy w' kv.ownBlock) (hat : kv.ownBlock = some g ∨ g = w.heap.size) :
    w'.heap[O]? = some (.cells #[kv, m.rsl] 25 (0, 0)) ∧ WpM m Wr n O (.slice (some ⟨g, 0, none⟩) len cap) (w'.setCell ⟨O, 0, none⟩ (.slice (some ⟨g, 0, none⟩) len cap)) := by
  obtain ⟨l, hk⟩ := h.keys
  obtain ⟨L, hL, hm⟩ := h.rows
  have hOlt := (Array.getElem?_eq_some_iff.1 h.box).1
  have f1 : Fr (fun b => kv.ownBlock = some b) w w' := Fr.of_grown hg fun k hk => hk
  have hb1 : w'.heap[O]? = some (.cells #[kv, m.rsl] 25 (0, 0)) := (f1.block O hOlt (fun e => own_box hk h.box ty_kb O e rfl)).trans h.box
  have f2 : Fr (fun b => b = O) w' (w'.setCell ⟨O, 0, none⟩ (.slice (some ⟨g, 0, none⟩) len cap)) := ⟨rfl, rfl, rfl, by simp, fun k _ hn => heap_setCell_other _ _ k _ hn⟩
  have hL1 : KRx.Own n w' m.rsl L := f1.row (show w.ownsRow n KRx.T KRx.k m.rsl L.length (KRx.cells L) from hL) fun b h1 h2 => own_two hk hL ty_kr b h2 h1
  have fA : Fr (BlkM m) Wr w' := h.fr.then f1 fun b hb => h.kblk b hb
  refine ⟨hb1, fA.then f2 fun b hb => Or.inr (by rw [hb]; exact h.low), h.low, heap_setCell_same _ O 0 _ _ _ hb1, ⟨l', f2.row (show w'.ownsRow n KK.T KK.k _ l'.length (KK.cells l') from hst) fun b h1 h2 => own_box hst hb1 ty_kb b h1 h2⟩, fun b hb => ?_, ⟨L, f2.row (show w'.ownsRow n KRx.T KRx.k m.rsl L.length (KRx.cells L) from hL1) fun b h1 h2 => own_box hL1 hb1 ty_rb b h1 h2, hm⟩, fun r hr => ?_, h.apart⟩
  · rw [slice_own hb]
    rcases hat with h1 | h1
    · exact h.kblk g h1
    · exact Or.inr (by have := h.fr.size; omega)
  · obtain ⟨t, ht, ho⟩ := h.each r hr
    have ho1 : KM.Own n w' r.sl t := f1.row (show w.ownsRow n KM.T KM.k r.sl t.length (KM.cells t) from ho) fun b h1 h2 => own_two hk ho ty_km b h2 h1
    exact ⟨t, ht, f2.row (show w'.ownsRow n KM.T KM.k r.sl t.length (KM.cells t) from ho1) fun b h1 h2 => own_box ho1 hb1 ty_mb b h1 h2⟩
end

end Go.Proofs.Ythdakljoabbghaa

/-
  MarksUnions (stage 12): what hits one of two hits their union, and nothing else does.
-/
namespace Go.Proofs.Ythdakljoabbghaa
open Go.RowKit

/-- Two marks that are few together. -/
def Few2 (a b : Mx) : Prop := a.ks.length + b.ks.length + 1 < 1500000000000 ∧ a.rs.length + b.rs.length + 1 < 1500000000000
theorem sortK_len (l : List Ky) : (sortK l).length ≤ l.length := by
  have := inss_len l []
  unfold sortK
  simpa using this
theorem few_union {a b m : Mx} (h : Few2 a b) (hm : m.mk' = unionM a.mk' b.mk') : FewM m := by
  obtain ⟨h1, h2⟩ := h
  have e1 : m.ks = (unionM a.mk' b.mk').1 := congrArg Prod.fst hm
  have e2 : m.rs.length = (unionM a.mk' b.mk').2.length := by rw [← hm]; simp [Mx.mk']
  have l1 := inss_len b.mk'.1 (sortK a.mk'.1)
  have l2 := sortK_len a.mk'.1
  have l3 := putsR_len b.mk'.2 (a.mk'.2.foldl putR [])
  have l4 := putsR_len a.mk'.2 []
  constructor
  · rw [e1]
    simp only [unionM, Mx.mk'] at *
    omega
  · rw [e2]
    simp only [unionM, Mx.mk', List.length_map, List.length_nil] at *
    omega
theorem few_key {a m : Mx} {k : Ky} (h1 : a.ks.length + 1 < 1500000000000) (h2 : a.rs.length < 1500000000000) (hm : m.mk' = keyM a.mk' k) : FewM m := by
  have e1 : m.ks = (keyM a.mk' k).1 := congrArg Prod.fst hm
  have e2 : m.rs.length = (keyM a.mk' k).2.length := by rw [← hm]; simp [Mx.mk']
  have l1 := insK_len k (sortK a.mk'.1)
  have l2 := sortK_len a.mk'.1
  constructor
  · rw [e1]
    simp only [keyM, Mx.mk'] at *
    omega
  · rw [e2]
    simp only [keyM, Mx.mk', List.length_map] at *
    omega
theorem few_range {a m : Mx} {r : Rg} (h1 : a.ks.length < 1500000000000) (h2 : a.rs.length + 1 < 1500000000000) (hm : m.mk' = rangeM a.mk' r) : FewM m := by
  have e1 : m.ks = (rangeM a.mk' r).1 := congrArg Prod.fst hm
  have e2 : m.rs.length = (rangeM a.mk' r).2.length := by rw [← hm]; simp [Mx.mk']
  have l1 := putR_len a.mk'.2 r
  constructor
  · rw [e1]
    simp only [rangeM, Mx.mk'] at *
    omega
  · rw [e2]
    simp only [rangeM, Mx.mk', List.length_map] at *
    omega

/-- One change out of a list; the first ones of a list. -/
theorem ChgIn.one {W : World} {b off n cap : Nat} {l : List Cx} (h : ChgIn W (.slice (some ⟨b, off, none⟩) n cap) l) (i : Nat) (hi : i < l.length) (c' : Nat) : ChgIn W (.slice (some ⟨b, off + i * 6, none⟩) 1 c') [l[i]] := by
  refine ⟨⟨_, _, rfl, Or.inr ⟨_, _, rfl, fun j hj k u hu => ?_⟩⟩, fun c hc => ?_⟩
  · have hj' : j = 0 := by simpa using hj
    subst hj'
    obtain ⟨p', c'', he, h'⟩ := h.is
    injection he with e1 e2 e3
    subst e1
    rcases h' with h' | ⟨b', off', e4, h'⟩
    · rw [h'] at hi; simp at hi
    · injection e4 with e4
      injection e4 with e5 e6 e7
      subst e5 e6
      have := h' i hi k u hu
      simpa [show KCx.k = 6 from rfl] using this
  · rw [List.mem_singleton] at hc
    subst hc
    exact h.each _ (List.getElem_mem hi)
theorem ChgIn.first {W : World} {p : Option Addr} {n cap : Nat} {l : List Cx} (h : ChgIn W (.slice p n cap) l) (i : Nat) (hi : i ≤ l.length) : ChgIn W (.slice p i cap) (l.take i) := by
  have hlen : (l.take i).length = i := by simp; omega
  refine ⟨⟨p, cap, by rw [hlen], ?_⟩, fun c hc => h.each c (List.mem_of_mem_take hc)⟩
  obtain ⟨p', c'', he, h'⟩ := h.is
  injection he with e1 e2 e3
  subst e1
  rcases h' with h' | ⟨b', off', e4, h'⟩
  · exact Or.inl (by rw [h']; simp)
  · refine Or.inr ⟨b', off', e4, fun j hj k u hu => ?_⟩
    have hj' : j < l.length := by rw [hlen] at hj; omega
    have e : (l.take i)[j] = l[j] := List.getElem_take
    rw [e] at hu
    exact h' j hj' k u hu

theorem hits_one (a b : Mk) (c : Ch) : hitsM (unionM a b) [c] = (hitsM a [c] || hitsM b [c]) := by
  unfold hitsM
  simp [hit_union]
theorem hits_union (a b : Mk) (l : List Ch) : hitsM (unionM a b) l = (hitsM a l || hitsM b l) := by
  unfold hitsM
  induction l with
  | nil => rfl
  | cons c r ih =>
    simp only [List.any_cons, hit_union, ih]
    cases hitM a c <;> cases hitM b c <;> simp
theorem hits_more (a : Mk) (l : List Ch) (i : Nat) (h : hitsM a (l.take i) = true) : hitsM a l = true := by
  unfold hitsM at *
  obtain ⟨c, hc, h1⟩ := List.any_eq_true.1 h
  exact List.any_eq_true.2 ⟨c, List.mem_of_mem_take hc, h1⟩
theorem hits_key (a : Mk) (c : Ch) : hitsM (keyM a c.key) [c] = true := by
  unfold hitsM
  simp [hit_key]
theorem hits_none (l : List Ch) : hitsM ([], []) l = false := by
  unfold hitsM
  induction l with
  | nil => rfl
  | cons c r ih => rw [List.any_cons, ih]; rfl

set_option linter.unusedSimpArgs false in
set_option maxHeartbeats 8000000 in
set_option maxRecDepth 100000 in
theorem munions12_any (S : MarksApi) (hF : Fixed12) (a b : Mx) (p : Option Addr) (cap : Nat) (l : List Cx) (w : World) (ha : MIn w a) (hb : MIn w b) (h2 : Few2 a b) (hka : ∀ x ∈ a.ks, FitKy12 x) (hkb : ∀ x ∈ b.ks, FitKy12 x) (hc : ChgIn w (.slice p l.length cap) l) (hcap : l.length ≤ cap) (hl : l.length < 1500000000000) (hlk : ∀ c ∈ l, FitKy12 (c.a, c.b)) :
    Calls Try.prog 5 #[.agg (encMx a).toArray, .agg (encMx b).toArray, .slice p l.length cap] w fun e w' => e = .returned (.bool true) ∧ Below w.heap.size w w' := by
  obtain ⟨V, hV⟩ : ∃ V, (w.alloc (.cells (encMx a).toArray 25)).alloc (.cells (encMx b).toArray 25) = V := ⟨_, rfl⟩
  obtain ⟨M, hM⟩ : ∃ M, w.heap.size = M := ⟨_, rfl⟩
  obtain ⟨hbV, hba, hbb, hs⟩ := two_boxes w (encMx a).toArray (encMx b).toArray 25 25
  rw [hV] at hbV hba hbb hs
  rw [hM] at hba hbb hs
  have fa : FewM a := ⟨by have := h2.1; omega, by have := h2.2; omega⟩
  have fb : FewM b := ⟨by have := h2.1; omega, by have := h2.2; omega⟩
  have HF := hid (hF V)
  have HIN : Hid (∀ W', Below V.heap.size V W' → MIn W' a ∧ MIn W' b ∧ ChgIn W' (.slice p l.length cap) l ∧ Below w.heap.size w W' ∧ (W'.cell? ⟨M, 0, none⟩ = some a.ksl ∧ W'.cell? ⟨M, 1, none⟩ = some a.rsl ∧ W'.cell? ⟨M + 1, 0, none⟩ = some b.ksl ∧ W'.cell? ⟨M + 1, 1, none⟩ = some b.rsl)) := fun W' hW => by
    have hb' : Below w.heap.size w W' := bel_then hbV hbV.size hW
    have e1 := (hW.block M (by omega)).trans hba
    have e2 := (hW.block (M + 1) (by omega)).trans hbb
    exact ⟨ha.on hb', hb.on hb', hc.on hb', hb', by rw [Lib.cell_of_heap e1]; rfl, by rw [Lib.cell_of_heap e1]; rfl, by rw [Lib.cell_of_heap e2]; rfl, by rw [Lib.cell_of_heap e2]; rfl⟩
  have HHI : Hid (∀ W' m u q, Below V.heap.size V W' → MIn W' m → FewM m → ChgIn W' u q → q.length < 1500000000000 → Calls Try.prog 19 #[.agg #[m.ksl, m.rsl], u] W' fun e w' => BoolPost W' (hitsM m.mk' (q.map Cx.ch)) e w') := fun W' m u q hW hm hf hq hn => S.hits W' m u q hm hf.len hq hn
  have HUP : Hid (∀ W', Below V.heap.size V W' → Calls Try.prog 12 #[.agg #[a.ksl, a.rsl], .agg #[b.ksl, b.rsl]] W' fun e w' => MOwnPost W' (unionM a.mk' b.mk') e w') := fun W' hW => S.union W' a b (HIN.out W' hW).1 (HIN.out W' hW).2.1 fa fb hka hkb
  have HKP : Hid (∀ W' (k : Ky), Below V.heap.size V W' → FitKy12 k → Calls Try.prog 10 #[.agg #[a.ksl, a.rsl], .agg #[.string k.1, .string k.2]] W' fun e w' => MOwnPost W' (keyM a.mk' k) e w') := fun W' k hW hk => S.key W' a k (HIN.out W' hW).1 fa hk hka
  have HF2 := hid h2
  have HFA := hid fa
  have HFB := hid fb
  have HLK := hid hlk
  have hl' := hl
  obtain ⟨_, _, _, _, a0, a1, b0, b1⟩ := HIN.out V (Below.refl _ _)
  obtain ⟨mka, hmka⟩ : ∃ x, a.mk' = x := ⟨_, rfl⟩
  obtain ⟨mkb, hmkb⟩ : ∃ x, b.mk' = x := ⟨_, rfl⟩
  have HMA := hid hmka
  have HMB := hid hmkb
  rw [hmka, hmkb] at HUP
  rw [hmka] at HKP
  clear ha hb h2 hka hkb hc hbV hba hbb hs hF hlk fa fb hmka hmkb
  obtain ⟨akp, akc, aks, arp, arc, ars⟩ := a
  obtain ⟨bkp, bkc, bks, brp, brc, brs⟩ := b
  simp only [encMx, Mx.ksl, Mx.rsl] at *
  go_enter Try.func5, Try.ntmps5
  go_wp2_with fail
  try rw [hV]
  try rw [hM]
  clear hV a0 a1 b0 b1
  refine HF.out.mono ?_
  rintro e w1 ⟨rfl, hb1⟩
  obtain ⟨_, _, _, _, a0, a1, b0, b1⟩ := HIN.out w1 hb1
  have H1 := hid (HUP.out w1 hb1)
  have HB1 := hid hb1
  clear hb1 HF HUP
  go_wp2_with fail
  refine H1.out.mono ?_
  rintro e w2 ⟨u, rfl, ho2, hk2, hb2⟩
  have hb2' : Below V.heap.size V w2 := bel_then HB1.out HB1.out.size hb2
  have fu : FewM u := few_union HF2.out (by rw [hk2, HMA.out, HMB.out])
  obtain ⟨U, hU⟩ : ∃ U, w2.heap.size = U := ⟨_, rfl⟩
  obtain ⟨W3, hW3⟩ : ∃ W3, w2.alloc (.cells #[u.ksl, u.rsl] 25) = W3 := ⟨_, rfl⟩
  obtain ⟨h31, h32, h33⟩ := one_box w2 #[u.ksl, u.rsl] 25
  rw [hW3] at h31 h32 h33
  rw [hU] at h32 h33
  have hb3 : Below V.heap.size V W3 := bel_then hb2' hb2'.size h31
  have HIU : Hid (∀ W', Below W3.heap.size W3 W' → Below V.heap.size V W' ∧ MIn W' u ∧ W'.cell? ⟨U, 0, none⟩ = some u.ksl ∧ W'.cell? ⟨U, 1, none⟩ = some u.rsl) := fun W' hW => by
    have e1 := (hW.block U (by omega)).trans h32
    exact ⟨bel_then hb3 hb3.size hW, (ho2.on (bel_then h31 h31.size hW)).inn, by rw [Lib.cell_of_heap e1]; rfl, by rw [Lib.cell_of_heap e1]; rfl⟩
  have HFU := hid fu
  have HMU := hid hk2
  clear ho2 hk2 hb2 hb2' H1 HB1 fu h31 h32 h33 hb3
  obtain ⟨ukp, ukc, uks, urp, urc, urs⟩ := u
  simp only [encMx, Mx.ksl, Mx.rsl] at *
  -- what the calls answer
  have HCU : Hid (∀ W' u' q, Below W3.heap.size W3 W' → ChgIn W' u' q → q.length < 1500000000000 → Calls Try.prog 19 #[.agg #[.slice ukp uks.length ukc, .slice urp urs.length urc], u'] W' fun e w' => BoolPost W' (hitsM (unionM mka mkb) (q.map Cx.ch)) e w') := fun W' u' q hW hq hn => by
    have := HHI.out W' ⟨ukp, ukc, uks, urp, urc, urs⟩ u' q (HIU.out W' hW).1 (HIU.out W' hW).2.1 HFU.out hq hn
    rw [HMU.out] at this
    exact this
  have HCA : Hid (∀ W' u' q, Below W3.heap.size W3 W' → ChgIn W' u' q → q.length < 1500000000000 → Calls Try.prog 19 #[.agg #[.slice akp aks.length akc, .slice arp ars.length arc], u'] W' fun e w' => BoolPost W' (hitsM mka (q.map Cx.ch)) e w') := fun W' u' q hW hq hn => by
    have := HHI.out W' ⟨akp, akc, aks, arp, arc, ars⟩ u' q (HIU.out W' hW).1 (HIN.out W' (HIU.out W' hW).1).1 HFA.out hq hn
    rw [HMA.out] at this
    exact this
  have HCB : Hid (∀ W' u' q, Below W3.heap.size W3 W' → ChgIn W' u' q → q.length < 1500000000000 → Calls Try.prog 19 #[.agg #[.slice bkp bks.length bkc, .slice brp brs.length brc], u'] W' fun e w' => BoolPost W' (hitsM mkb (q.map Cx.ch)) e w') := fun W' u' q hW hq hn => by
    have := HHI.out W' ⟨bkp, bkc, bks, brp, brc, brs⟩ u' q (HIU.out W' hW).1 (HIN.out W' (HIU.out W' hW).1).2.1 HFB.out hq hn
    rw [HMB.out] at this
    exact this
  have HCL : Hid (∀ W', Below W3.heap.size W3 W' → ChgIn W' (.slice p l.length cap) l) := fun W' hW => (HIN.out W' (HIU.out W' hW).1).2.2.1
  have HCE : Hid (∀ W', Below W3.heap.size W3 W' → W'.cell? ⟨M, 0, none⟩ = some (.slice akp aks.length akc) ∧ W'.cell? ⟨M, 1, none⟩ = some (.slice arp ars.length arc) ∧ W'.cell? ⟨M + 1, 0, none⟩ = some (.slice bkp bks.length bkc) ∧ W'.cell? ⟨M + 1, 1, none⟩ = some (.slice brp brs.length brc) ∧ W'.cell? ⟨U, 0, none⟩ = some (.slice ukp uks.length ukc) ∧ W'.cell? ⟨U, 1, none⟩ = some (.slice urp urs.length urc)) := fun W' hW => by
    obtain ⟨h1, _, h3, h4⟩ := HIU.out W' hW
    obtain ⟨_, _, _, _, q0, q1, q2, q3⟩ := HIN.out W' h1
    exact ⟨q0, q1, q2, q3, h3, h4⟩
  have HBW : Hid (∀ W', Below W3.heap.size W3 W' → Below w.heap.size w W') := fun W' hW => (HIN.out W' (HIU.out W' hW).1).2.2.2.1
  go_wp2_with fail
  try rw [hW3]
  try rw [hU]
  clear hW3 a0 a1 b0 b1
  go_loopg [17] l.length (fun gg vi wr => ∃ i : Nat, vi = .int .i64 i ∧ i ≤ l.length ∧ l.length - i ≤ gg ∧ Hid (Below W3.heap.size W3 wr))
  case atStart => exact ⟨0, rfl, by omega, by omega, Below.refl _ _⟩
  case round =>
    obtain ⟨i, rfl, hi, hgk, HI⟩ := hrel
    by_cases hlt : i < l.length
    · have hltz : (i : Int) < (l.length : Int) := by omega
      have hiz : (0 : Int) ≤ i := by omega
      obtain ⟨b7, o7, rfl, _⟩ : ∃ b off, p = some ⟨b, off, none⟩ ∧ KCx.At wr b off l := by
        obtain ⟨p', c', he, h⟩ := (HCL.out wr HI.out).is
        injection he with e1 _ _
        subst e1
        rcases h with h | h
        · rw [h] at hlt; simp at hlt
        · exact h
      have HCO : Hid (∀ W', Below W3.heap.size W3 W' → ChgIn W' (.slice (some ⟨b7, o7 + i * 6, none⟩) 1 (cap - i)) [l[i]]) := fun W' hW => (HCL.out W' hW).one i hlt _
      have HCF : Hid (∀ W', Below W3.heap.size W3 W' → ChgIn W' (.slice (some ⟨b7, o7, none⟩) i cap) (l.take i)) := fun W' hW => (HCL.out W' hW).first i (by omega)
      have hlt' : (l.take i).length < 1500000000000 := by rw [List.length_take]; omega
      obtain ⟨BF, hBF⟩ : ∃ x, hitsM mka ((l.take i).map Cx.ch) = x := ⟨_, rfl⟩
      obtain ⟨BL, hBL⟩ : ∃ x, hitsM mka (l.map Cx.ch) = x := ⟨_, rfl⟩
      have HML : Hid (BF = true → BL = true) := fun h => by
        rw [← hBL]
        refine hits_more mka _ i ?_
        rw [← List.map_take, hBF, h]
      have HQF : Hid (∀ W', Below W3.heap.size W3 W' → Calls Try.prog 19 #[.agg #[.slice akp aks.length akc, .slice arp ars.length arc], .slice (some ⟨b7, o7, none⟩) i cap] W' fun e w' => BoolPost W' BF e w') := fun W' hW => by
        have := HCA.out W' _ _ hW (HCF.out W' hW) hlt'
        rwa [hBF] at this
      have HQL : Hid (∀ W', Below W3.heap.size W3 W' → Calls Try.prog 19 #[.agg #[.slice akp aks.length akc, .slice arp ars.length arc], .slice (some ⟨b7, o7, none⟩) l.length cap] W' fun e w' => BoolPost W' BL e w') := fun W' hW => by
        have := HCA.out W' _ _ hW (HCL.out W' hW) hl
        rwa [hBL] at this
      have hfk := HLK.out _ (List.getElem_mem hlt)
      have HKA : Hid (∀ W', Below W3.heap.size W3 W' → (W'.cell? ⟨b7, o7 + i * 6, none⟩ = some (.string (l[i]).a) ∧ W'.cell? ⟨b7, o7 + i * 6 + 1, none⟩ = some (.string (l[i]).b))) := fun W' hW => by
        obtain ⟨p', c', he, h⟩ := (HCL.out W' hW).is
        injection he with e1 _ _
        subst e1
        rcases h with h | ⟨b', o', e2, h⟩
        · rw [h] at hlt; simp at hlt
        · injection e2 with e2
          injection e2 with e3 e4 e5
          subst e3 e4
          exact ⟨h i hlt 0 _ rfl, h i hlt 1 _ rfl⟩
      clear hBF hBL HCF
      generalize l[i] = c at *
      have HFK := hid hfk
      obtain ⟨BU, hBU⟩ : ∃ x, hitsM (unionM mka mkb) [c.ch] = x := ⟨_, rfl⟩
      obtain ⟨BA, hBA⟩ : ∃ x, hitsM mka [c.ch] = x := ⟨_, rfl⟩
      obtain ⟨BB', hBB⟩ : ∃ x, hitsM mkb [c.ch] = x := ⟨_, rfl⟩
      have hbu : BU = (BA || BB') := by rw [← hBU, ← hBA, ← hBB]; exact hits_one mka mkb c.ch
      have HQU : Hid (∀ W', Below W3.heap.size W3 W' → Calls Try.prog 19 #[.agg #[.slice ukp uks.length ukc, .slice urp urs.length urc], .slice (some ⟨b7, o7 + i * 6, none⟩) 1 (cap - i)] W' fun e w' => BoolPost W' BU e w') := fun W' hW => by
        have := HCU.out W' _ _ hW (HCO.out W' hW) (by simp)
        rwa [show [c].map Cx.ch = [c.ch] from rfl, hBU] at this
      have HQA : Hid (∀ W', Below W3.heap.size W3 W' → Calls Try.prog 19 #[.agg #[.slice akp aks.length akc, .slice arp ars.length arc], .slice (some ⟨b7, o7 + i * 6, none⟩) 1 (cap - i)] W' fun e w' => BoolPost W' BA e w') := fun W' hW => by
        have := HCA.out W' _ _ hW (HCO.out W' hW) (by simp)
        rwa [show [c].map Cx.ch = [c.ch] from rfl, hBA] at this
      have HQB : Hid (∀ W', Below W3.heap.size W3 W' → Calls Try.prog 19 #[.agg #[.slice bkp bks.length bkc, .slice brp brs.length brc], .slice (some ⟨b7, o7 + i * 6, none⟩) 1 (cap - i)] W' fun e w' => BoolPost W' BB' e w') := fun W' hW => by
        have := HCB.out W' _ _ hW (HCO.out W' hW) (by simp)
        rwa [show [c].map Cx.ch = [c.ch] from rfl, hBB] at this
      have HQK : Hid (∀ W', Below W3.heap.size W3 W' → Calls Try.prog 10 #[.agg #[.slice akp aks.length akc, .slice arp ars.length arc], .agg #[.string c.a, .string c.b]] W' fun e w' => MOwnPost W' (keyM mka (c.a, c.b)) e w') := fun W' hW => HKP.out W' (c.a, c.b) (HIU.out W' hW).1 HFK.out
      have HQM : Hid (∀ W' W'' m, Below W3.heap.size W3 W' → MOwn W'.heap.size W'' m → m.mk' = keyM mka (c.a, c.b) → Below W'.heap.size W' W'' → Calls Try.prog 19 #[.agg #[m.ksl, m.rsl], .slice (some ⟨b7, o7 + i * 6, none⟩) 1 (cap - i)] W'' fun e w' => BoolPost W'' true e w') := fun W' W'' m hW ho hk hb => by
        have hW2 : Below W3.heap.size W3 W'' := bel_then hW hW.size hb
        have := HHI.out W'' m _ _ (HIU.out W'' hW2).1 ho.inn (few_key (a := ⟨akp, akc, aks, arp, arc, ars⟩) (k := (c.a, c.b)) (by have := HF2.out.1; simp only at this ⊢; omega) (by have := HF2.out.2; simp only at this ⊢; omega) (by rw [hk, HMA.out])) (HCO.out W'' hW2) (by simp)
        rw [show [c].map Cx.ch = [c.ch] from rfl, hk] at this
        rwa [show hitsM (keyM mka (c.a, c.b)) [c.ch] = true from hits_key mka c.ch] at this
      clear hBU hBA hBB hfk
      have HS8 : Hid (∀ W, Below W3.heap.size W3 W → W.cell? ⟨M, 0, none⟩ = some (.slice akp aks.length akc) ∧ W.cell? ⟨M, 1, none⟩ = some (.slice arp ars.length arc) ∧ W.cell? ⟨M + 1, 0, none⟩ = some (.slice bkp bks.length bkc) ∧ W.cell? ⟨M + 1, 1, none⟩ = some (.slice brp brs.length brc) ∧ W.cell? ⟨U, 0, none⟩ = some (.slice ukp uks.length ukc) ∧ W.cell? ⟨U, 1, none⟩ = some (.slice urp urs.length urc) ∧ W.cell? ⟨b7, o7 + i * 6, none⟩ = some (.string c.a) ∧ W.cell? ⟨b7, o7 + i * 6 + 1, none⟩ = some (.string c.b)) := fun W hW => by
        obtain ⟨q0, q1, q2, q3, q4, q5⟩ := HCE.out W hW
        obtain ⟨q6, q7⟩ := HKA.out W hW
        exact ⟨q0, q1, q2, q3, q4, q5, q6, q7⟩
      have hcz : (i : Int) + 1 ≤ (cap : Int) := by omega
      have hcz1 : (i : Int) ≤ (i : Int) + 1 := by omega
      have hcz0 : (0 : Int) ≤ (i : Int) + 1 := by omega
      have hci : ¬ cap = i := by omega
      have hcs : ((i : Int) + 1 - (i : Int)).toNat = 1 := by omega
      clear HCO HKA HCL HCU HCA HCB
      go_upto_region 8 with fail
      go_cut [48] from 25 to 60 (fun v wx => v = .bool false ∧ Hid (Below W3.heap.size W3 wx))
      case first =>
        refine wp_region_held_drew (S := fun W => W.cell? ⟨M, 0, none⟩ = some (.slice akp aks.length akc) ∧ W.cell? ⟨M, 1, none⟩ = some (.slice arp ars.length arc) ∧ W.cell? ⟨M + 1, 0, none⟩ = some (.slice bkp bks.length bkc) ∧ W.cell? ⟨M + 1, 1, none⟩ = some (.slice brp brs.length brc) ∧ W.cell? ⟨U, 0, none⟩ = some (.slice ukp uks.length ukc) ∧ W.cell? ⟨U, 1, none⟩ = some (.slice urp urs.length urc) ∧ W.cell? ⟨b7, o7 + i * 6, none⟩ = some (.string c.a) ∧ W.cell? ⟨b7, o7 + i * 6 + 1, none⟩ = some (.string c.b)) (by kernel_rfl) (HS8.out wr.drew (bel_drewN HI.out 1)) (fun hHeld => ?_)
        refine take_val (i := 0) (.agg #[.slice ukp uks.length ukc, .slice urp urs.length urc]) rfl (by kernel_rfl) (by kernel_rfl) (by kernel_rfl) (fun _ _ _ h => h) (by rfl) (fun w hSw => by go_simp) hHeld ?_
        simp only [Act.put, List.setIfInBounds_toArray, List.set_cons_zero, List.set_cons_succ]
        refine take_val (i := 1) (.slice (some ⟨b7, o7 + i * 6, none⟩) 1 (cap - i)) rfl (by kernel_rfl) (by kernel_rfl) (by kernel_rfl) (fun _ _ _ h => h) (by rfl) (fun w hSw => by go_simp) hHeld ?_
        simp only [Act.put, List.setIfInBounds_toArray, List.set_cons_zero, List.set_cons_succ]
        refine take_val (i := 3) (.agg #[.slice akp aks.length akc, .slice arp ars.length arc]) rfl (by kernel_rfl) (by kernel_rfl) (by kernel_rfl) (fun _ _ _ h => h) (by rfl) (fun w hSw => by go_simp) hHeld ?_
        simp only [Act.put, List.setIfInBounds_toArray, List.set_cons_zero, List.set_cons_succ]
        refine take_val (i := 4) (.slice (some ⟨b7, o7 + i * 6, none⟩) 1 (cap - i)) rfl (by kernel_rfl) (by kernel_rfl) (by kernel_rfl) (fun _ _ _ h => h) (by rfl) (fun w hSw => by go_simp) hHeld ?_
        simp only [Act.put, List.setIfInBounds_toArray, List.set_cons_zero, List.set_cons_succ]
        clear hHeld
        refine wpAnyH_ready (rs := [2]) (by kernel_rfl) (by simp) ?_
        refine AllReadyH.cons (at_drop0 rfl) (fun K hK => ?_) AllReadyH.nil
        rw [if_pos (by rfl)]
        go_simp
        refine (HQU.out wr.drew (bel_drewN HI.out 1)).mono ?_
        rintro e x1 ⟨rfl, hb1⟩
        have HX1 : Hid (Below W3.heap.size W3 x1) := bel_then (bel_drewN HI.out 1) (bel_drewN HI.out 1).size hb1
        clear hb1
        go_wp2_with fail
        refine hK.out _ _ ((HS8.out x1 HX1.out)) (fun hHeld => ?_)
        clear hK K
        try simp only [Act.put, List.setIfInBounds_toArray, List.set_cons_zero, List.set_cons_succ]
        clear hHeld
        refine wpAnyH_ready (rs := [5]) (by kernel_rfl) (by simp) ?_
        refine AllReadyH.cons (at_drop0 rfl) (fun K hK => ?_) AllReadyH.nil
        rw [if_pos (by rfl)]
        go_simp
        refine (HQA.out x1 HX1.out).mono ?_
        rintro e x2 ⟨rfl, hb2⟩
        have HX2 : Hid (Below W3.heap.size W3 x2) := bel_then HX1.out HX1.out.size hb2
        clear hb2 HX1
        cases BA with
        | true =>
          obtain rfl : BU = true := hbu
          try clear hbu
          go_wp2_with fail
          refine hK.out _ _ ((HS8.out x2 HX2.out)) (fun hHeld => ?_)
          clear hK K
          try simp only [Act.put, List.setIfInBounds_toArray, List.set_cons_zero, List.set_cons_succ]
          refine take_val (i := 6) (.bool true) rfl (by kernel_rfl) (by kernel_rfl) (by kernel_rfl) (fun _ _ _ h => h) (by rfl) (fun w hSw => by go_simp) hHeld ?_
          simp only [Act.put, List.setIfInBounds_toArray, List.set_cons_zero, List.set_cons_succ]
          refine take_not (i := 7) rfl (by kernel_rfl) (by kernel_rfl) (by kernel_rfl) (fun _ _ _ h => h) (by rfl) hHeld ?_
          simp only [Act.put, List.setIfInBounds_toArray, List.set_cons_zero, List.set_cons_succ]
          refine take_not (i := 8) rfl (by kernel_rfl) (by kernel_rfl) (by kernel_rfl) (fun _ _ _ h => h) (by rfl) hHeld ?_
          simp only [Act.put, List.setIfInBounds_toArray, List.set_cons_zero, List.set_cons_succ]
          refine take_not (i := 9) rfl (by kernel_rfl) (by kernel_rfl) (by kernel_rfl) (fun _ _ _ h => h) (by rfl) hHeld ?_
          simp only [Act.put, List.setIfInBounds_toArray, List.set_cons_zero, List.set_cons_succ]
          refine take_val (i := 10) (.bool true) rfl (by kernel_rfl) (by kernel_rfl) (by kernel_rfl) (fun _ _ _ h => h) (by rfl) (fun w hSw => by go_simp) hHeld ?_
          simp only [Act.put, List.setIfInBounds_toArray, List.set_cons_zero, List.set_cons_succ]
          have hg11 : (true != true) = false := by first | rfl | (cases true <;> rfl)
          refine take_val (i := 11) (.bool false) rfl (by kernel_rfl) (by kernel_rfl) (by kernel_rfl) (fun _ _ _ h => h) (by rfl) (fun w hSw => by go_simp) hHeld ?_
          simp only [Act.put, List.setIfInBounds_toArray, List.set_cons_zero, List.set_cons_succ]
          refine take_val (i := 12) (.bool false) rfl (by kernel_rfl) (by kernel_rfl) (by kernel_rfl) (fun _ _ _ h => h) (by rfl) (fun w hSw => by go_simp) hHeld ?_
          simp only [Act.put, List.setIfInBounds_toArray, List.set_cons_zero, List.set_cons_succ]
          refine take_val (i := 13) (.agg #[.slice akp aks.length akc, .slice arp ars.length arc]) rfl (by kernel_rfl) (by kernel_rfl) (by kernel_rfl) (fun _ _ _ h => h) (by rfl) (fun w hSw => by go_simp) hHeld ?_
          simp only [Act.put, List.setIfInBounds_toArray, List.set_cons_zero, List.set_cons_succ]
          refine take_val (i := 14) (.slice (some ⟨b7, o7, none⟩) l.length cap) rfl (by kernel_rfl) (by kernel_rfl) (by kernel_rfl) (fun _ _ _ h => h) (by rfl) (fun w hSw => by go_simp) hHeld ?_
          simp only [Act.put, List.setIfInBounds_toArray, List.set_cons_zero, List.set_cons_succ]
          refine take_val (i := 15) (.int .i64 i) rfl (by kernel_rfl) (by kernel_rfl) (by kernel_rfl) (fun _ _ _ h => h) (by rfl) (fun w hSw => by go_simp) hHeld ?_
          simp only [Act.put, List.setIfInBounds_toArray, List.set_cons_zero, List.set_cons_succ]
          refine take_val (i := 16) (.pointer (some ⟨b7, o7 + i * 6, none⟩)) rfl (by kernel_rfl) (by kernel_rfl) (by kernel_rfl) (fun _ _ _ h => h) (by rfl) (fun w hSw => by go_simp) hHeld ?_
          simp only [Act.put, List.setIfInBounds_toArray, List.set_cons_zero, List.set_cons_succ]
          refine take_val (i := 17) (.pointer (some ⟨b7, o7 + i * 6, none⟩)) rfl (by kernel_rfl) (by kernel_rfl) (by kernel_rfl) (fun _ _ _ h => h) (by rfl) (fun w hSw => by go_simp) hHeld ?_
          simp only [Act.put, List.setIfInBounds_toArray, List.set_cons_zero, List.set_cons_succ]
          refine take_val (i := 18) (.agg #[.string c.a, .string c.b]) rfl (by kernel_rfl) (by kernel_rfl) (by kernel_rfl) (fun _ _ _ h => h) (by rfl) (fun w hSw => by go_simp) hHeld ?_
          simp only [Act.put, List.setIfInBounds_toArray, List.set_cons_zero, List.set_cons_succ]
          refine take_val (i := 20) (.slice (some ⟨b7, o7 + i * 6, none⟩) 1 (cap - i)) rfl (by kernel_rfl) (by kernel_rfl) (by kernel_rfl) (fun _ _ _ h => h) (by rfl) (fun w hSw => by go_simp) hHeld ?_
          simp only [Act.put, List.setIfInBounds_toArray, List.set_cons_zero, List.set_cons_succ]
          clear hHeld hg11
          refine wpAnyH_ready (rs := [19]) (by kernel_rfl) (by simp) ?_
          refine AllReadyH.cons (at_drop0 rfl) (fun K hK => ?_) AllReadyH.nil
          rw [if_pos (by rfl)]
          go_simp
          refine (HQK.out x2 HX2.out).mono ?_
          rintro e x3 ⟨mk3, rfl, ho3, hk3, hb3⟩
          have H21 := hid (HQM.out x2 x3 mk3 HX2.out ho3 hk3 hb3)
          have HX3 : Hid (Below W3.heap.size W3 x3) := bel_then HX2.out HX2.out.size hb3
          clear ho3 hk3 hb3
          obtain ⟨gkp, gkc, gks, grp, grc, grs⟩ := mk3
          simp only [encMx, Mx.ksl, Mx.rsl] at H21 ⊢
          go_wp2_with fail
          refine hK.out _ _ ((HS8.out x3 HX3.out)) (fun hHeld => ?_)
          clear hK K
          try simp only [Act.put, List.setIfInBounds_toArray, List.set_cons_zero, List.set_cons_succ]
          clear hHeld
          refine wpAnyH_ready (rs := [21]) (by kernel_rfl) (by simp) ?_
          refine AllReadyH.cons (at_drop0 rfl) (fun K hK => ?_) AllReadyH.nil
          rw [if_pos (by rfl)]
          go_simp
          refine H21.out.mono ?_
          rintro e x4 ⟨rfl, hb4⟩
          have HX4 : Hid (Below W3.heap.size W3 x4) := bel_then HX3.out HX3.out.size hb4
          clear hb4 H21 HX3
          go_wp2_with fail
          refine hK.out _ _ ((HS8.out x4 HX4.out)) (fun hHeld => ?_)
          clear hK K
          try simp only [Act.put, List.setIfInBounds_toArray, List.set_cons_zero, List.set_cons_succ]
          refine take_val (i := 22) (.bool false) rfl (by kernel_rfl) (by kernel_rfl) (by kernel_rfl) (fun _ _ _ h => h) (by rfl) (fun w hSw => by go_simp) hHeld ?_
          simp only [Act.put, List.setIfInBounds_toArray, List.set_cons_zero, List.set_cons_succ]
          refine take_val (i := 23) (.bool false) rfl (by kernel_rfl) (by kernel_rfl) (by kernel_rfl) (fun _ _ _ h => h) (by rfl) (fun w hSw => by go_simp) hHeld ?_
          simp only [Act.put, List.setIfInBounds_toArray, List.set_cons_zero, List.set_cons_succ]
          refine wpAnyH_done (by kernel_rfl) ?_ _
          clear hHeld
          go_wp2_with fail
          go_meet
          case rel => exact ⟨rfl, HX4.out⟩
        | false =>
          obtain rfl : BU = BB' := hbu
          go_wp2_with fail
          refine hK.out _ _ ((HS8.out x2 HX2.out)) (fun hHeld => ?_)
          clear hK K
          try simp only [Act.put, List.setIfInBounds_toArray, List.set_cons_zero, List.set_cons_succ]
          refine take_val (i := 6) (.bool false) rfl (by kernel_rfl) (by kernel_rfl) (by kernel_rfl) (fun _ _ _ h => h) (by rfl) (fun w hSw => by go_simp) hHeld ?_
          simp only [Act.put, List.setIfInBounds_toArray, List.set_cons_zero, List.set_cons_succ]
          refine take_val (i := 7) (.agg #[.slice bkp bks.length bkc, .slice brp brs.length brc]) rfl (by kernel_rfl) (by kernel_rfl) (by kernel_rfl) (fun _ _ _ h => h) (by rfl) (fun w hSw => by go_simp) hHeld ?_
          simp only [Act.put, List.setIfInBounds_toArray, List.set_cons_zero, List.set_cons_succ]
          refine take_val (i := 8) (.slice (some ⟨b7, o7 + i * 6, none⟩) 1 (cap - i)) rfl (by kernel_rfl) (by kernel_rfl) (by kernel_rfl) (fun _ _ _ h => h) (by rfl) (fun w hSw => by go_simp) hHeld ?_
          simp only [Act.put, List.setIfInBounds_toArray, List.set_cons_zero, List.set_cons_succ]
          clear hHeld
          refine wpAnyH_ready (rs := [9]) (by kernel_rfl) (by simp) ?_
          refine AllReadyH.cons (at_drop0 rfl) (fun K hK => ?_) AllReadyH.nil
          rw [if_pos (by rfl)]
          go_simp
          refine (HQB.out x2 HX2.out).mono ?_
          rintro e wz ⟨rfl, hbz⟩
          have HBZ : Hid (Below W3.heap.size W3 wz) := bel_then HX2.out HX2.out.size hbz
          clear hbz HX2
          go_wp2_with fail
          refine hK.out _ _ ((HS8.out wz HBZ.out)) (fun hHeld => ?_)
          clear hK K
          try simp only [Act.put, List.setIfInBounds_toArray, List.set_cons_zero, List.set_cons_succ]
          refine take_val (i := 10) (.bool BU) rfl (by kernel_rfl) (by kernel_rfl) (by kernel_rfl) (fun _ _ _ h => h) (by rfl) (fun w hSw => by go_simp) hHeld ?_
          simp only [Act.put, List.setIfInBounds_toArray, List.set_cons_zero, List.set_cons_succ]
          have hg11 : (BU != BU) = false := by first | rfl | (cases BU <;> rfl)
          refine take_val (i := 11) (.bool false) rfl (by kernel_rfl) (by kernel_rfl) (by kernel_rfl) (fun _ _ _ h => h) (by rfl) (fun w hSw => by go_simp) hHeld ?_
          simp only [Act.put, List.setIfInBounds_toArray, List.set_cons_zero, List.set_cons_succ]
          refine take_val (i := 12) (.bool false) rfl (by kernel_rfl) (by kernel_rfl) (by kernel_rfl) (fun _ _ _ h => h) (by rfl) (fun w hSw => by go_simp) hHeld ?_
          simp only [Act.put, List.setIfInBounds_toArray, List.set_cons_zero, List.set_cons_succ]
          refine take_val (i := 13) (.agg #[.slice akp aks.length akc, .slice arp ars.length arc]) rfl (by kernel_rfl) (by kernel_rfl) (by kernel_rfl) (fun _ _ _ h => h) (by rfl) (fun w hSw => by go_simp) hHeld ?_
          simp only [Act.put, List.setIfInBounds_toArray, List.set_cons_zero, List.set_cons_succ]
          refine take_val (i := 14) (.slice (some ⟨b7, o7, none⟩) l.length cap) rfl (by kernel_rfl) (by kernel_rfl) (by kernel_rfl) (fun _ _ _ h => h) (by rfl) (fun w hSw => by go_simp) hHeld ?_
          simp only [Act.put, List.setIfInBounds_toArray, List.set_cons_zero, List.set_cons_succ]
          refine take_val (i := 15) (.int .i64 i) rfl (by kernel_rfl) (by kernel_rfl) (by kernel_rfl) (fun _ _ _ h => h) (by rfl) (fun w hSw => by go_simp) hHeld ?_
          simp only [Act.put, List.setIfInBounds_toArray, List.set_cons_zero, List.set_cons_succ]
          refine take_val (i := 16) (.pointer (some ⟨b7, o7 + i * 6, none⟩)) rfl (by kernel_rfl) (by kernel_rfl) (by kernel_rfl) (fun _ _ _ h => h) (by rfl) (fun w hSw => by go_simp) hHeld ?_
          simp only [Act.put, List.setIfInBounds_toArray, List.set_cons_zero, List.set_cons_succ]
          refine take_val (i := 17) (.pointer (some ⟨b7, o7 + i * 6, none⟩)) rfl (by kernel_rfl) (by kernel_rfl) (by kernel_rfl) (fun _ _ _ h => h) (by rfl) (fun w hSw => by go_simp) hHeld ?_
          simp only [Act.put, List.setIfInBounds_toArray, List.set_cons_zero, List.set_cons_succ]
          refine take_val (i := 18) (.agg #[.string c.a, .string c.b]) rfl (by kernel_rfl) (by kernel_rfl) (by kernel_rfl) (fun _ _ _ h => h) (by rfl) (fun w hSw => by go_simp) hHeld ?_
          simp only [Act.put, List.setIfInBounds_toArray, List.set_cons_zero, List.set_cons_succ]
          refine take_val (i := 20) (.slice (some ⟨b7, o7 + i * 6, none⟩) 1 (cap - i)) rfl (by kernel_rfl) (by kernel_rfl) (by kernel_rfl) (fun _ _ _ h => h) (by rfl) (fun w hSw => by go_simp) hHeld ?_
          simp only [Act.put, List.setIfInBounds_toArray, List.set_cons_zero, List.set_cons_succ]
          clear hHeld hg11
          refine wpAnyH_ready (rs := [19]) (by kernel_rfl) (by simp) ?_
          refine AllReadyH.cons (at_drop0 rfl) (fun K hK => ?_) AllReadyH.nil
          rw [if_pos (by rfl)]
          go_simp
          refine (HQK.out wz HBZ.out).mono ?_
          rintro e x3 ⟨mk3, rfl, ho3, hk3, hb3⟩
          have H21 := hid (HQM.out wz x3 mk3 HBZ.out ho3 hk3 hb3)
          have HX3 : Hid (Below W3.heap.size W3 x3) := bel_then HBZ.out HBZ.out.size hb3
          clear ho3 hk3 hb3
          obtain ⟨gkp, gkc, gks, grp, grc, grs⟩ := mk3
          simp only [encMx, Mx.ksl, Mx.rsl] at H21 ⊢
          go_wp2_with fail
          refine hK.out _ _ ((HS8.out x3 HX3.out)) (fun hHeld => ?_)
          clear hK K
          try simp only [Act.put, List.setIfInBounds_toArray, List.set_cons_zero, List.set_cons_succ]
          clear hHeld
          refine wpAnyH_ready (rs := [21]) (by kernel_rfl) (by simp) ?_
          refine AllReadyH.cons (at_drop0 rfl) (fun K hK => ?_) AllReadyH.nil
          rw [if_pos (by rfl)]
          go_simp
          refine H21.out.mono ?_
          rintro e x4 ⟨rfl, hb4⟩
          have HX4 : Hid (Below W3.heap.size W3 x4) := bel_then HX3.out HX3.out.size hb4
          clear hb4 H21 HX3
          go_wp2_with fail
          refine hK.out _ _ ((HS8.out x4 HX4.out)) (fun hHeld => ?_)
          clear hK K
          try simp only [Act.put, List.setIfInBounds_toArray, List.set_cons_zero, List.set_cons_succ]
          refine take_val (i := 22) (.bool false) rfl (by kernel_rfl) (by kernel_rfl) (by kernel_rfl) (fun _ _ _ h => h) (by rfl) (fun w hSw => by go_simp) hHeld ?_
          simp only [Act.put, List.setIfInBounds_toArray, List.set_cons_zero, List.set_cons_succ]
          refine take_val (i := 23) (.bool false) rfl (by kernel_rfl) (by kernel_rfl) (by kernel_rfl) (fun _ _ _ h => h) (by rfl) (fun w hSw => by go_simp) hHeld ?_
          simp only [Act.put, List.setIfInBounds_toArray, List.set_cons_zero, List.set_cons_succ]
          refine wpAnyH_done (by kernel_rfl) ?_ _
          clear hHeld
          go_wp2_with fail
          go_meet
          case rel => exact ⟨rfl, HX4.out⟩
      case rest =>
        obtain ⟨rfl, HWC⟩ := hcut
        clear HQU HQA HQB HQK HQM HI hbu
        have j1 : (i : Int) ≤ (cap : Int) := by omega
        have j2 : (i : Int) - 0 = (i : Int) := by omega
        go_upto_region 10 with fail
        go_cut [59] from 25 to 60 (fun v wx => v = .bool false ∧ Hid (Below W3.heap.size W3 wx))
        case first =>
          refine wp_region_held_drew (S := fun W => W.cell? ⟨M, 0, none⟩ = some (.slice akp aks.length akc) ∧ W.cell? ⟨M, 1, none⟩ = some (.slice arp ars.length arc) ∧ W.cell? ⟨M + 1, 0, none⟩ = some (.slice bkp bks.length bkc) ∧ W.cell? ⟨M + 1, 1, none⟩ = some (.slice brp brs.length brc) ∧ W.cell? ⟨U, 0, none⟩ = some (.slice ukp uks.length ukc) ∧ W.cell? ⟨U, 1, none⟩ = some (.slice urp urs.length urc) ∧ W.cell? ⟨b7, o7 + i * 6, none⟩ = some (.string c.a) ∧ W.cell? ⟨b7, o7 + i * 6 + 1, none⟩ = some (.string c.b)) (by kernel_rfl) (HS8.out wc.drew (bel_drewN HWC.out 1)) (fun hHeld => ?_)
          refine take_val (i := 0) (.agg #[.slice akp aks.length akc, .slice arp ars.length arc]) rfl (by kernel_rfl) (by kernel_rfl) (by kernel_rfl) (fun _ _ _ h => h) (by rfl) (fun w hSw => by go_simp) hHeld ?_
          simp only [Act.put, List.setIfInBounds_toArray, List.set_cons_zero, List.set_cons_succ]
          refine take_val (i := 1) (.slice (some ⟨b7, o7, none⟩) l.length cap) rfl (by kernel_rfl) (by kernel_rfl) (by kernel_rfl) (fun _ _ _ h => h) (by rfl) (fun w hSw => by go_simp) hHeld ?_
          simp only [Act.put, List.setIfInBounds_toArray, List.set_cons_zero, List.set_cons_succ]
          refine take_val (i := 2) (.int .i64 i) rfl (by kernel_rfl) (by kernel_rfl) (by kernel_rfl) (fun _ _ _ h => h) (by rfl) (fun w hSw => by go_simp) hHeld ?_
          simp only [Act.put, List.setIfInBounds_toArray, List.set_cons_zero, List.set_cons_succ]
          refine take_val (i := 3) (.slice (some ⟨b7, o7, none⟩) i cap) rfl (by kernel_rfl) (by kernel_rfl) (by kernel_rfl) (fun _ _ _ h => h) (by rfl) (fun w hSw => by go_simp) hHeld ?_
          simp only [Act.put, List.setIfInBounds_toArray, List.set_cons_zero, List.set_cons_succ]
          clear hHeld
          refine wpAnyH_ready (rs := [4]) (by kernel_rfl) (by simp) ?_
          refine AllReadyH.cons (at_drop0 rfl) (fun K hK => ?_) AllReadyH.nil
          rw [if_pos (by rfl)]
          go_simp
          refine (HQF.out wc.drew (bel_drewN HWC.out 1)).mono ?_
          rintro e x1 ⟨rfl, hb1⟩
          have HX1 : Hid (Below W3.heap.size W3 x1) := bel_then (bel_drewN HWC.out 1) (bel_drewN HWC.out 1).size hb1
          clear hb1
          cases BF with
          | false =>
            go_wp2_with fail
            refine hK.out _ _ ((HS8.out x1 HX1.out)) (fun hHeld => ?_)
            clear hK K
            try simp only [Act.put, List.setIfInBounds_toArray, List.set_cons_zero, List.set_cons_succ]
            refine take_val (i := 5) (.bool false) rfl (by kernel_rfl) (by kernel_rfl) (by kernel_rfl) (fun _ _ _ h => h) (by rfl) (fun w hSw => by go_simp) hHeld ?_
            simp only [Act.put, List.setIfInBounds_toArray, List.set_cons_zero, List.set_cons_succ]
            refine take_not (i := 6) rfl (by kernel_rfl) (by kernel_rfl) (by kernel_rfl) (fun _ _ _ h => h) (by rfl) hHeld ?_
            simp only [Act.put, List.setIfInBounds_toArray, List.set_cons_zero, List.set_cons_succ]
            refine take_not (i := 7) rfl (by kernel_rfl) (by kernel_rfl) (by kernel_rfl) (fun _ _ _ h => h) (by rfl) hHeld ?_
            simp only [Act.put, List.setIfInBounds_toArray, List.set_cons_zero, List.set_cons_succ]
            refine take_not (i := 8) rfl (by kernel_rfl) (by kernel_rfl) (by kernel_rfl) (fun _ _ _ h => h) (by rfl) hHeld ?_
            simp only [Act.put, List.setIfInBounds_toArray, List.set_cons_zero, List.set_cons_succ]
            refine take_not (i := 9) rfl (by kernel_rfl) (by kernel_rfl) (by kernel_rfl) (fun _ _ _ h => h) (by rfl) hHeld ?_
            simp only [Act.put, List.setIfInBounds_toArray, List.set_cons_zero, List.set_cons_succ]
            refine take_val (i := 10) (.bool false) rfl (by kernel_rfl) (by kernel_rfl) (by kernel_rfl) (fun _ _ _ h => h) (by rfl) (fun w hSw => by go_simp) hHeld ?_
            simp only [Act.put, List.setIfInBounds_toArray, List.set_cons_zero, List.set_cons_succ]
            refine wpAnyH_done (by kernel_rfl) ?_ _
            clear hHeld
            go_wp2_with fail
            go_meet
            case rel => exact ⟨rfl, HX1.out⟩
          | true =>
            obtain rfl : BL = true := HML.out rfl
            go_wp2_with fail
            refine hK.out _ _ ((HS8.out x1 HX1.out)) (fun hHeld => ?_)
            clear hK K
            try simp only [Act.put, List.setIfInBounds_toArray, List.set_cons_zero, List.set_cons_succ]
            refine take_val (i := 5) (.bool true) rfl (by kernel_rfl) (by kernel_rfl) (by kernel_rfl) (fun _ _ _ h => h) (by rfl) (fun w hSw => by go_simp) hHeld ?_
            simp only [Act.put, List.setIfInBounds_toArray, List.set_cons_zero, List.set_cons_succ]
            refine take_val (i := 6) (.agg #[.slice akp aks.length akc, .slice arp ars.length arc]) rfl (by kernel_rfl) (by kernel_rfl) (by kernel_rfl) (fun _ _ _ h => h) (by rfl) (fun w hSw => by go_simp) hHeld ?_
            simp only [Act.put, List.setIfInBounds_toArray, List.set_cons_zero, List.set_cons_succ]
            refine take_val (i := 7) (.slice (some ⟨b7, o7, none⟩) l.length cap) rfl (by kernel_rfl) (by kernel_rfl) (by kernel_rfl) (fun _ _ _ h => h) (by rfl) (fun w hSw => by go_simp) hHeld ?_
            simp only [Act.put, List.setIfInBounds_toArray, List.set_cons_zero, List.set_cons_succ]
            clear hHeld
            refine wpAnyH_ready (rs := [8]) (by kernel_rfl) (by simp) ?_
            refine AllReadyH.cons (at_drop0 rfl) (fun K hK => ?_) AllReadyH.nil
            rw [if_pos (by rfl)]
            go_simp
            refine (HQL.out x1 HX1.out).mono ?_
            rintro e x2 ⟨rfl, hb2⟩
            have HX2 : Hid (Below W3.heap.size W3 x2) := bel_then HX1.out HX1.out.size hb2
            clear hb2
            go_wp2_with fail
            refine hK.out _ _ ((HS8.out x2 HX2.out)) (fun hHeld => ?_)
            clear hK K
            try simp only [Act.put, List.setIfInBounds_toArray, List.set_cons_zero, List.set_cons_succ]
            refine take_val (i := 9) (.bool false) rfl (by kernel_rfl) (by kernel_rfl) (by kernel_rfl) (fun _ _ _ h => h) (by rfl) (fun w hSw => by go_simp) hHeld ?_
            simp only [Act.put, List.setIfInBounds_toArray, List.set_cons_zero, List.set_cons_succ]
            refine take_val (i := 10) (.bool false) rfl (by kernel_rfl) (by kernel_rfl) (by kernel_rfl) (fun _ _ _ h => h) (by rfl) (fun w hSw => by go_simp) hHeld ?_
            simp only [Act.put, List.setIfInBounds_toArray, List.set_cons_zero, List.set_cons_succ]
            refine wpAnyH_done (by kernel_rfl) ?_ _
            clear hHeld
            go_wp2_with fail
            go_meet
            case rel => exact ⟨rfl, HX2.out⟩
        case rest =>
          obtain ⟨rfl, HWD⟩ := hcut
          clear HQF HQL HML HWC
          go_wp2_with fail
          go_roundg (l.length - (i + 1))
          case measure => omega
          exact ⟨i + 1, by go_num, by omega, by omega, HWD.out⟩
    · have hltz : ¬ (i : Int) < (l.length : Int) := by omega
      obtain ⟨BU, hBU⟩ : ∃ x, hitsM (unionM mka mkb) (l.map Cx.ch) = x := ⟨_, rfl⟩
      obtain ⟨BA, hBA⟩ : ∃ x, hitsM mka (l.map Cx.ch) = x := ⟨_, rfl⟩
      obtain ⟨BB', hBB⟩ : ∃ x, hitsM mkb (l.map Cx.ch) = x := ⟨_, rfl⟩
      have hbu : BU = (BA || BB') := by rw [← hBU, ← hBA, ← hBB]; exact hits_union mka mkb _
      have HQU : Hid (∀ W', Below W3.heap.size W3 W' → Calls Try.prog 19 #[.agg #[.slice ukp uks.length ukc, .slice urp urs.length urc], .slice p l.length cap] W' fun e w' => BoolPost W' BU e w') := fun W' hW => by
        have := HCU.out W' _ _ hW (HCL.out W' hW) hl
        rwa [hBU] at this
      have HQA : Hid (∀ W', Below W3.heap.size W3 W' → Calls Try.prog 19 #[.agg #[.slice akp aks.length akc, .slice arp ars.length arc], .slice p l.length cap] W' fun e w' => BoolPost W' BA e w') := fun W' hW => by
        have := HCA.out W' _ _ hW (HCL.out W' hW) hl
        rwa [hBA] at this
      have HQB : Hid (∀ W', Below W3.heap.size W3 W' → Calls Try.prog 19 #[.agg #[.slice bkp bks.length bkc, .slice brp brs.length brc], .slice p l.length cap] W' fun e w' => BoolPost W' BB' e w') := fun W' hW => by
        have := HCB.out W' _ _ hW (HCL.out W' hW) hl
        rwa [hBB] at this
      have HQE : Hid (∀ W', Below W3.heap.size W3 W' → Calls Try.prog 19 #[.agg #[.slice none 0 0, .slice none 0 0], .slice p l.length cap] W' fun e w' => BoolPost W' false e w') := fun W' hW => by
        have := HHI.out W' ⟨none, 0, [], none, 0, []⟩ _ _ (HIU.out W' hW).1 ⟨KK.is_nil W', KRx.is_nil W', fun r hr => by cases hr⟩ ⟨by decide, by decide⟩ (HCL.out W' hW) hl
        rwa [show hitsM (⟨none, 0, [], none, 0, []⟩ : Mx).mk' (l.map Cx.ch) = false from hits_none _] at this
      clear hBU hBA hBB HCU HCA HCB HCL HHI
      go_upto_region 13 with fail
      refine wp_region_held_drew (S := fun W => W.cell? ⟨M, 0, none⟩ = some (.slice akp aks.length akc) ∧ W.cell? ⟨M, 1, none⟩ = some (.slice arp ars.length arc) ∧ W.cell? ⟨M + 1, 0, none⟩ = some (.slice bkp bks.length bkc) ∧ W.cell? ⟨M + 1, 1, none⟩ = some (.slice brp brs.length brc) ∧ W.cell? ⟨U, 0, none⟩ = some (.slice ukp uks.length ukc) ∧ W.cell? ⟨U, 1, none⟩ = some (.slice urp urs.length urc)) (by kernel_rfl) (HCE.out wr.drew (bel_drewN HI.out 1)) (fun hHeld => ?_)
      refine take_val (i := 0) (.agg #[.slice ukp uks.length ukc, .slice urp urs.length urc]) rfl (by kernel_rfl) (by kernel_rfl) (by kernel_rfl) (fun _ _ _ h => h) (by rfl) (fun w hSw => by go_simp) hHeld ?_
      simp only [Act.put, List.setIfInBounds_toArray, List.set_cons_zero, List.set_cons_succ]
      refine take_val (i := 1) (.slice p l.length cap) rfl (by kernel_rfl) (by kernel_rfl) (by kernel_rfl) (fun _ _ _ h => h) (by rfl) (fun w hSw => by go_simp) hHeld ?_
      simp only [Act.put, List.setIfInBounds_toArray, List.set_cons_zero, List.set_cons_succ]
      refine take_val (i := 3) (.agg #[.slice akp aks.length akc, .slice arp ars.length arc]) rfl (by kernel_rfl) (by kernel_rfl) (by kernel_rfl) (fun _ _ _ h => h) (by rfl) (fun w hSw => by go_simp) hHeld ?_
      simp only [Act.put, List.setIfInBounds_toArray, List.set_cons_zero, List.set_cons_succ]
      refine take_val (i := 4) (.slice p l.length cap) rfl (by kernel_rfl) (by kernel_rfl) (by kernel_rfl) (fun _ _ _ h => h) (by rfl) (fun w hSw => by go_simp) hHeld ?_
      simp only [Act.put, List.setIfInBounds_toArray, List.set_cons_zero, List.set_cons_succ]
      clear hHeld
      refine wpAnyH_ready (rs := [2]) (by kernel_rfl) (by simp) ?_
      refine AllReadyH.cons (at_drop0 rfl) (fun K hK => ?_) AllReadyH.nil
      rw [if_pos (by rfl)]
      go_simp
      refine (HQU.out wr.drew (bel_drewN HI.out 1)).mono ?_
      rintro e x1 ⟨rfl, hb1⟩
      have HX1 : Hid (Below W3.heap.size W3 x1) := bel_then (bel_drewN HI.out 1) (bel_drewN HI.out 1).size hb1
      clear hb1
      go_wp2_with fail
      refine hK.out _ _ ((HCE.out x1 HX1.out)) (fun hHeld => ?_)
      clear hK K
      try simp only [Act.put, List.setIfInBounds_toArray, List.set_cons_zero, List.set_cons_succ]
      clear hHeld
      refine wpAnyH_ready (rs := [5]) (by kernel_rfl) (by simp) ?_
      refine AllReadyH.cons (at_drop0 rfl) (fun K hK => ?_) AllReadyH.nil
      rw [if_pos (by rfl)]
      go_simp
      refine (HQA.out x1 HX1.out).mono ?_
      rintro e x2 ⟨rfl, hb2⟩
      have HX2 : Hid (Below W3.heap.size W3 x2) := bel_then HX1.out HX1.out.size hb2
      clear hb2 HX1
      cases BA with
      | true =>
        obtain rfl : BU = true := hbu
        try clear hbu
        go_wp2_with fail
        refine hK.out _ _ ((HCE.out x2 HX2.out)) (fun hHeld => ?_)
        clear hK K
        try simp only [Act.put, List.setIfInBounds_toArray, List.set_cons_zero, List.set_cons_succ]
        refine take_val (i := 6) (.bool true) rfl (by kernel_rfl) (by kernel_rfl) (by kernel_rfl) (fun _ _ _ h => h) (by rfl) (fun w hSw => by go_simp) hHeld ?_
        simp only [Act.put, List.setIfInBounds_toArray, List.set_cons_zero, List.set_cons_succ]
        refine take_not (i := 7) rfl (by kernel_rfl) (by kernel_rfl) (by kernel_rfl) (fun _ _ _ h => h) (by rfl) hHeld ?_
        simp only [Act.put, List.setIfInBounds_toArray, List.set_cons_zero, List.set_cons_succ]
        refine take_not (i := 8) rfl (by kernel_rfl) (by kernel_rfl) (by kernel_rfl) (fun _ _ _ h => h) (by rfl) hHeld ?_
        simp only [Act.put, List.setIfInBounds_toArray, List.set_cons_zero, List.set_cons_succ]
        refine take_not (i := 9) rfl (by kernel_rfl) (by kernel_rfl) (by kernel_rfl) (fun _ _ _ h => h) (by rfl) hHeld ?_
        simp only [Act.put, List.setIfInBounds_toArray, List.set_cons_zero, List.set_cons_succ]
        refine take_val (i := 10) (.bool true) rfl (by kernel_rfl) (by kernel_rfl) (by kernel_rfl) (fun _ _ _ h => h) (by rfl) (fun w hSw => by go_simp) hHeld ?_
        simp only [Act.put, List.setIfInBounds_toArray, List.set_cons_zero, List.set_cons_succ]
        have hg12 : (true == true) = true := by first | rfl | (cases true <;> rfl)
        refine take_val (i := 11) (.bool true) rfl (by kernel_rfl) (by kernel_rfl) (by kernel_rfl) (fun _ _ _ h => h) (by rfl) (fun w hSw => by go_simp) hHeld ?_
        simp only [Act.put, List.setIfInBounds_toArray, List.set_cons_zero, List.set_cons_succ]
        refine take_val (i := 12) (.bool true) rfl (by kernel_rfl) (by kernel_rfl) (by kernel_rfl) (fun _ _ _ h => h) (by rfl) (fun w hSw => by go_simp) hHeld ?_
        simp only [Act.put, List.setIfInBounds_toArray, List.set_cons_zero, List.set_cons_succ]
        refine take_val (i := 13) (.agg #[.slice none 0 0, .slice none 0 0]) rfl (by kernel_rfl) (by kernel_rfl) (by kernel_rfl) (fun _ _ _ h => h) (by rfl) (fun w hSw => by go_simp) hHeld ?_
        simp only [Act.put, List.setIfInBounds_toArray, List.set_cons_zero, List.set_cons_succ]
        refine take_val (i := 14) (.slice p l.length cap) rfl (by kernel_rfl) (by kernel_rfl) (by kernel_rfl) (fun _ _ _ h => h) (by rfl) (fun w hSw => by go_simp) hHeld ?_
        simp only [Act.put, List.setIfInBounds_toArray, List.set_cons_zero, List.set_cons_succ]
        clear hHeld
        refine wpAnyH_ready (rs := [15]) (by kernel_rfl) (by simp) ?_
        refine AllReadyH.cons (at_drop0 rfl) (fun K hK => ?_) AllReadyH.nil
        rw [if_pos (by rfl)]
        go_simp
        refine (HQE.out x2 HX2.out).mono ?_
        rintro e x4 ⟨rfl, hb4⟩
        have HX4 : Hid (Below W3.heap.size W3 x4) := bel_then HX2.out HX2.out.size hb4
        clear hb4
        go_wp2_with fail
        refine hK.out _ _ ((HCE.out x4 HX4.out)) (fun hHeld => ?_)
        clear hK K
        try simp only [Act.put, List.setIfInBounds_toArray, List.set_cons_zero, List.set_cons_succ]
        refine take_val (i := 16) (.bool true) rfl (by kernel_rfl) (by kernel_rfl) (by kernel_rfl) (fun _ _ _ h => h) (by rfl) (fun w hSw => by go_simp) hHeld ?_
        simp only [Act.put, List.setIfInBounds_toArray, List.set_cons_zero, List.set_cons_succ]
        refine take_val (i := 17) (.bool true) rfl (by kernel_rfl) (by kernel_rfl) (by kernel_rfl) (fun _ _ _ h => h) (by rfl) (fun w hSw => by go_simp) hHeld ?_
        simp only [Act.put, List.setIfInBounds_toArray, List.set_cons_zero, List.set_cons_succ]
        refine take_val (i := 18) (.bool true) rfl (by kernel_rfl) (by kernel_rfl) (by kernel_rfl) (fun _ _ _ h => h) (by rfl) (fun w hSw => by go_simp) hHeld ?_
        simp only [Act.put, List.setIfInBounds_toArray, List.set_cons_zero, List.set_cons_succ]
        refine wpAnyH_done (by kernel_rfl) ?_ _
        clear hHeld
        have HE := hid (HBW.out x4 HX4.out)
        go_wp2_with fail
        go_ret
        exact ⟨rfl, HE.out⟩
      | false =>
        obtain rfl : BU = BB' := hbu
        go_wp2_with fail
        refine hK.out _ _ ((HCE.out x2 HX2.out)) (fun hHeld => ?_)
        clear hK K
        try simp only [Act.put, List.setIfInBounds_toArray, List.set_cons_zero, List.set_cons_succ]
        refine take_val (i := 6) (.bool false) rfl (by kernel_rfl) (by kernel_rfl) (by kernel_rfl) (fun _ _ _ h => h) (by rfl) (fun w hSw => by go_simp) hHeld ?_
        simp only [Act.put, List.setIfInBounds_toArray, List.set_cons_zero, List.set_cons_succ]
        refine take_val (i := 7) (.agg #[.slice bkp bks.length bkc, .slice brp brs.length brc]) rfl (by kernel_rfl) (by kernel_rfl) (by kernel_rfl) (fun _ _ _ h => h) (by rfl) (fun w hSw => by go_simp) hHeld ?_
        simp only [Act.put, List.setIfInBounds_toArray, List.set_cons_zero, List.set_cons_succ]
        refine take_val (i := 8) (.slice p l.length cap) rfl (by kernel_rfl) (by kernel_rfl) (by kernel_rfl) (fun _ _ _ h => h) (by rfl) (fun w hSw => by go_simp) hHeld ?_
        simp only [Act.put, List.setIfInBounds_toArray, List.set_cons_zero, List.set_cons_succ]
        clear hHeld
        refine wpAnyH_ready (rs := [9]) (by kernel_rfl) (by simp) ?_
        refine AllReadyH.cons (at_drop0 rfl) (fun K hK => ?_) AllReadyH.nil
        rw [if_pos (by rfl)]
        go_simp
        refine (HQB.out x2 HX2.out).mono ?_
        rintro e wz ⟨rfl, hbz⟩
        have HBZ : Hid (Below W3.heap.size W3 wz) := bel_then HX2.out HX2.out.size hbz
        clear hbz HX2
        go_wp2_with fail
        refine hK.out _ _ ((HCE.out wz HBZ.out)) (fun hHeld => ?_)
        clear hK K
        try simp only [Act.put, List.setIfInBounds_toArray, List.set_cons_zero, List.set_cons_succ]
        refine take_val (i := 10) (.bool BU) rfl (by kernel_rfl) (by kernel_rfl) (by kernel_rfl) (fun _ _ _ h => h) (by rfl) (fun w hSw => by go_simp) hHeld ?_
        simp only [Act.put, List.setIfInBounds_toArray, List.set_cons_zero, List.set_cons_succ]
        have hg12 : (BU == BU) = true := by first | rfl | (cases BU <;> rfl)
        refine take_val (i := 11) (.bool true) rfl (by kernel_rfl) (by kernel_rfl) (by kernel_rfl) (fun _ _ _ h => h) (by rfl) (fun w hSw => by go_simp) hHeld ?_
        simp only [Act.put, List.setIfInBounds_toArray, List.set_cons_zero, List.set_cons_succ]
        refine take_val (i := 12) (.bool true) rfl (by kernel_rfl) (by kernel_rfl) (by kernel_rfl) (fun _ _ _ h => h) (by rfl) (fun w hSw => by go_simp) hHeld ?_
        simp only [Act.put, List.setIfInBounds_toArray, List.set_cons_zero, List.set_cons_succ]
        refine take_val (i := 13) (.agg #[.slice none 0 0, .slice none 0 0]) rfl (by kernel_rfl) (by kernel_rfl) (by kernel_rfl) (fun _ _ _ h => h) (by rfl) (fun w hSw => by go_simp) hHeld ?_
        simp only [Act.put, List.setIfInBounds_toArray, List.set_cons_zero, List.set_cons_succ]
        refine take_val (i := 14) (.slice p l.length cap) rfl (by kernel_rfl) (by kernel_rfl) (by kernel_rfl) (fun _ _ _ h => h) (by rfl) (fun w hSw => by go_simp) hHeld ?_
        simp only [Act.put, List.setIfInBounds_toArray, List.set_cons_zero, List.set_cons_succ]
        clear hHeld
        refine wpAnyH_ready (rs := [15]) (by kernel_rfl) (by simp) ?_
        refine AllReadyH.cons (at_drop0 rfl) (fun K hK => ?_) AllReadyH.nil
        rw [if_pos (by rfl)]
        go_simp
        refine (HQE.out wz HBZ.out).mono ?_
        rintro e x4 ⟨rfl, hb4⟩
        have HX4 : Hid (Below W3.heap.size W3 x4) := bel_then HBZ.out HBZ.out.size hb4
        clear hb4
        go_wp2_with fail
        refine hK.out _ _ ((HCE.out x4 HX4.out)) (fun hHeld => ?_)
        clear hK K
        try simp only [Act.put, List.setIfInBounds_toArray, List.set_cons_zero, List.set_cons_succ]
        refine take_val (i := 16) (.bool true) rfl (by kernel_rfl) (by kernel_rfl) (by kernel_rfl) (fun _ _ _ h => h) (by rfl) (fun w hSw => by go_simp) hHeld ?_
        simp only [Act.put, List.setIfInBounds_toArray, List.set_cons_zero, List.set_cons_succ]
        refine take_val (i := 17) (.bool true) rfl (by kernel_rfl) (by kernel_rfl) (by kernel_rfl) (fun _ _ _ h => h) (by rfl) (fun w hSw => by go_simp) hHeld ?_
        simp only [Act.put, List.setIfInBounds_toArray, List.set_cons_zero, List.set_cons_succ]
        refine take_val (i := 18) (.bool true) rfl (by kernel_rfl) (by kernel_rfl) (by kernel_rfl) (fun _ _ _ h => h) (by rfl) (fun w hSw => by go_simp) hHeld ?_
        simp only [Act.put, List.setIfInBounds_toArray, List.set_cons_zero, List.set_cons_succ]
        refine wpAnyH_done (by kernel_rfl) ?_ _
        clear hHeld
        have HE := hid (HBW.out x4 HX4.out)
        go_wp2_with fail
        go_ret
        exact ⟨rfl, HE.out⟩

end Go.Proofs.Ythdakljoabbghaa
