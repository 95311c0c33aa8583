/-
  Texts of this claim, one behind the other: Par Ltb Uni Rfm Rna Rnt Gen Trm Rp0 Rp1 Rp2 Pc0 Kst Ris Kro Kss Ksc Zcmp Zeq Zcomp2 Zord Zsortz Zkrow Zsame Zcompa Zrise Zsorta Rkt Rky Zless.
-/
import Derived.Test.YtinmagodckkedaaGreatPa
import Derived.Deep.CutRange
import Derived.Laws.StructEq
import Derived.Shelf.SlSortCmp.SmallK
import Derived.Lib.SlicesCompact
import Derived.Lib.SliceRun
import Derived.Shelf.Sort.Plain
import Derived.Shelf.Slices.CompactS
import Derived.Shelf.Slices.In.SortNone
import Derived.Sort.OwnSorted
import Derived.Lib.OwnBridge
import Derived.Deep.RegionHeld3
import Derived.Deep.DrawnRows
import Derived.LoopN
import Derived.Deep.QuietTactic
import Derived.BigQuiet
import Derived.Lib.Bytealg
import Derived.Shelf.SlSortCmp.WholeK
import Derived.Shelf.SlicesE.Clone
import Derived.Laws.OwnMore
import Derived.Deep.LoopGhost
/-
  The contract of Parse where a line has fewer than 20 words.
-/
namespace Go.Proofs.YtinmagodckkedaaGreat
open Go.RowKit
attribute [local go_sem] Oper.semAt_some

/-- The fields that words say. -/
def fieldsW : List (List UInt8) → Option (List Fld)
  | [] => some []
  | l :: r => match wordO l with
    | none => none
    | some (n, t) => (fieldsW r).map ((⟨n.toArray⟩, [⟨t.toArray⟩]) :: ·)

theorem fieldsW_append (a b : List (List UInt8)) : fieldsW (a ++ b) = (fieldsW a).bind fun x => (fieldsW b).map (x ++ ·) := by
  induction a with
  | nil => simp [fieldsW]
  | cons l a ih =>
    simp only [List.cons_append, fieldsW]
    cases wordO l with
    | none => rfl
    | some o =>
      obtain ⟨n, t⟩ := o
      simp only [ih]
      cases fieldsW a with
      | none => rfl
      | some x => cases fieldsW b <;> simp

/-- What Parse holds between two rounds. -/
def ParseSt {M : Nat} (w : World) (N : Nat) (pre : List (Wd M)) (W : World) : Prop :=
  ∃ v d fs, W.heap[w.heap.size + 2]? = some (.cells #[v] 22 (0, 0)) ∧ OwnXs (N + 2) W v d ∧ fieldsW (plainW pre) = some fs ∧ d.map Fx.fld = fs ∧ d.length = pre.length ∧
    W.heap[w.heap.size]? = some (.cells #[.slice none 0 0] 22 (0, 0)) ∧ W.heap[w.heap.size + 1]? = some (.cells #[.int .i64 0] 32 (0, 0)) ∧ Below w.heap.size w W ∧ N + 2 ≤ W.heap.size ∧ w.heap.size + 6 ≤ N

def ParseStop {M : Nat} (w : World) (N : Nat) (c : Code) (pre : List (Wd M)) (W : World) : Prop :=
  c = .ret ∧ fieldsW (plainW pre) = none ∧ W.heap[w.heap.size]? = some (.cells #[.slice none 0 0] 22 (0, 0)) ∧ W.heap[w.heap.size + 1]? = some (.cells #[.int .i64 4] 32 (0, 0)) ∧ Below w.heap.size w W ∧ w.heap.size + 6 ≤ N

/-- What Norm answers, its rows at or behind N. -/
def NormAns (N : Nat) (d : List Fx) (e : Ending) (w' : World) : Prop :=
  ((d.map Fx.fld).any misB = true ∧ e = .returned (.tuple #[.slice none 0 0, .int .i64 2])) ∨
   ((d.map Fx.fld).any misB = false ∧ ∃ ds, SortOf d ds ∧
     (((joinS (ds.map Fx.fld)).any bareB = true ∧ e = .returned (.tuple #[.slice none 0 0, .int .i64 3])) ∨
      ((joinS (ds.map Fx.fld)).any bareB = false ∧ mayB (joinS (ds.map Fx.fld)) = false ∧ e = .returned (.tuple #[.slice none 0 0, .int .i64 5])) ∨
      ((joinS (ds.map Fx.fld)).any bareB = false ∧ mayB (joinS (ds.map Fx.fld)) = true ∧ ∃ u o, e = .returned (.tuple #[u, .int .i64 0]) ∧ OwnJ N w' u o ∧ o.map Fx.fld = joinS (ds.map Fx.fld))))

theorem NormPost.ans {w w' : World} {d : List Fx} {e : Ending} (h : NormPost w d e w') : NormAns w.heap.size d e w' := h.1

theorem OwnJ.far {N R : Nat} {w w' : World} {v : Value} {o : List Fx} (h : OwnJ N w v o) (hg : w.grownBy w' (some R)) (hR : R < N) : OwnJ N w' v o := ⟨h.1.far hg hR, h.2⟩
theorem OwnJ.weak {N N' : Nat} {w : World} {v : Value} {o : List Fx} (h : OwnJ N w v o) (hN : N' ≤ N) : OwnJ N' w v o := ⟨⟨own_weak h.1.1 hN, fun x hx => own_weak (h.1.2 x hx) hN⟩, h.2⟩

theorem NormAns.map {N N' : Nat} {d : List Fx} {e : Ending} {w w' : World} (h : NormAns N d e w) (f : ∀ u o, OwnJ N w u o → OwnJ N' w' u o) : NormAns N' d e w' := by
  rcases h with h | ⟨h1, ds, h2, h3⟩
  · exact Or.inl h
  · refine Or.inr ⟨h1, ds, h2, ?_⟩
    rcases h3 with h3 | h3 | ⟨h3, h4, u, o, h5, h6, h7⟩
    · exact Or.inl h3
    · exact Or.inr (Or.inl h3)
    · exact Or.inr (Or.inr ⟨h3, h4, u, o, h5, f _ _ h6, h7⟩)

theorem NormAns.shape {N : Nat} {d : List Fx} {e : Ending} {w : World} (h : NormAns N d e w) : ∃ p n c k, e = .returned (.tuple #[.slice p n c, .int .i64 k]) := by
  rcases h with ⟨_, h⟩ | ⟨_, ds, _, ⟨_, h⟩ | ⟨_, _, h⟩ | ⟨_, _, u, o, h, ho, _⟩⟩
  · exact ⟨_, _, _, _, h⟩
  · exact ⟨_, _, _, _, h⟩
  · exact ⟨_, _, _, _, h⟩
  · rcases ho.1.1.2 with ⟨rfl, _⟩ | ⟨g, cap, cur, rfl, _⟩
    · exact ⟨_, _, _, _, h⟩
    · exact ⟨_, _, _, _, h⟩

def ParsePost (w : World) (l : List UInt8) (e : Ending) (w' : World) : Prop :=
  ((l = [] ∧ e = .returned (.tuple #[.slice none 0 0, .int .i64 0])) ∨
   (l ≠ [] ∧ fieldsW (splitL l) = none ∧ e = .returned (.tuple #[.slice none 0 0, .int .i64 4])) ∨
   (l ≠ [] ∧ ∃ fs d, fieldsW (splitL l) = some fs ∧ d.map Fx.fld = fs ∧ NormAns w.heap.size d e w')) ∧ Below w.heap.size w w'

theorem splitL_len (l : List UInt8) : (splitL l).length ≤ l.length + 1 := by
  induction h : l.length using Nat.strongRecOn generalizing l with
  | _ k ih =>
    subst h
    rcases ix_cases l 32 with ⟨h, _⟩ | ⟨i, h, hi, _⟩
    · rw [splitL_no h]; simp
    · rw [splitL_yes h, List.length_cons]
      have := ih (l.drop (i + 1)).length (by simp; omega) _ rfl
      simp at this ⊢
      omega

theorem wordO_len {l n t : List UInt8} (h : wordO l = some (n, t)) : n.length ≤ l.length ∧ t.length ≤ l.length := by
  unfold wordO at h
  split at h
  · cases h
  · cases hr : readL (l.drop ((Lib.indexByte l 61).toNat + 1)) with
    | none => rw [hr] at h; cases h
    | some m =>
      rw [hr] at h
      simp only [Option.map_some, Option.some.injEq, Prod.mk.injEq] at h
      obtain ⟨rfl, rfl⟩ := h
      have := readL_len _ _ _ (Nat.le_refl _) hr
      simp at this ⊢
      omega

theorem fieldsW_len {B : Nat} (ls : List (List UInt8)) (hB : ∀ l ∈ ls, l.length ≤ B) : ∀ fs, fieldsW ls = some fs → fs.length = ls.length ∧ totF fs = ls.length ∧ ∀ f ∈ fs, f.1.size ≤ B ∧ f.2.length = 1 ∧ ∀ t ∈ f.2, t.size ≤ B := by
  induction ls with
  | nil => intro fs h; cases h; exact ⟨rfl, rfl, fun f hf => by simp at hf⟩
  | cons l ls ih =>
    intro fs h
    simp only [fieldsW] at h
    cases ho : wordO l with
    | none => rw [ho] at h; cases h
    | some o =>
      obtain ⟨n, t⟩ := o
      rw [ho] at h
      cases hr : fieldsW ls with
      | none => rw [hr] at h; cases h
      | some gs =>
        rw [hr] at h
        cases h
        obtain ⟨h1, h2, h3⟩ := ih (fun l' hl' => hB l' (by simp [hl'])) gs hr
        obtain ⟨hn, ht⟩ := wordO_len ho
        have hl := hB l (by simp)
        refine ⟨by simp [h1], ?_, fun f hf => ?_⟩
        · simp only [totF, List.map_cons, List.sum_cons, List.length_cons, List.length_nil] at h2 ⊢
          omega
        · rw [List.mem_cons] at hf
          rcases hf with rfl | hf
          · refine ⟨?_, rfl, fun u hu => ?_⟩
            · show (ByteArray.mk _).size ≤ B
              simp [ByteArray.size]; omega
            · simp at hu; subst hu; simp [ByteArray.size]; omega
          · exact h3 f hf

theorem one_facts {w : World} {B : Nat} {u : Value} {T : TypeId} (h : w.heap[B]? = some (.cells #[u] T (0, 0))) : w.cell? ⟨B, 0, none⟩ = some u ∧ w.frozen? ⟨B, 0, none⟩ = false :=
  ⟨by rw [Lib.cell_of_heap h]; rfl, Lib.frozen_of_heap h 0⟩

theorem keeps_below {B : Nat} {W W' : World} (h : Below W.heap.size W W') : KeepsFrom B W W' :=
  ⟨h.size, fun k _ _ hk _ => (h.block k (Array.getElem?_eq_some_iff.1 hk).1).trans hk⟩

theorem row_cells {w : World} {base n k : Nat} {e : TypeId} {v : Value} {xs : List Value} {j : Nat} {o : Obj} (h : w.ownsRow base e n v k xs) (ej : v.ownBlock = some j) (hj : w.heap[j]? = some o) : o.isCells = true := by
  rcases h.2 with ⟨rfl, _⟩ | ⟨g, cap, cur, rfl, _, hgb, _⟩
  · simp [Value.ownBlock] at ej
  · obtain rfl : g = j := by simpa [Value.ownBlock] using ej
    rw [hgb] at hj; cases hj; rfl

end Go.Proofs.YtinmagodckkedaaGreat

/-
  The order of texts, byte by byte.
-/
namespace Go.Proofs.YtinmagodckkedaaGreat
open Go.RowKit Go.Lib

def ltB (a b : ByteArray) : Bool := decide (Lib.compareBytes a.data.toList b.data.toList < 0)

theorem ba_eq {a b : ByteArray} (h : a.data.toList = b.data.toList) : a = b := by
  obtain ⟨⟨a⟩⟩ := a
  obtain ⟨⟨b⟩⟩ := b
  cases h
  rfl

theorem ltB_anti {a b : ByteArray} (h : ltB a b = false) (k : ltB b a = false) : a = b := by
  unfold ltB at *
  rw [decide_eq_false_iff_not] at *
  refine ba_eq ((cb_zero _ _).1 ?_)
  have := cb_neg a.data.toList b.data.toList
  omega

theorem ltB_irrefl (a : ByteArray) : ltB a a = false := by
  unfold ltB; rw [cb_self]; rfl

theorem ltB_asymm {a b : ByteArray} (h : ltB a b = true) : ltB b a = false := by
  unfold ltB at *
  rw [decide_eq_true_iff] at h
  rw [decide_eq_false_iff_not]
  have := cb_neg a.data.toList b.data.toList
  omega

theorem ltB_trans {a b c : ByteArray} (h : ltB a b = true) (k : ltB b c = true) : ltB a c = true := by
  unfold ltB at *
  rw [decide_eq_true_iff] at *
  exact cb_lt_trans _ _ _ h k

theorem ltB_cases (a b : ByteArray) : ltB a b = true ∨ a = b ∨ ltB b a = true := by
  cases h : ltB a b with
  | true => exact Or.inl rfl
  | false =>
    cases k : ltB b a with
    | true => exact Or.inr (Or.inr rfl)
    | false => exact Or.inr (Or.inl (ltB_anti h k))

/-- not b < a, b < c: a < c. -/
theorem ltB_le_lt {a b c : ByteArray} (h : ltB b a = false) (k : ltB b c = true) : ltB a c = true := by
  rcases ltB_cases a b with h1 | rfl | h1
  · exact ltB_trans h1 k
  · exact k
  · rw [h] at h1; cases h1

theorem sless_of {a b : ByteArray} {c : Bool} (h : ltB a b = c) : Op.bytesLess a.toList b.toList = c := by
  rw [← h]
  unfold ltB
  rw [Lib.toList_data, Lib.toList_data, cb_less]

theorem seq_false {a b : ByteArray} (h : a ≠ b) : (a.toList == b.toList) = false := by
  rw [Lib.toList_data, Lib.toList_data, beq_eq_false_iff_ne]
  exact fun e => h (ba_eq e)
theorem seq_true {a b : ByteArray} (h : a = b) : (a.toList == b.toList) = true := by rw [h]; simp

theorem sempty_of {a : ByteArray} (h : a.size = 0) : a.toList.isEmpty = true := by
  rw [Lib.toList_data]
  have : a.data.toList = [] := List.length_eq_zero_iff.1 (by simpa using h)
  rw [this]; rfl
theorem sfull_of {a : ByteArray} (h : a.size ≠ 0) : a.toList.isEmpty = false := by
  rw [Lib.toList_data]
  cases e : a.data.toList with
  | nil => exact absurd (by simpa using congrArg List.length e) h
  | cons _ _ => rfl

end Go.Proofs.YtinmagodckkedaaGreat

/-
  A list that is in order, and stable, is one: the fields as a stable sort leaves them.
-/
namespace Go.Proofs.YtinmagodckkedaaGreat
open Go.RowKit Go.Sort Go.Lib

def InOrder (l : List Fld) : Prop := l.Pairwise fun x y => ltB y.1 x.1 = false

theorem order_unique : ∀ (a b : List Fld), InOrder a → InOrder b → (∀ c, a.filter (fun x => decide (x.1 = c)) = b.filter fun x => decide (x.1 = c)) → a = b
  | [], [], _, _, _ => rfl
  | [], y :: b, _, _, h => by have := h y.1; simp at this
  | x :: a, [], _, _, h => by have := h x.1; simp at this
  | x :: a, y :: b, ha, hb, h => by
    have ha' := List.pairwise_cons.1 ha
    have hb' := List.pairwise_cons.1 hb
    have hn : x.1 = y.1 := by
      have hx : x ∈ (y :: b).filter (fun z => decide (z.1 = x.1)) := by rw [← h]; simp
      have hy : y ∈ (x :: a).filter (fun z => decide (z.1 = y.1)) := by rw [h]; simp
      rw [List.mem_filter] at hx hy
      have h1 : ltB x.1 y.1 = false := by
        rcases List.mem_cons.1 hx.1 with e | e
        · rw [e]; exact ltB_irrefl _
        · exact hb'.1 x e
      have h2 : ltB y.1 x.1 = false := by
        rcases List.mem_cons.1 hy.1 with e | e
        · rw [e]; exact ltB_irrefl _
        · exact ha'.1 y e
      exact ltB_anti h1 h2
    have hxy : x = y := by
      have := h x.1
      rw [List.filter_cons_of_pos (by simp), List.filter_cons_of_pos (by simp [hn])] at this
      exact (List.cons.inj this).1
    subst hxy
    congr 1
    refine order_unique a b ha'.2 hb'.2 fun c => ?_
    have := h c
    by_cases e : x.1 = c
    · rw [List.filter_cons_of_pos (by simp [e]), List.filter_cons_of_pos (by simp [e])] at this
      exact (List.cons.inj this).2
    · rwa [List.filter_cons_of_neg (by simp [e]), List.filter_cons_of_neg (by simp [e])] at this

/-- f behind all that are not above it. -/
def insF (f : Fld) : List Fld → List Fld
  | [] => [f]
  | g :: l => if ltB f.1 g.1 then f :: g :: l else g :: insF f l

def sortS (l : List Fld) : List Fld := l.foldl (fun acc f => insF f acc) []

theorem mem_insF (f x : Fld) (l : List Fld) : x ∈ insF f l ↔ x = f ∨ x ∈ l := by
  induction l with
  | nil => simp [insF]
  | cons g l ih =>
    unfold insF
    split
    · simp
    · simp [ih, or_left_comm]

theorem insF_order (f : Fld) (l : List Fld) (h : InOrder l) : InOrder (insF f l) := by
  induction l with
  | nil => simp [insF, InOrder]
  | cons g l ih =>
    have h' := List.pairwise_cons.1 h
    unfold insF
    split
    · rename_i hlt
      refine List.pairwise_cons.2 ⟨fun x hx => ?_, h⟩
      rcases List.mem_cons.1 hx with rfl | hx
      · exact ltB_asymm hlt
      · have h1 := h'.1 x hx
        refine ltB_asymm ?_
        rcases ltB_cases g.1 x.1 with h2 | h2 | h2
        · exact ltB_trans hlt h2
        · rw [← h2]; exact hlt
        · rw [h1] at h2; cases h2
    · rename_i hlt
      refine List.pairwise_cons.2 ⟨fun x hx => ?_, ih h'.2⟩
      rcases (mem_insF f x l).1 hx with rfl | hx
      · simpa using hlt
      · exact h'.1 x hx

theorem insF_filter (f : Fld) (l : List Fld) (h : InOrder l) (c : ByteArray) : (insF f l).filter (fun x => decide (x.1 = c)) = (l ++ [f]).filter fun x => decide (x.1 = c) := by
  induction l with
  | nil => rfl
  | cons g l ih =>
    have h' := List.pairwise_cons.1 h
    unfold insF
    split
    · rename_i hlt
      by_cases e : f.1 = c
      · have hno : (g :: l).filter (fun x => decide (x.1 = c)) = [] := by
          rw [List.filter_eq_nil_iff]
          intro x hx hxc
          have hxc : x.1 = c := by simpa using hxc
          have hlx : ltB f.1 x.1 = true := by
            rcases List.mem_cons.1 hx with rfl | hx
            · exact hlt
            · have h1 := h'.1 x hx
              rcases ltB_cases g.1 x.1 with h2 | h2 | h2
              · exact ltB_trans hlt h2
              · rw [← h2]; exact hlt
              · rw [h1] at h2; cases h2
          rw [hxc, ← e, ltB_irrefl] at hlx
          cases hlx
        rw [List.filter_append, hno, List.filter_cons_of_pos (by simp [e]), hno, List.filter_cons_of_pos (by simp [e])]
        rfl
      · rw [List.filter_cons_of_neg (by simp [e]), List.filter_append, List.filter_cons_of_neg (p := fun x => decide (x.1 = c)) (a := f) (by simp [e])]
        simp
    · rw [List.cons_append, List.filter_cons, List.filter_cons, ih h'.2]

theorem sortS_spec (l : List Fld) : InOrder (sortS l) ∧ ∀ c, (sortS l).filter (fun x => decide (x.1 = c)) = l.filter fun x => decide (x.1 = c) := by
  have : ∀ (l acc : List Fld), InOrder acc → InOrder (l.foldl (fun acc f => insF f acc) acc) ∧ ∀ c, (l.foldl (fun acc f => insF f acc) acc).filter (fun x => decide (x.1 = c)) = (acc ++ l).filter fun x => decide (x.1 = c) := by
    intro l
    induction l with
    | nil => intro acc h; exact ⟨h, fun c => by simp⟩
    | cons f l ih =>
      intro acc h
      obtain ⟨h1, h2⟩ := ih (insF f acc) (insF_order f acc h)
      refine ⟨h1, fun c => ?_⟩
      rw [List.foldl_cons, h2 c, List.filter_append, insF_filter f acc h c, ← List.filter_append]
      simp
  have h := this l [] List.Pairwise.nil
  exact ⟨h.1, fun c => by simpa [sortS] using h.2 c⟩

theorem sortOf_flds {d ds : List Fx} (h : SortOf d ds) : ds.map Fx.fld = sortS (d.map Fx.fld) := by
  obtain ⟨h1, h2⟩ := sortS_spec (d.map Fx.fld)
  refine order_unique _ _ ?_ h1 fun c => ?_
  · refine List.Pairwise.map _ (fun x y hxy => ?_) h.2.1
    exact hxy
  · rw [h2 c, List.filter_map, List.filter_map]
    exact congrArg (List.map Fx.fld) (h.2.2 c)

/-- What Norm answers, by the fields alone. -/
def normF (fs : List Fld) : List Fld := joinS (sortS fs)

theorem NormAns.plain {N : Nat} {d : List Fx} {e : Ending} {w' : World} (h : NormAns N d e w') :
    ((d.map Fx.fld).any misB = true ∧ e = .returned (.tuple #[.slice none 0 0, .int .i64 2])) ∨
    ((d.map Fx.fld).any misB = false ∧
     (((normF (d.map Fx.fld)).any bareB = true ∧ e = .returned (.tuple #[.slice none 0 0, .int .i64 3])) ∨
      ((normF (d.map Fx.fld)).any bareB = false ∧ mayB (normF (d.map Fx.fld)) = false ∧ e = .returned (.tuple #[.slice none 0 0, .int .i64 5])) ∨
      ((normF (d.map Fx.fld)).any bareB = false ∧ mayB (normF (d.map Fx.fld)) = true ∧ ∃ u o, e = .returned (.tuple #[u, .int .i64 0]) ∧ OwnJ N w' u o ∧ o.map Fx.fld = normF (d.map Fx.fld)))) := by
  rcases h with h | ⟨h1, ds, h2, h3⟩
  · exact Or.inl h
  · have e := sortOf_flds h2
    rw [e] at h3
    exact Or.inr ⟨h1, h3⟩

end Go.Proofs.YtinmagodckkedaaGreat

/-
  What references mean (stage 5): the mathematics, without the program.
-/
namespace Go.Proofs.YtinmagodckkedaaGreat
open Go.RowKit Go.Lib

/-- The text up to the first slash, and behind it. -/
def cutS : List UInt8 → Option (List UInt8 × List UInt8)
  | [] => none
  | c :: r => if c = 47 then some ([], r) else (cutS r).map fun x => (c :: x.1, x.2)

theorem cutS_some {l a b : List UInt8} (h : cutS l = some (a, b)) : l = a ++ 47 :: b ∧ (47 : UInt8) ∉ a := by
  induction l generalizing a with
  | nil => simp [cutS] at h
  | cons c r ih =>
    unfold cutS at h
    by_cases hc : c = 47
    · rw [if_pos hc] at h
      simp at h
      obtain ⟨rfl, rfl⟩ := h
      simp [hc]
    · rw [if_neg hc] at h
      cases hr : cutS r with
      | none => rw [hr] at h; simp at h
      | some x =>
        obtain ⟨a1, b1⟩ := x
        rw [hr] at h
        simp at h
        obtain ⟨rfl, rfl⟩ := h
        obtain ⟨e, hn⟩ := ih hr
        rw [e]
        refine ⟨rfl, ?_⟩
        simp only [List.mem_cons, not_or]
        exact ⟨fun h => hc h.symm, hn⟩

theorem cutS_of {a b : List UInt8} (h : (47 : UInt8) ∉ a) : cutS (a ++ 47 :: b) = some (a, b) := by
  induction a with
  | nil => simp [cutS]
  | cons c r ih =>
    simp only [List.mem_cons, not_or] at h
    simp only [List.cons_append, cutS]
    rw [if_neg (fun e => h.1 e.symm), ih h.2]
    rfl

def keyL (k : List UInt8 × List UInt8) : Bool := typeB k.1 && idenB k.2

/-- The key of a text. -/
def parseS (l : List UInt8) : Option (List UInt8 × List UInt8) :=
  match cutS l with
  | some k => if keyL k then some k else none
  | none => none

/-- The key that a text names; the temporary name that it names. -/
def namedS : List UInt8 → Option (List UInt8 × List UInt8)
  | 42 :: r => parseS r
  | _ => none

def tempS : List UInt8 → Option (List UInt8)
  | 42 :: 64 :: r => if tempB r then some r else none
  | _ => none

/-- A key's reference. -/
def refS (k : List UInt8 × List UInt8) : List UInt8 := 42 :: (k.1 ++ 47 :: k.2)

theorem type_slash {l : List UInt8} (h : typeB l = true) : (47 : UInt8) ∉ l := by
  cases l with
  | nil => simp
  | cons c r =>
    simp only [typeB, spell, Bool.and_eq_true, List.all_eq_true] at h
    intro hm
    rcases List.mem_cons.1 hm with rfl | hm
    · exact absurd h (by simp [bigB])
    · have := h.2 _ hm
      revert this
      simp [letB, bigB, smallB]

theorem parseS_some {l : List UInt8} {k : List UInt8 × List UInt8} (h : parseS l = some k) : l = k.1 ++ 47 :: k.2 ∧ keyL k = true := by
  unfold parseS at h
  cases hc : cutS l with
  | none => rw [hc] at h; cases h
  | some x =>
    rw [hc] at h
    simp only at h
    split at h
    · next hk =>
      cases h
      exact ⟨(cutS_some hc).1, hk⟩
    · cases h

theorem parseS_of {k : List UInt8 × List UInt8} (h : keyL k = true) : parseS (k.1 ++ 47 :: k.2) = some k := by
  have ht : typeB k.1 = true := by simp only [keyL, Bool.and_eq_true] at h; exact h.1
  unfold parseS
  rw [cutS_of (type_slash ht)]
  simp [h]

theorem named_ref {k : List UInt8 × List UInt8} (h : keyL k = true) : namedS (refS k) = some k := parseS_of h

theorem named_some {l : List UInt8} {k : List UInt8 × List UInt8} (h : namedS l = some k) : l = refS k ∧ keyL k = true := by
  unfold namedS at h
  split at h
  · obtain ⟨h1, h2⟩ := parseS_some h
    exact ⟨by rw [h1]; rfl, h2⟩
  · cases h

theorem temp_some {l n : List UInt8} (h : tempS l = some n) : l = 42 :: 64 :: n ∧ tempB n = true := by
  unfold tempS at h
  split at h
  · split at h
    · next hk => cases h; exact ⟨rfl, hk⟩
    · cases h
  · cases h

theorem temp_of {n : List UInt8} (h : tempB n = true) : tempS (42 :: 64 :: n) = some n := by simp [tempS, h]

/-- No reference to a key is a temporary one. -/
theorem temp_ref {k : List UInt8 × List UInt8} (h : keyL k = true) : tempS (refS k) = none := by
  cases ht : tempS (refS k) with
  | none => rfl
  | some n =>
    obtain ⟨e, _⟩ := temp_some ht
    exfalso
    simp only [keyL, Bool.and_eq_true] at h
    obtain ⟨a, b⟩ := k
    cases a with
    | nil => simp [typeB, spell] at h
    | cons c r =>
      simp only [refS, List.cons_append, List.cons.injEq, true_and] at e
      obtain ⟨rfl, _⟩ := e
      simp [typeB, spell, bigB] at h

theorem named_temp {l : List UInt8} {k : List UInt8 × List UInt8} (h : namedS l = some k) : tempS l = none := by
  obtain ⟨rfl, hk⟩ := named_some h
  exact temp_ref hk

/-! Names of keys and binds, as the program holds them. -/

abbrev Ky := ByteArray × ByteArray
abbrev Bd := ByteArray × Ky

def Ky.l (k : Ky) : List UInt8 × List UInt8 := (k.1.data.toList, k.2.data.toList)
def bytesL (l : List UInt8) : ByteArray := ⟨l.toArray⟩
theorem bytesL_list (l : List UInt8) : (bytesL l).data.toList = l := rfl
theorem bytesL_of (b : ByteArray) : bytesL b.data.toList = b := rfl

def keyOK (k : Ky) : Bool := keyL k.l
def namedT (t : ByteArray) : Option Ky := (namedS t.data.toList).map fun k => (bytesL k.1, bytesL k.2)
def tempT (t : ByteArray) : Option ByteArray := (tempS t.data.toList).map bytesL
def refT (k : Ky) : ByteArray := bytesL (refS k.l)

theorem namedT_ref {k : Ky} (h : keyOK k = true) : namedT (refT k) = some k := by
  unfold namedT refT
  rw [bytesL_list, named_ref h]
  rfl

theorem namedT_some {t : ByteArray} {k : Ky} (h : namedT t = some k) : t = refT k ∧ keyOK k = true := by
  unfold namedT at h
  cases hn : namedS t.data.toList with
  | none => rw [hn] at h; cases h
  | some x =>
    rw [hn] at h
    simp only [Option.map_some, Option.some.injEq] at h
    subst h
    obtain ⟨h1, h2⟩ := named_some hn
    exact ⟨by rw [← bytesL_of t, h1]; rfl, h2⟩

theorem tempT_ref {k : Ky} (h : keyOK k = true) : tempT (refT k) = none := by
  unfold tempT refT
  rw [bytesL_list, temp_ref h]
  rfl

theorem namedT_temp {t : ByteArray} {k : Ky} (h : namedT t = some k) : tempT t = none := by
  obtain ⟨rfl, hk⟩ := namedT_some h
  exact tempT_ref hk

theorem refT_inj {a b : Ky} (ha : keyOK a = true) (hb : keyOK b = true) (h : refT a = refT b) : a = b := by
  have := namedT_ref ha
  rw [h, namedT_ref hb] at this
  exact (Option.some.inj this).symm

/-! Rename. -/

def renT (a b : Ky) (t : ByteArray) : ByteArray := if namedT t = some a then refT b else t
def mapT (g : ByteArray → ByteArray) (fs : List Fld) : List Fld := fs.map fun f => (f.1, f.2.map g)
def pointsF (fs : List Fld) (k : Ky) : Prop := ∃ f ∈ fs, ∃ t ∈ f.2, namedT t = some k

theorem points_map {g : ByteArray → ByteArray} {fs : List Fld} {k : Ky} : pointsF (mapT g fs) k ↔ ∃ f ∈ fs, ∃ t ∈ f.2, namedT (g t) = some k := by
  unfold pointsF mapT
  constructor
  · rintro ⟨f, hf, t, ht, h⟩
    obtain ⟨f0, h0, rfl⟩ := List.mem_map.1 hf
    obtain ⟨t0, h1, rfl⟩ := List.mem_map.1 ht
    exact ⟨f0, h0, t0, h1, h⟩
  · rintro ⟨f, hf, t, ht, h⟩
    exact ⟨_, List.mem_map.2 ⟨f, hf, rfl⟩, _, List.mem_map.2 ⟨t, ht, rfl⟩, h⟩

theorem ren_named {a b k : Ky} (hb : keyOK b = true) (hab : a ≠ b) (t : ByteArray) : namedT (renT a b t) = some k ↔ (namedT t = some k ∧ k ≠ a) ∨ (k = b ∧ namedT t = some a) := by
  unfold renT
  split
  · next h =>
    rw [namedT_ref hb, h]
    constructor
    · intro e
      exact Or.inr ⟨(Option.some.inj e).symm, rfl⟩
    · rintro (⟨e, hk⟩ | ⟨rfl, _⟩)
      · exact absurd (Option.some.inj e).symm hk
      · rfl
  · next h =>
    constructor
    · intro e
      exact Or.inl ⟨e, fun hk => h (by rw [e, hk])⟩
    · rintro (⟨e, _⟩ | ⟨_, e⟩)
      · exact e
      · exact absurd e h

theorem ren_from {a b : Ky} (hb : keyOK b = true) (hab : a ≠ b) (fs : List Fld) : ¬ pointsF (mapT (renT a b) fs) a := by
  rw [points_map]
  rintro ⟨f, _, t, _, h⟩
  rcases (ren_named hb hab t).1 h with ⟨_, h2⟩ | ⟨h1, _⟩
  · exact h2 rfl
  · exact hab h1

theorem ren_to {a b : Ky} (hb : keyOK b = true) (hab : a ≠ b) (fs : List Fld) : pointsF (mapT (renT a b) fs) b ↔ pointsF fs a ∨ pointsF fs b := by
  rw [points_map]
  constructor
  · rintro ⟨f, hf, t, ht, h⟩
    rcases (ren_named hb hab t).1 h with ⟨h1, _⟩ | ⟨_, h2⟩
    · exact Or.inr ⟨f, hf, t, ht, h1⟩
    · exact Or.inl ⟨f, hf, t, ht, h2⟩
  · rintro (⟨f, hf, t, ht, h⟩ | ⟨f, hf, t, ht, h⟩)
    · exact ⟨f, hf, t, ht, (ren_named hb hab t).2 (Or.inr ⟨rfl, h⟩)⟩
    · exact ⟨f, hf, t, ht, (ren_named hb hab t).2 (Or.inl ⟨h, fun e => hab e.symm⟩)⟩

theorem ren_back_text {a b : Ky} (hb : keyOK b = true) {t : ByteArray} (h : namedT t ≠ some b) : renT b a (renT a b t) = t := by
  unfold renT
  by_cases h1 : namedT t = some a
  · rw [if_pos h1, namedT_ref hb, if_pos rfl]
    exact (namedT_some h1).1.symm
  · rw [if_neg h1, if_neg h]

theorem map_same {fs : List Fld} {g : ByteArray → ByteArray} (h : ∀ f ∈ fs, ∀ t ∈ f.2, g t = t) : mapT g fs = fs := by
  unfold mapT
  conv => rhs; rw [← List.map_id fs]
  apply List.map_congr_left
  intro f hf
  have : f.2.map g = f.2 := by
    conv => rhs; rw [← List.map_id f.2]
    exact List.map_congr_left fun t ht => h f hf t ht
  rw [this]
  rfl

theorem map_map {fs : List Fld} {g h : ByteArray → ByteArray} : mapT g (mapT h fs) = mapT (g ∘ h) fs := by
  unfold mapT
  rw [List.map_map]
  apply List.map_congr_left
  intro f _
  simp

theorem ren_back {a b : Ky} (hb : keyOK b = true) {fs : List Fld} (h : ¬ pointsF fs b) : mapT (renT b a) (mapT (renT a b) fs) = fs := by
  rw [map_map]
  exact map_same fun f hf t ht => ren_back_text hb fun e => h ⟨f, hf, t, ht, e⟩

/-! Resolve. -/

def boundT (bs : List Bd) (n : ByteArray) : Option Ky := (bs.find? fun b => decide (b.1 = n)).map (·.2)

def resT (bs : List Bd) (t : ByteArray) : ByteArray :=
  match tempT t with
  | none => t
  | some n => match boundT bs n with
    | some k => refT k
    | none => t

def allBound (bs : List Bd) (fs : List Fld) : Prop := ∀ f ∈ fs, ∀ t ∈ f.2, ∀ n, tempT t = some n → (boundT bs n).isSome = true

theorem bound_mem {bs : List Bd} {n : ByteArray} {k : Ky} (h : boundT bs n = some k) : (n, k) ∈ bs := by
  unfold boundT at h
  cases hf : bs.find? fun b => decide (b.1 = n) with
  | none => rw [hf] at h; cases h
  | some b =>
    rw [hf] at h
    simp only [Option.map_some, Option.some.injEq] at h
    have h1 := List.find?_some hf
    have h2 := List.mem_of_find?_eq_some hf
    simp only [decide_eq_true_eq] at h1
    obtain ⟨b1, b2⟩ := b
    simp only at h h1
    subst h h1
    exact h2

theorem bound_of {bs : List Bd} (hn : (bs.map (·.1)).Nodup) {n : ByteArray} {k : Ky} (h : (n, k) ∈ bs) : boundT bs n = some k := by
  induction bs with
  | nil => cases h
  | cons b r ih =>
    rw [List.map_cons, List.nodup_cons] at hn
    unfold boundT
    rw [List.find?_cons]
    rcases List.mem_cons.1 h with e | h
    · subst e; simp
    · have hne : b.1 ≠ n := fun e => hn.1 (by rw [e]; exact List.mem_map.2 ⟨_, h, rfl⟩)
      rw [decide_eq_false hne]
      exact ih hn.2 h

/-- The order of binds is no matter. -/
theorem bound_turn {bs cs : List Bd} (h1 : (bs.map (·.1)).Nodup) (h2 : (cs.map (·.1)).Nodup) (hm : ∀ x, x ∈ bs ↔ x ∈ cs) (n : ByteArray) : boundT bs n = boundT cs n := by
  cases hb : boundT bs n with
  | some k => exact (bound_of h2 ((hm _).1 (bound_mem hb))).symm
  | none =>
    cases hc : boundT cs n with
    | none => rfl
    | some k => rw [bound_of h1 ((hm _).2 (bound_mem hc))] at hb; cases hb

theorem res_turn {bs cs : List Bd} (h1 : (bs.map (·.1)).Nodup) (h2 : (cs.map (·.1)).Nodup) (hm : ∀ x, x ∈ bs ↔ x ∈ cs) : resT bs = resT cs := by
  funext t
  unfold resT
  cases tempT t with
  | none => rfl
  | some n => simp only [bound_turn h1 h2 hm n]

/-- Behind Resolve there is no temporary reference. -/
theorem res_temp {bs : List Bd} (hk : ∀ b ∈ bs, keyOK b.2 = true) {t : ByteArray} (h : ∀ n, tempT t = some n → (boundT bs n).isSome = true) : tempT (resT bs t) = none := by
  unfold resT
  cases ht : tempT t with
  | none => exact ht
  | some n =>
    simp only
    cases hb : boundT bs n with
    | none => have := h n ht; rw [hb] at this; cases this
    | some k => exact tempT_ref (hk _ (bound_mem hb))

theorem res_stays {bs : List Bd} {t : ByteArray} (h : tempT t = none) : resT bs t = t := by unfold resT; rw [h]

theorem res_named {bs : List Bd} (hk : ∀ b ∈ bs, keyOK b.2 = true) {t n : ByteArray} (ht : tempT t = some n) (h : (boundT bs n).isSome = true) : ∃ k, boundT bs n = some k ∧ namedT (resT bs t) = some k := by
  cases hb : boundT bs n with
  | none => rw [hb] at h; cases h
  | some k =>
    refine ⟨k, rfl, ?_⟩
    unfold resT
    rw [ht]
    simp only [hb]
    exact namedT_ref (hk _ (bound_mem hb))

/-- Behind Resolve the keys are those that were there, and those of the names that were used. -/
theorem res_points {bs : List Bd} (hk : ∀ b ∈ bs, keyOK b.2 = true) {fs : List Fld} (h : allBound bs fs) (k : Ky) :
    pointsF (mapT (resT bs) fs) k ↔ pointsF fs k ∨ ∃ f ∈ fs, ∃ t ∈ f.2, ∃ n, tempT t = some n ∧ boundT bs n = some k := by
  rw [points_map]
  constructor
  · rintro ⟨f, hf, t, ht, e⟩
    cases hn : tempT t with
    | none => rw [res_stays hn] at e; exact Or.inl ⟨f, hf, t, ht, e⟩
    | some n =>
      obtain ⟨k', hb, hk'⟩ := res_named hk hn (h f hf t ht n hn)
      rw [hk'] at e
      exact Or.inr ⟨f, hf, t, ht, n, hn, by rw [hb]; exact e⟩
  · rintro (⟨f, hf, t, ht, e⟩ | ⟨f, hf, t, ht, n, hn, e⟩)
    · exact ⟨f, hf, t, ht, by rw [res_stays (namedT_temp e)]; exact e⟩
    · obtain ⟨k', hb, hk'⟩ := res_named hk hn (by rw [e]; rfl)
      rw [hb] at e
      exact ⟨f, hf, t, ht, by rw [hk']; exact e⟩

end Go.Proofs.YtinmagodckkedaaGreat

/-
  The contracts of strings.CutPrefix, and of named, tempOf and Text of package refs; Named and Temp of the reference.
-/
namespace Go.Proofs.YtinmagodckkedaaGreat
open Go.RowKit

set_option maxHeartbeats 1000000 in
theorem hasp_yes (s p : ByteArray) (w : World) (hp : p.size ≤ s.size) (he : s.extract 0 p.size = p) :
    Calls Tryz.prog 71 #[.string s, .string p] w fun e w' => e = .returned (.bool true) ∧ ∃ n, w' = w.drewN n := by
  have c1 : (p.size : Int) ≤ (s.size : Int) := by omega
  have c2 : (0 : Int) ≤ (p.size : Int) := by omega
  have he2 : ((s.extract 0 p.size).toList == p.toList) = true := by rw [he]; simp
  clear he
  go_enter Tryz.func71, Tryz.ntmps71
  go_wp2_with fail
  first
  | (go_ret; exact ⟨rfl, 0, rfl⟩)
  | (go_quiet (fail); go_wp2_with fail; go_ret; exact ⟨rfl, _, rfl⟩)

set_option maxHeartbeats 1000000 in
theorem hasp_no (s p : ByteArray) (w : World) (hps : p.size ≤ maxLen) (h : ¬ (p.size ≤ s.size ∧ s.extract 0 p.size = p)) :
    Calls Tryz.prog 71 #[.string s, .string p] w fun e w' => e = .returned (.bool false) ∧ ∃ n, w' = w.drewN n := by
  unfold maxLen at hps
  by_cases hp : p.size ≤ s.size
  · have c1 : (p.size : Int) ≤ (s.size : Int) := by omega
    have c2 : (0 : Int) ≤ (p.size : Int) := by omega
    have he2 : ((s.extract 0 p.size).toList == p.toList) = false := by
      rw [Lib.toList_data, Lib.toList_data, beq_eq_false_iff_ne]
      intro e
      exact h ⟨hp, ba_ext e⟩
    clear h
    go_enter Tryz.func71, Tryz.ntmps71
    go_wp2_with fail
    first
    | (go_ret; exact ⟨rfl, 0, rfl⟩)
    | (go_quiet (fail); go_wp2_with fail; go_ret; exact ⟨rfl, _, rfl⟩)
  · have c1 : ¬ (p.size : Int) ≤ (s.size : Int) := by omega
    clear h
    go_enter Tryz.func71, Tryz.ntmps71
    go_wp2_with fail
    first
    | (go_ret; exact ⟨rfl, 0, rfl⟩)
    | (go_quiet (fail); go_wp2_with fail; go_ret; exact ⟨rfl, _, rfl⟩)

set_option maxHeartbeats 1000000 in
theorem cutp_yes (s p : ByteArray) (w : World) (hp : p.size ≤ s.size) (he : s.extract 0 p.size = p) :
    Calls Tryz.prog 34 #[.string s, .string p] w fun e w' => e = .returned (.tuple #[.string (s.extract p.size s.size), .bool true]) ∧ ∃ n, w' = w.drewN n := by
  have H := hid (fun W => hasp_yes s p W hp he)
  have c1 : (p.size : Int) ≤ (s.size : Int) := by omega
  have c2 : (0 : Int) ≤ (p.size : Int) := by omega
  clear he
  have hc : ∀ W, Calls Tryz.prog 48 #[.string s, .string p] W fun e w' => e = .returned (.tuple #[.string (s.extract p.size s.size), .bool true]) ∧ ∃ n, w' = W.drewN n := fun W => by
    go_enter Tryz.func48, Tryz.ntmps48
    go_wp2_with (go_at_call 71; refine (H.out _).mono ?_; rintro e w1 ⟨rfl, n1, rfl⟩)
    go_ret2
    exact ⟨rfl, n1, rfl⟩
  have HC := hid hc
  clear hc
  go_enter Tryz.func34, Tryz.ntmps34
  go_wp2_with (go_at_call 48; refine (HC.out _).mono ?_; rintro e w1 ⟨rfl, n1, rfl⟩)
  go_ret2
  exact ⟨rfl, n1, rfl⟩

set_option maxHeartbeats 1000000 in
theorem cutp_no (s p : ByteArray) (w : World) (hps : p.size ≤ maxLen) (h : ¬ (p.size ≤ s.size ∧ s.extract 0 p.size = p)) :
    Calls Tryz.prog 34 #[.string s, .string p] w fun e w' => e = .returned (.tuple #[.string s, .bool false]) ∧ ∃ n, w' = w.drewN n := by
  have H := hid (fun W => hasp_no s p W hps h)
  clear h
  have hc : ∀ W, Calls Tryz.prog 48 #[.string s, .string p] W fun e w' => e = .returned (.tuple #[.string s, .bool false]) ∧ ∃ n, w' = W.drewN n := fun W => by
    go_enter Tryz.func48, Tryz.ntmps48
    go_wp2_with (go_at_call 71; refine (H.out _).mono ?_; rintro e w1 ⟨rfl, n1, rfl⟩)
    go_ret2
    exact ⟨rfl, n1, rfl⟩
  have HC := hid hc
  clear hc
  go_enter Tryz.func34, Tryz.ntmps34
  go_wp2_with (go_at_call 48; refine (HC.out _).mono ?_; rintro e w1 ⟨rfl, n1, rfl⟩)
  go_ret2
  exact ⟨rfl, n1, rfl⟩

/-! Parse, by what it means. -/

def parseT (s : ByteArray) : Option Ky := (parseS s.data.toList).map fun k => (bytesL k.1, bytesL k.2)

theorem cutS_none {l : List UInt8} (h : (47 : UInt8) ∉ l) : cutS l = none := by
  induction l with
  | nil => rfl
  | cons c r ih =>
    simp only [List.mem_cons, not_or] at h
    unfold cutS
    rw [if_neg (fun e => h.1 e.symm), ih h.2]
    rfl

theorem cut_at {s : ByteArray} {i : Nat} (hi : i < s.size) (hc : s.data.toList[i]? = some 47) (hn : (47 : UInt8) ∉ s.data.toList.take i) : cutS s.data.toList = some ((s.extract 0 i).data.toList, (s.extract (i + 1) s.size).data.toList) := by
  rw [ext_head, ext_tail]
  have := ix_split s.data.toList 47 i (by simpa using hi) hc
  conv => lhs; rw [this]
  exact cutS_of hn

theorem parseT_at {s : ByteArray} {i : Nat} (hi : i < s.size) (hc : s.data.toList[i]? = some 47) (hn : (47 : UInt8) ∉ s.data.toList.take i) :
    parseT s = if keyB (s.extract 0 i) (s.extract (i + 1) s.size) = true then some (s.extract 0 i, s.extract (i + 1) s.size) else none := by
  unfold parseT parseS
  rw [cut_at hi hc hn]
  show Option.map _ (if keyB (s.extract 0 i) (s.extract (i + 1) s.size) = true then _ else none) = _
  by_cases h : keyB (s.extract 0 i) (s.extract (i + 1) s.size) = true
  · rw [if_pos h, if_pos h]; rfl
  · rw [if_neg h, if_neg h]; rfl

/-- What Parse answers: the key, or none. -/
def PAns (s : ByteArray) (k : Ky) (c : Int) : Prop := (parseT s = some k ∧ c = 0) ∨ (parseT s = none ∧ k = (⟨#[]⟩, ⟨#[]⟩) ∧ c = 2)

theorem parse_is (s : ByteArray) (hs : s.size ≤ maxLen) :
    ∃ (k : Ky) (c : Int), PAns s k c ∧ ∀ w, Calls Tryz.prog 35 #[.string s] w fun e w' => e = .returned (.tuple #[.agg #[.string k.1, .string k.2], .int .i64 c]) ∧ Below w.heap.size w w' := by
  rcases ix_cases s.data.toList 47 with ⟨h1, h2⟩ | ⟨i, h1, h2, h3, h4⟩
  · refine ⟨(⟨#[]⟩, ⟨#[]⟩), 2, Or.inr ⟨?_, rfl, rfl⟩, fun w => parse_bare s w hs h1⟩
    unfold parseT parseS
    rw [cutS_none h2]
    rfl
  · have hi : i < s.size := by simpa using h2
    have hp := parseT_at hi h3 h4
    cases hk : keyB (s.extract 0 i) (s.extract (i + 1) s.size) with
    | false =>
      rw [hk, if_neg (by simp)] at hp
      exact ⟨_, _, Or.inr ⟨hp, rfl, rfl⟩, fun w => parse_no s w hs i h1 hi hk⟩
    | true =>
      rw [hk, if_pos rfl] at hp
      exact ⟨_, _, Or.inl ⟨hp, rfl⟩, fun w => parse_yes s w hs i h1 hi hk⟩

theorem parse_pos {s : ByteArray} {i : Nat} (hi : i < s.size) (hc : s[i] = 47) (hk : keyB (s.extract 0 i) (s.extract (i + 1) s.size) = true) : parseT s = some (s.extract 0 i, s.extract (i + 1) s.size) := by
  have hn : (47 : UInt8) ∉ s.data.toList.take i := by
    rw [← ext_head]
    exact type_slash (keyB_parts hk).1
  have hc' : s.data.toList[i]? = some 47 := by
    rw [List.getElem?_eq_getElem (by simpa using hi)]
    exact congrArg some hc
  rw [parseT_at hi hc' hn, if_pos hk]

theorem parse_neg {s : ByteArray} {k : Ky} (h : parseT s = some k) : ∃ i, ∃ hi : i < s.size, s[i] = 47 ∧ keyB (s.extract 0 i) (s.extract (i + 1) s.size) = true := by
  unfold parseT at h
  cases hp : parseS s.data.toList with
  | none => rw [hp] at h; cases h
  | some x =>
    obtain ⟨h1, h2⟩ := parseS_some hp
    have hl : s.data.toList.length = x.1.length + 1 + x.2.length := by rw [h1]; simp; omega
    have hi : x.1.length < s.size := by
      have : s.size = s.data.toList.length := by simp
      omega
    refine ⟨x.1.length, hi, ?_, ?_⟩
    · have : s.data.toList[x.1.length]? = some 47 := by rw [h1]; simp
      rw [List.getElem?_eq_getElem (by simpa using hi)] at this
      exact Option.some.inj this
    · have e1 : (s.extract 0 x.1.length).data.toList = x.1 := by rw [ext_head, h1]; simp
      have e2 : (s.extract (x.1.length + 1) s.size).data.toList = x.2 := by rw [ext_tail, h1]; simp
      unfold keyB
      rw [e1, e2]
      exact h2

theorem rparse_is (s : ByteArray) (hs : s.size ≤ maxLen) {k : Ky} {c : Int} (h : PAns s k c) (w : World) :
    Calls Tryz.prog 25 #[.string s] w fun e w' => e = .returned (.tuple #[.agg #[.string k.1, .string k.2], .int .i64 c]) ∧ Below w.heap.size w w' := by
  refine rparse_any s w hs k.1 k.2 c (fun i hi hc hk => ?_) (fun hall => ?_)
  · have := parse_pos hi hc hk
    rcases h with ⟨h, rfl⟩ | ⟨h, _⟩
    · rw [this] at h
      have := Option.some.inj h
      rw [← this]
      exact ⟨rfl, rfl, rfl⟩
    · rw [this] at h; cases h
  · rcases h with ⟨h, rfl⟩ | ⟨h, rfl, rfl⟩
    · obtain ⟨i, hi, hc, hk⟩ := parse_neg h
      rw [hall i hi hc] at hk; cases hk
    · exact ⟨rfl, rfl, rfl⟩

theorem pans_is (s : ByteArray) : ∃ (k : Ky) (c : Int), PAns s k c := by
  cases h : parseT s with
  | none => exact ⟨_, _, Or.inr ⟨h, rfl, rfl⟩⟩
  | some k => exact ⟨k, 0, Or.inl ⟨h, rfl⟩⟩

/-! References. -/

theorem star_cases (t : ByteArray) : (1 ≤ t.size ∧ t.extract 0 1 = ⟨#[42]⟩ ∧ namedT t = parseT (t.extract 1 t.size)) ∨ (¬ (1 ≤ t.size ∧ t.extract 0 1 = ⟨#[42]⟩) ∧ namedT t = none) := by
  have e0 := ext_head t 1
  have e1 := ext_tail t 1
  have hsz : t.size = t.data.toList.length := by simp
  cases hl : t.data.toList with
  | nil =>
    right
    refine ⟨fun h => ?_, ?_⟩
    · have h0 := h.1; rw [hsz, hl] at h0; simp at h0
    · unfold namedT; rw [hl]; rfl
  | cons c r =>
    by_cases hc : c = 42
    · subst hc
      left
      refine ⟨by rw [hsz, hl]; simp, ba_ext (by rw [e0, hl]; rfl), ?_⟩
      unfold namedT parseT
      rw [e1, hl]
      rfl
    · right
      refine ⟨fun h => ?_, ?_⟩
      · have := congrArg (fun b : ByteArray => b.data.toList) h.2
        simp only [e0, hl] at this
        exact hc (by simpa using this)
      · unfold namedT
        rw [hl]
        have : namedS (c :: r) = none := by
          unfold namedS
          split
          · next h => simp only [List.cons.injEq] at h; exact absurd h.1 hc
          · rfl
        rw [this]; rfl

/-- What a text tells: the key that it names, and whether it names one. -/
def NAns (t : ByteArray) (k : Ky) (b : Bool) : Prop := (namedT t = some k ∧ b = true) ∨ (namedT t = none ∧ b = false)

theorem NAns.eq {t : ByteArray} {k : Ky} {b : Bool} (h : NAns t k b) : b = (namedT t).isSome := by
  rcases h with ⟨h, rfl⟩ | ⟨h, rfl⟩ <;> rw [h] <;> rfl

/-- A result's cells, as they were made, behind a call and a block more. -/
theorem box_two {w w2 : World} {n1 : Nat} {T : TypeId} {x y : Value} (hb : Below ((w.alloc (.cells #[x, y] T)).drewN n1).heap.size ((w.alloc (.cells #[x, y] T)).drewN n1) w2) :
    (∀ o, (w2.alloc o).cell? ⟨w.heap.size, 0, none⟩ = some x) ∧ (∀ o, (w2.alloc o).cell? ⟨w.heap.size, 1, none⟩ = some y) ∧ (∀ o, (w2.alloc o).frozen? ⟨w.heap.size, 0, none⟩ = false) ∧ (∀ o, (w2.alloc o).frozen? ⟨w.heap.size, 1, none⟩ = false) := by
  have h0 : ((w.alloc (.cells #[x, y] T)).drewN n1).heap[w.heap.size]? = some (.cells #[x, y] T (0, 0)) := heap_alloc_new w _
  have hlt : w.heap.size < ((w.alloc (.cells #[x, y] T)).drewN n1).heap.size := (Array.getElem?_eq_some_iff.1 h0).1
  have h1 := (hb.block _ hlt).trans h0
  have h2 : ∀ o, (w2.alloc o).heap[w.heap.size]? = some (.cells #[x, y] T (0, 0)) := fun o => (Below.heap_alloc _ _ _ (Nat.lt_of_lt_of_le hlt hb.size)).trans h1
  refine ⟨fun o => ?_, fun o => ?_, fun o => ?_, fun o => ?_⟩
  · rw [Lib.cell_of_heap (h2 o)]; rfl
  · rw [Lib.cell_of_heap (h2 o)]; rfl
  · exact Lib.frozen_of_heap (h2 o) _
  · exact Lib.frozen_of_heap (h2 o) _

set_option maxHeartbeats 1000000 in
theorem named_is (t : ByteArray) (hs : t.size ≤ maxLen) :
    ∃ (k : Ky) (b : Bool), NAns t k b ∧ ∀ w, Calls Tryz.prog 17 #[.string t] w fun e w' => e = .returned (.tuple #[.agg #[.string k.1, .string k.2], .bool b]) ∧ Below w.heap.size w w' := by
  rcases star_cases t with ⟨h1, h2, h3⟩ | ⟨h1, h3⟩
  · obtain ⟨k, c, hp, hcall⟩ := parse_is (t.extract 1 t.size) (ext_size t 1 t.size hs)
    have hcut := hid (fun w => cutp_yes t ⟨#[42]⟩ w h1 h2)
    have HC := hid hcall
    have hb : ∃ b : Bool, NAns t k b ∧ (c == 0) = b := by
      rcases hp with ⟨hp, rfl⟩ | ⟨hp, _, rfl⟩
      · exact ⟨true, Or.inl ⟨h3.trans hp, rfl⟩, rfl⟩
      · exact ⟨false, Or.inr ⟨h3.trans hp, rfl⟩, rfl⟩
    obtain ⟨b, hn, he⟩ := hb
    refine ⟨k, b, hn, fun w => ?_⟩
    clear hcall hp hn h3 h2
    obtain ⟨k1, k2⟩ := k
    simp only at HC ⊢
    go_enter Tryz.func17, Tryz.ntmps17
    go_wp2_with (first
      | (go_at_call 34; refine (hcut.out _).mono ?_; rintro e w1 ⟨rfl, n1, rfl⟩)
      | (go_at_call 35; refine (HC.out _).mono ?_; rintro e w2 ⟨rfl, hb2⟩; obtain ⟨k0, k1', q0, q1⟩ := box_two hb2))
    exact bodyPost_ret (v := .tuple #[.agg #[.string k1, .string k2], .bool b]) (by simp [results, Tryz.results17, go_sem, k0, k1']) rfl
      ⟨rfl, ((((bel_drewN ((Below.refl _ _).alloc (Nat.le_refl _) _) _).trans (hb2.mono (by simp))).alloc (by have := hb2.size; simp at this; omega) _).setCell (by simp) _).setCell (by simp) _⟩
  · have hcut := hid (fun w => cutp_no t ⟨#[42]⟩ w (by decide) h1)
    refine ⟨(⟨#[]⟩, ⟨#[]⟩), false, Or.inr ⟨h3, rfl⟩, fun w => ?_⟩
    clear h1 h3
    go_enter Tryz.func17, Tryz.ntmps17
    go_wp2_with (first
      | (go_at_call 34; refine (hcut.out _).mono ?_; rintro e w1 ⟨rfl, n1, rfl⟩))
    exact bodyPost_ret (v := .tuple #[.agg #[.string ⟨#[]⟩, .string ⟨#[]⟩], .bool false]) (by simp [results, Tryz.results17, go_sem]) rfl
      ⟨rfl, (((bel_drewN ((Below.refl _ _).alloc (Nat.le_refl _) _) _)).setCell (by simp) _).setCell (by simp) _⟩

end Go.Proofs.YtinmagodckkedaaGreat

/-
  The contracts of tempOf and Text of package refs; Named and Temp of the reference.
-/
namespace Go.Proofs.YtinmagodckkedaaGreat
open Go.RowKit

theorem list_byte (t : ByteArray) (i : Nat) (h : i < t.size) : t.data.toList[i]? = some t[i] := by
  rw [List.getElem?_eq_getElem (by simpa using h)]; rfl

theorem named_byte (t : ByteArray) : (∃ h : 0 < t.size, t[0] = 42) ∧ namedT t = parseT (t.extract 1 t.size) ∨ (∀ h : 0 < t.size, t[0] ≠ 42) ∧ namedT t = none := by
  by_cases h0 : 0 < t.size
  · have e0 := list_byte t 0 h0
    rcases star_cases t with ⟨_, h2, h3⟩ | ⟨h1, h3⟩
    · left
      refine ⟨⟨h0, ?_⟩, h3⟩
      have := congrArg (fun b : ByteArray => b.data.toList) h2
      simp only [ext_head] at this
      have e1 : (t.data.toList.take 1)[0]? = some 42 := by rw [this]; rfl
      rw [List.getElem?_take_of_lt (by omega), e0] at e1
      exact Option.some.inj e1
    · right
      refine ⟨fun _ hc => h1 ⟨h0, ?_⟩, h3⟩
      apply ba_ext
      rw [ext_head]
      cases hl : t.data.toList with
      | nil => rw [hl] at e0; cases e0
      | cons c r =>
        rw [hl] at e0
        have : c = 42 := by rw [← hc]; exact Option.some.inj e0
        rw [this]; rfl
  · right
    refine ⟨fun h => absurd h h0, ?_⟩
    rcases star_cases t with ⟨h1, _⟩ | ⟨_, h3⟩
    · omega
    · exact h3

theorem temp_byte (t : ByteArray) : (∃ h : 1 < t.size, t[0] = 42 ∧ t[1] = 64) ∧ tempT t = (if tempB (t.extract 2 t.size).data.toList = true then some (t.extract 2 t.size) else none) ∨ (∀ h : 1 < t.size, t[0] = 42 → t[1] ≠ 64) ∧ tempT t = none := by
  have hsz : t.size = t.data.toList.length := by simp
  have e2 := ext_tail t 2
  by_cases h1 : 1 < t.size
  · have b0 := list_byte t 0 (by omega)
    have b1 := list_byte t 1 h1
    cases hl : t.data.toList with
    | nil => rw [hl] at b0; cases b0
    | cons c r =>
      cases hr : r with
      | nil => rw [hl, hr] at b1; cases b1
      | cons d q =>
        rw [hl, hr] at b0 b1 e2
        have c0 : t[0] = c := (Option.some.inj b0).symm
        have c1 : t[1] = d := (Option.some.inj b1).symm
        simp only [List.drop_succ_cons, List.drop_zero] at e2
        by_cases hc : c = 42 ∧ d = 64
        · left
          obtain ⟨rfl, rfl⟩ := hc
          refine ⟨⟨h1, c0, c1⟩, ?_⟩
          rw [e2]
          have eq : t.extract 2 t.size = bytesL q := ba_ext (by rw [e2]; rfl)
          unfold tempT
          rw [hl, hr, eq]
          simp only [tempS]
          by_cases h : tempB q = true
          · rw [if_pos h, if_pos h]; rfl
          · rw [if_neg h, if_neg h]; rfl
        · right
          refine ⟨fun _ h0 h => hc ⟨by rw [← c0]; exact h0, by rw [← c1]; exact h⟩, ?_⟩
          unfold tempT
          rw [hl, hr]
          have : tempS (c :: d :: q) = none := by
            unfold tempS
            split
            · next h => simp only [List.cons.injEq] at h; exact absurd ⟨h.1, h.2.1⟩ hc
            · rfl
          rw [this]; rfl
  · right
    refine ⟨fun h => absurd h h1, ?_⟩
    unfold tempT
    cases hl : t.data.toList with
    | nil => rfl
    | cons c r =>
      cases hr : r with
      | nil =>
        have : tempS [c] = none := by
          unfold tempS
          split
          · next h => simp at h
          · rfl
        rw [this]; rfl
      | cons d q => rw [hl, hr] at hsz; simp at hsz; omega

theorem at_ext {t : ByteArray} (h : 1 < t.size) (h0 : t[0] = 42) (h1 : t[1] = 64) : t.extract 0 2 = ⟨#[42, 64]⟩ := by
  apply ba_ext
  rw [ext_head]
  have b0 := list_byte t 0 (by omega)
  have b1 := list_byte t 1 h
  cases hl : t.data.toList with
  | nil => rw [hl] at b0; cases b0
  | cons c r =>
    cases hr : r with
    | nil => rw [hl, hr] at b1; cases b1
    | cons d q =>
      rw [hl, hr] at b0 b1
      have c0 : c = 42 := by rw [← h0]; exact Option.some.inj b0
      have c1 : d = 64 := by rw [← h1]; exact Option.some.inj b1
      rw [c0, c1]; rfl

theorem at_of {t : ByteArray} (h : 1 < t.size) (he : t.extract 0 2 = ⟨#[42, 64]⟩) : t[0] = 42 ∧ t[1] = 64 := by
  have := congrArg (fun b : ByteArray => b.data.toList) he
  simp only [ext_head] at this
  have e0 : (t.data.toList.take 2)[0]? = some 42 := by rw [this]; rfl
  have e1 : (t.data.toList.take 2)[1]? = some 64 := by rw [this]; rfl
  rw [List.getElem?_take_of_lt (by omega), list_byte t 0 (by omega)] at e0
  rw [List.getElem?_take_of_lt (by omega), list_byte t 1 h] at e1
  exact ⟨Option.some.inj e0, Option.some.inj e1⟩

/-- What a text tells: the temporary name, and whether it names one. -/
def TAns (t r : ByteArray) (b : Bool) : Prop := (tempT t = some r ∧ b = true) ∨ (tempT t = none ∧ b = false)

theorem TAns.eq {t r : ByteArray} {b : Bool} (h : TAns t r b) : b = (tempT t).isSome := by
  rcases h with ⟨h, rfl⟩ | ⟨h, rfl⟩ <;> rw [h] <;> rfl

theorem temp_size {t n : ByteArray} (h : tempT t = some n) : n.size ≤ t.size := by
  rcases temp_byte t with ⟨⟨h1, _⟩, h2⟩ | ⟨_, h2⟩
  · rw [h] at h2
    split at h2
    · rw [Option.some.inj h2]; simp
    · cases h2
  · rw [h] at h2; cases h2

set_option maxHeartbeats 1000000 in
theorem tempOf_is (t : ByteArray) (hs : t.size ≤ maxLen) :
    ∃ (r : ByteArray) (b : Bool), TAns t r b ∧ ∀ w, Calls Tryz.prog 19 #[.string t] w fun e w' => e = .returned (.tuple #[.string r, .bool b]) ∧ ∃ n, w' = w.drewN n := by
  by_cases hp : 2 ≤ t.size ∧ t.extract 0 2 = ⟨#[42, 64]⟩
  · have hcut := hid (fun w => cutp_yes t ⟨#[42, 64]⟩ w hp.1 hp.2)
    have HT := hid (fun w => temp_any (t.extract 2 t.size) w (ext_size t 2 t.size hs))
    obtain ⟨b0, b1⟩ := at_of (show 1 < t.size by omega) hp.2
    have hT : tempT t = if tempB (t.extract 2 t.size).data.toList = true then some (t.extract 2 t.size) else none := by
      rcases temp_byte t with ⟨_, h⟩ | ⟨h, _⟩
      · exact h
      · exact absurd b1 (h (by omega) b0)
    clear b0 b1 hp
    cases hB : tempB (t.extract 2 t.size).data.toList with
    | true =>
      rw [hB, if_pos rfl] at hT
      rw [hB] at HT
      refine ⟨t.extract 2 t.size, true, Or.inl ⟨hT, rfl⟩, fun w => ?_⟩
      clear hT
      go_enter Tryz.func19, Tryz.ntmps19
      go_wp2_with (first
        | (go_at_call 34; refine (hcut.out _).mono ?_; rintro e w1 ⟨rfl, n1, rfl⟩)
        | (go_at_call 40; refine (HT.out _).mono ?_; rintro e w2 ⟨rfl, rfl⟩))
      first
      | (go_ret2; exact ⟨rfl, n1, rfl⟩)
      | (go_region_with (first | (go_at_call 40; refine (HT.out _).mono ?_; rintro e w2 ⟨rfl, rfl⟩)); go_wp2_with fail; go_ret2; exact ⟨rfl, _, rfl⟩)
    | false =>
      rw [hB, if_neg (by simp)] at hT
      rw [hB] at HT
      refine ⟨t.extract 2 t.size, false, Or.inr ⟨hT, rfl⟩, fun w => ?_⟩
      clear hT
      go_enter Tryz.func19, Tryz.ntmps19
      go_wp2_with (first
        | (go_at_call 34; refine (hcut.out _).mono ?_; rintro e w1 ⟨rfl, n1, rfl⟩)
        | (go_at_call 40; refine (HT.out _).mono ?_; rintro e w2 ⟨rfl, rfl⟩))
      first
      | (go_ret2; exact ⟨rfl, n1, rfl⟩)
      | (go_region_with (first | (go_at_call 40; refine (HT.out _).mono ?_; rintro e w2 ⟨rfl, rfl⟩)); go_wp2_with fail; go_ret2; exact ⟨rfl, _, rfl⟩)
  · have hcut := hid (fun w => cutp_no t ⟨#[42, 64]⟩ w (by decide) hp)
    have hT : tempT t = none := by
      rcases temp_byte t with ⟨⟨h1, h2, h3⟩, _⟩ | ⟨_, h⟩
      · exact absurd ⟨by omega, at_ext h1 h2 h3⟩ hp
      · exact h
    refine ⟨t, false, Or.inr ⟨hT, rfl⟩, fun w => ?_⟩
    clear hT hp
    go_enter Tryz.func19, Tryz.ntmps19
    go_wp2_with (first
      | (go_at_call 34; refine (hcut.out _).mono ?_; rintro e w1 ⟨rfl, n1, rfl⟩))
    first
    | (go_ret2; exact ⟨rfl, n1, rfl⟩)
    | (go_region_with (fail); go_wp2_with fail; go_ret2; exact ⟨rfl, _, rfl⟩)

theorem ref_cat (k : Ky) : (⟨#[42]⟩ : ByteArray) ++ (k.1 ++ ⟨#[47]⟩ ++ k.2) = refT k := by
  apply ba_ext
  rw [ba_append, cat_data]
  rfl

theorem ref_cat2 (k : Ky) : (⟨#[42]⟩ : ByteArray) ++ k.1 ++ ⟨#[47]⟩ ++ k.2 = refT k := by
  apply ba_ext
  rw [ba_append, ba_append, ba_append]
  show _ = 42 :: (k.1.data.toList ++ 47 :: k.2.data.toList)
  simp

set_option maxHeartbeats 1000000 in
theorem text_yes (k : Ky) (w : World) (hk : keyOK k = true) :
    Calls Tryz.prog 11 #[.agg #[.string k.1, .string k.2]] w fun e w' => e = .returned (.tuple #[.string (refT k), .int .i64 0]) ∧ Below w.heap.size w w' := by
  have HE := hid (ref_cat k)
  obtain ⟨a, b⟩ := k
  obtain ⟨h1, h2⟩ := keyB_sizes (a := a) (b := b) hk
  have HP := hid (fun w => nprint_yes a b w (by unfold maxLen; omega) (by unfold maxLen; omega) h1 h2 hk)
  have hz : (a ++ ⟨#[47]⟩ ++ b).size ≤ 65 := by simp; have : (⟨#[47]⟩ : ByteArray).size = 1 := rfl; omega
  obtain ⟨s, hsq⟩ : ∃ s, a ++ ⟨#[47]⟩ ++ b = s := ⟨_, rfl⟩
  rw [hsq] at HP hz
  have HS := hid hsq
  clear hsq hk
  go_enter Tryz.func11, Tryz.ntmps11
  go_wp2_with (first | (go_at_call 24; refine (HP.out _).mono ?_; rintro e w2 ⟨rfl, hb2⟩))
  go_ret2
  refine ⟨?_, ((Below.refl _ _).alloc (Nat.le_refl _) _).trans (hb2.mono (by simp))⟩
  rw [← HE.out, ← HS.out]
  rfl

set_option maxHeartbeats 1000000 in
theorem text_no (k : Ky) (w : World) (h1 : k.1.size ≤ maxLen) (h2 : k.2.size ≤ maxLen) (hk : keyOK k = false) :
    Calls Tryz.prog 11 #[.agg #[.string k.1, .string k.2]] w fun e w' => e = .returned (.tuple #[.string ⟨#[]⟩, .int .i64 2]) ∧ Below w.heap.size w w' := by
  have HP := hid (fun w => nprint_no k.1 k.2 w h1 h2 hk)
  obtain ⟨a, b⟩ := k
  simp only at HP ⊢
  clear hk
  go_enter Tryz.func11, Tryz.ntmps11
  go_wp2_with (first | (go_at_call 24; refine (HP.out _).mono ?_; rintro e w2 ⟨rfl, hb2⟩))
  go_ret2
  exact ⟨rfl, ((Below.refl _ _).alloc (Nat.le_refl _) _).trans (hb2.mono (by simp))⟩

end Go.Proofs.YtinmagodckkedaaGreat

/-
  Rows of plain elements, whatever their kind: how they lie in memory, and who owns them.
-/
namespace Go.Proofs.YtinmagodckkedaaGreat
open Go.RowKit

/-- A kind of element: its type, how many cells it has, and which. -/
structure Kind (α : Type) where
  T : TypeId
  k : Nat
  enc : α → List Value
  len : ∀ x, (enc x).length = k
  pos : 0 < k
  one : ∀ x, ∀ u ∈ enc x, u.oneCell' = true

def Kind.cells {α : Type} (K : Kind α) (d : List α) : List Value := d.flatMap K.enc

theorem Kind.cells_nil {α : Type} (K : Kind α) : K.cells [] = [] := rfl
theorem Kind.cells_one {α : Type} (K : Kind α) (x : α) : K.cells [x] = K.enc x := by simp [Kind.cells]
theorem Kind.cells_append {α : Type} (K : Kind α) (a b : List α) : K.cells (a ++ b) = K.cells a ++ K.cells b := List.flatMap_append
theorem Kind.cells_len {α : Type} (K : Kind α) (d : List α) : (K.cells d).length = d.length * K.k := by
  induction d with
  | nil => simp [Kind.cells]
  | cons x d ih =>
    have e : K.cells (x :: d) = K.enc x ++ K.cells d := rfl
    rw [e, List.length_append, K.len, ih, List.length_cons, Nat.add_mul, Nat.one_mul, Nat.add_comm]

theorem Kind.cells_get {α : Type} (K : Kind α) (d : List α) (i : Nat) (h : i < d.length) (j : Nat) (hj : j < K.k) : (K.cells d)[i * K.k + j]? = (K.enc d[i])[j]? := by
  induction d generalizing i with
  | nil => simp at h
  | cons x d ih =>
    have e : K.cells (x :: d) = K.enc x ++ K.cells d := rfl
    rw [e]
    cases i with
    | zero => rw [Nat.zero_mul, Nat.zero_add, List.getElem?_append_left (by rw [K.len]; exact hj)]; rfl
    | succ i =>
      have hl : (K.enc x).length ≤ (i + 1) * K.k + j := by rw [K.len, Nat.add_mul, Nat.one_mul]; omega
      rw [List.getElem?_append_right hl, K.len]
      have e2 : (i + 1) * K.k + j - K.k = i * K.k + j := by rw [Nat.add_mul, Nat.one_mul]; omega
      rw [e2]
      exact ih i (by simpa using h)

theorem Kind.cells_ones {α : Type} (K : Kind α) (d : List α) : ∀ u ∈ K.cells d, u.oneCell' = true := by
  intro u hu
  obtain ⟨x, _, hx⟩ := List.mem_flatMap.1 hu
  exact K.one x u hx

/-- The elements d lie from off on in block b. -/
def Kind.At {α : Type} (K : Kind α) (w : World) (b off : Nat) (d : List α) : Prop :=
  ∀ i, (h : i < d.length) → ∀ j u, (K.enc d[i])[j]? = some u → w.cell? ⟨b, off + i * K.k + j, none⟩ = some u

/-- v is a slice that holds the elements d. -/
def Kind.Is {α : Type} (K : Kind α) (w : World) (v : Value) (d : List α) : Prop :=
  ∃ p cap, v = .slice p d.length cap ∧ (d = [] ∨ ∃ b off, p = some ⟨b, off, none⟩ ∧ K.At w b off d)

/-- v owns a row of the elements d, in a block at or behind n0. -/
def Kind.Own {α : Type} (K : Kind α) (n0 : Nat) (w : World) (v : Value) (d : List α) : Prop := w.ownsRow n0 K.T K.k v d.length (K.cells d)

theorem Kind.at_kept {α : Type} {K : Kind α} {w w' : World} {b off : Nat} {d : List α} (h : K.At w b off d) (hb : Below w.heap.size w w') : K.At w' b off d :=
  fun i hi j u hu => (hb.cell (p := ⟨b, off + i * K.k + j, none⟩) (cell_block (h i hi j u hu))).trans (h i hi j u hu)

theorem Kind.is_kept {α : Type} {K : Kind α} {w w' : World} {v : Value} {d : List α} (h : K.Is w v d) (hb : Below w.heap.size w w') : K.Is w' v d := by
  obtain ⟨p, cap, rfl, h⟩ := h
  refine ⟨p, cap, rfl, ?_⟩
  rcases h with h | ⟨b, off, hp, h⟩
  · exact Or.inl h
  · exact Or.inr ⟨b, off, hp, K.at_kept h hb⟩

theorem Kind.is_nil {α : Type} (K : Kind α) (w : World) : K.Is w (.slice none 0 0) [] := ⟨none, 0, rfl, Or.inl rfl⟩
theorem Kind.own_nil {α : Type} (K : Kind α) (n0 : Nat) (w : World) : K.Own n0 w (.slice none 0 0) [] := World.ownsRow_nil _ _ _ _

theorem Kind.own_on {α : Type} {K : Kind α} {n0 : Nat} {w w' : World} {v : Value} {d : List α} (h : K.Own n0 w v d) (hb : Below w.heap.size w w') : K.Own n0 w' v d := _root_.Go.Proofs.YtinmagodckkedaaGreat.own_on h hb
theorem Kind.own_weak {α : Type} {K : Kind α} {n0 n1 : Nat} {w : World} {v : Value} {d : List α} (h : K.Own n0 w v d) (hn : n1 ≤ n0) : K.Own n1 w v d := _root_.Go.Proofs.YtinmagodckkedaaGreat.own_weak h hn

theorem Kind.own_shape {α : Type} {K : Kind α} {n0 : Nat} {w : World} {v : Value} {d : List α} (h : K.Own n0 w v d) : ∃ p cap, v = .slice p d.length cap := by
  rcases h.2 with ⟨hv, h0⟩ | ⟨g, cap, cur, hv, _⟩
  · exact ⟨none, 0, by rw [hv, h0]⟩
  · exact ⟨_, _, hv⟩

theorem Kind.own_is {α : Type} {K : Kind α} {n0 : Nat} {w : World} {v : Value} {d : List α} (h : K.Own n0 w v d) : K.Is w v d := by
  rcases h.2 with ⟨rfl, h0⟩ | ⟨g, c, cur, rfl, _, hg, _, _, hsz, htk⟩
  · obtain rfl := List.length_eq_zero_iff.1 h0
    exact K.is_nil w
  · refine ⟨_, c, rfl, Or.inr ⟨g, 0, rfl, fun i hi j u hu => ?_⟩⟩
    have hj : j < K.k := by
      have := (List.getElem?_eq_some_iff.1 hu).1
      rwa [K.len] at this
    have hlt : i * K.k + j < d.length * K.k := by
      have h1 : (i + 1) * K.k ≤ d.length * K.k := Nat.mul_le_mul_right _ hi
      rw [Nat.add_mul, Nat.one_mul] at h1
      omega
    rw [Nat.zero_add, cell_of_row w g _ cur _ _ hg, ← Array.getElem?_toList]
    have : (K.cells d)[i * K.k + j]? = cur.toList[i * K.k + j]? := by rw [← htk, List.getElem?_take, if_pos hlt]
    rw [← this, K.cells_get d i hi j hj, hu]

/-- What a slice of elements gives an append. -/
theorem Kind.src {α : Type} {K : Kind α} {w : World} {p : Option Addr} {d : List α} (h : d = [] ∨ ∃ b off, p = some ⟨b, off, none⟩ ∧ K.At w b off d) :
    d.length = 0 ∨ ∃ ad, p = some ad ∧ ∀ j u, (K.cells d)[j]? = some u → w.cell? (ad.add j) = some u := by
  rcases h with rfl | ⟨b, off, rfl, hx⟩
  · exact Or.inl rfl
  · refine Or.inr ⟨_, rfl, fun j u hu => ?_⟩
    have hj : j < d.length * K.k := by
      have := (List.getElem?_eq_some_iff.1 hu).1
      rwa [K.cells_len] at this
    have hk : j / K.k < d.length := (Nat.div_lt_iff_lt_mul K.pos).2 hj
    have hm : j % K.k < K.k := Nat.mod_lt _ K.pos
    have e : j / K.k * K.k + j % K.k = j := by rw [Nat.mul_comm]; exact Nat.div_add_mod j K.k
    have hg := K.cells_get d (j / K.k) hk (j % K.k) hm
    rw [e, hu] at hg
    have := hx (j / K.k) hk (j % K.k) u hg.symm
    rw [addr_add]
    rw [Nat.add_assoc, e] at this
    exact this

/-- A literal row of one element. -/
theorem Kind.news {α : Type} (K : Kind α) (w : World) (x : α) : ∀ j u, (K.cells [x])[j]? = some u → (w.alloc (.cells (K.enc x).toArray K.T)).cell? ((⟨w.heap.size, 0, none⟩ : Addr).add j) = some u := by
  intro j u hu
  rw [K.cells_one] at hu
  rw [addr_add, Nat.zero_add, cell_of_row _ _ _ _ _ _ (heap_alloc_new w _)]
  simpa using hu

theorem Kind.own_snoc {α : Type} {K : Kind α} {n0 : Nat} {w : World} {v : Value} {d : List α} {x : α} {n : Nat} {xs : List Value} (h : w.ownsRow n0 K.T K.k v n xs) (hn : n = d.length + 1) (hx : xs = K.cells d ++ K.cells [x]) : K.Own n0 w v (d ++ [x]) := by
  subst hn hx
  unfold Kind.Own
  rw [K.cells_append, List.length_append]
  exact h

end Go.Proofs.YtinmagodckkedaaGreat

/-
  The plain mathematics of terms: which may be, their order, and what is normal.
-/
namespace Go.Proofs.YtinmagodckkedaaGreat
open Go.RowKit

/-- A term: its field's name, its operator, its text. -/
abbrev Tm := ByteArray × Int × ByteArray

def encM (x : Tm) : List Value := [.string x.1, .int .i64 x.2.1, .string x.2.2]

/-- Terms that a machine can hold. -/
def FitM (p : List Tm) : Prop := p.length ≤ maxLen ∧ ∀ x ∈ p, x.1.size ≤ maxLen ∧ x.2.2.size ≤ maxLen ∧ -9223372036854775808 ≤ x.2.1 ∧ x.2.1 ≤ 9223372036854775807

def rightM (x : Tm) : Bool := decide (1 ≤ x.2.1) && decide (x.2.1 ≤ 7) && (decide (x.2.1 < 6) || decide (x.2.2.size = 0))
def namedM (x : Tm) : Bool := fieldB x.1.data.toList
def shortM (x : Tm) : Bool := decide (x.2.2.size ≤ 128)
/-- What May answers. -/
def mayM (p : List Tm) : Int := if 8 < p.length then 5 else if p.all namedM = false then 2 else if p.all rightM = false then 1 else if p.all shortM = false then 5 else 0

/-- The order of terms. -/
def ltM (a b : Tm) : Bool := if a.1 ≠ b.1 then ltB a.1 b.1 else if a.2.1 ≠ b.2.1 then decide (a.2.1 < b.2.1) else ltB a.2.2 b.2.2

theorem ltM_irrefl (a : Tm) : ltM a a = false := by simp [ltM, ltB_irrefl]

theorem ltB_eq_false {a b : ByteArray} (h : ltB a b = true) : a ≠ b := by
  rintro rfl
  rw [ltB_irrefl] at h
  cases h

theorem ltM_cases (a b : Tm) : ltM a b = true ∨ a = b ∨ ltM b a = true := by
  obtain ⟨a1, a2, a3⟩ := a
  obtain ⟨b1, b2, b3⟩ := b
  unfold ltM
  simp only
  by_cases h1 : a1 = b1
  · subst h1
    by_cases h2 : a2 = b2
    · subst h2
      rcases ltB_cases a3 b3 with h | h | h
      · left; simpa using h
      · right; left; rw [h]
      · right; right; simpa using h
    · have h2' : b2 ≠ a2 := fun e => h2 e.symm
      rcases Int.lt_or_gt_of_ne h2 with h | h
      · left; simp [h2, h]
      · right; right; simp [h2', h]
  · have h1' : b1 ≠ a1 := fun e => h1 e.symm
    rcases ltB_cases a1 b1 with h | h | h
    · left; simp [h1, h]
    · exact absurd h h1
    · right; right; simp [h1', h]

theorem ltM_trans {a b c : Tm} (h : ltM a b = true) (k : ltM b c = true) : ltM a c = true := by
  obtain ⟨a1, a2, a3⟩ := a
  obtain ⟨b1, b2, b3⟩ := b
  obtain ⟨c1, c2, c3⟩ := c
  unfold ltM at *
  simp only at *
  by_cases h1 : a1 = b1
  · subst h1
    by_cases k1 : a1 = c1
    · subst k1
      simp only [ne_eq, not_true_eq_false, if_false] at *
      by_cases h2 : a2 = b2
      · subst h2
        by_cases k2 : a2 = c2
        · subst k2
          simp only [not_true_eq_false, if_false] at *
          exact ltB_trans h k
        · simp only [not_true_eq_false, if_false, k2, not_false_eq_true, if_true] at *
          exact k
      · by_cases k2 : b2 = c2
        · subst k2
          simp only [h2, not_false_eq_true, if_true] at *
          exact h
        · simp only [h2, k2, not_false_eq_true, if_true, decide_eq_true_eq] at h k
          have h3 : a2 ≠ c2 := by omega
          simp only [h3, not_false_eq_true, if_true, decide_eq_true_eq]
          omega
    · simp only [ne_eq, k1, not_false_eq_true, if_true] at *
      exact k
  · by_cases k1 : b1 = c1
    · subst k1
      simp only [ne_eq, h1, not_false_eq_true, if_true] at *
      exact h
    · simp only [ne_eq, h1, k1, not_false_eq_true, if_true] at h k
      have h3 : ltB a1 c1 = true := ltB_trans h k
      have h4 : a1 ≠ c1 := ltB_eq_false h3
      simp only [ne_eq, h4, not_false_eq_true, if_true]
      exact h3

theorem ltM_asymm {a b : Tm} (h : ltM a b = true) : ltM b a = false := by
  cases k : ltM b a with
  | false => rfl
  | true =>
    have := ltM_trans h k
    rw [ltM_irrefl] at this
    cases this

theorem ltM_ne {a b : Tm} (h : ltM a b = true) : a ≠ b := by
  rintro rfl
  rw [ltM_irrefl] at h
  cases h

def RisingM (l : List Tm) : Prop := l.Pairwise fun x y => ltM x y = true

/-- Rising lists of the same terms are one. -/
theorem rising_unique : ∀ (a b : List Tm), RisingM a → RisingM b → (∀ x, x ∈ a ↔ x ∈ b) → a = b
  | [], [], _, _, _ => rfl
  | [], y :: b, _, _, h => by have := (h y).2 (by simp); simp at this
  | x :: a, [], _, _, h => by have := (h x).1 (by simp); simp at this
  | x :: a, y :: b, ha, hb, h => by
    have ha' := List.pairwise_cons.1 ha
    have hb' := List.pairwise_cons.1 hb
    have hxy : x = y := by
      rcases List.mem_cons.1 ((h x).1 (by simp)) with e | e
      · exact e
      · rcases List.mem_cons.1 ((h y).2 (by simp)) with e2 | e2
        · exact e2.symm
        · have h1 := hb'.1 x e
          have h2 := ha'.1 y e2
          rw [ltM_asymm h1] at h2
          cases h2
    subst hxy
    congr 1
    refine rising_unique a b ha'.2 hb'.2 fun z => ⟨fun hz => ?_, fun hz => ?_⟩
    · rcases List.mem_cons.1 ((h z).1 (by simp [hz])) with e | e
      · exact absurd e.symm (ltM_ne (ha'.1 z hz))
      · exact e
    · rcases List.mem_cons.1 ((h z).2 (by simp [hz])) with e | e
      · exact absurd e.symm (ltM_ne (hb'.1 z hz))
      · exact e

/-- x put where it belongs, if it isn't there. -/
def insM (x : Tm) : List Tm → List Tm
  | [] => [x]
  | y :: l => if ltM x y then x :: y :: l else if x = y then y :: l else y :: insM x l

/-- The terms, rising, each once. -/
def sortM (p : List Tm) : List Tm := p.foldl (fun acc x => insM x acc) []

theorem mem_insM (x z : Tm) (l : List Tm) : z ∈ insM x l ↔ z = x ∨ z ∈ l := by
  induction l with
  | nil => simp [insM]
  | cons y l ih =>
    unfold insM
    split
    · simp
    · split
      · rename_i h; subst h; simp
      · simp [ih, or_left_comm]

theorem insM_rising (x : Tm) (l : List Tm) (h : RisingM l) : RisingM (insM x l) := by
  induction l with
  | nil => exact List.pairwise_singleton _ _
  | cons y l ih =>
    have h' := List.pairwise_cons.1 h
    unfold insM
    split
    · rename_i hlt
      refine List.pairwise_cons.2 ⟨fun z hz => ?_, h⟩
      rcases List.mem_cons.1 hz with rfl | hz
      · exact hlt
      · exact ltM_trans hlt (h'.1 z hz)
    · rename_i hlt
      split
      · exact h
      · rename_i hne
        refine List.pairwise_cons.2 ⟨fun z hz => ?_, ih h'.2⟩
        rcases (mem_insM x z l).1 hz with rfl | hz
        · rcases ltM_cases z y with h1 | h1 | h1
          · exact absurd h1 hlt
          · exact absurd h1 hne
          · exact h1
        · exact h'.1 z hz

theorem sortM_spec (p : List Tm) : RisingM (sortM p) ∧ ∀ x, x ∈ sortM p ↔ x ∈ p := by
  have : ∀ (l acc : List Tm), RisingM acc → RisingM (l.foldl (fun acc x => insM x acc) acc) ∧ ∀ x, x ∈ l.foldl (fun acc x => insM x acc) acc ↔ x ∈ acc ∨ x ∈ l := by
    intro l
    induction l with
    | nil => intro acc h; exact ⟨h, fun x => by simp⟩
    | cons y l ih =>
      intro acc h
      obtain ⟨h1, h2⟩ := ih (insM y acc) (insM_rising y acc h)
      refine ⟨h1, fun x => ?_⟩
      rw [List.foldl_cons, h2, mem_insM, List.mem_cons]
      constructor
      · rintro ((h | h) | h)
        · exact Or.inr (Or.inl h)
        · exact Or.inl h
        · exact Or.inr (Or.inr h)
      · rintro (h | h | h)
        · exact Or.inl (Or.inr h)
        · exact Or.inl (Or.inl h)
        · exact Or.inr h
  obtain ⟨h1, h2⟩ := this p [] List.Pairwise.nil
  exact ⟨h1, fun x => by rw [sortM, h2]; simp⟩

theorem sortM_unique {p l : List Tm} (h1 : RisingM l) (h2 : ∀ x, x ∈ l ↔ x ∈ p) : l = sortM p :=
  rising_unique _ _ h1 (sortM_spec p).1 fun x => (h2 x).trans ((sortM_spec p).2 x).symm

theorem sortM_len (p : List Tm) : (sortM p).length ≤ p.length := by
  have key : ∀ (x : Tm) (l : List Tm), (insM x l).length ≤ l.length + 1 := by
    intro x l
    induction l with
    | nil => simp [insM]
    | cons y l ih =>
      unfold insM
      split
      · simp
      · split
        · simp
        · simp; omega
  have : ∀ (l acc : List Tm), (l.foldl (fun acc x => insM x acc) acc).length ≤ acc.length + l.length := by
    intro l
    induction l with
    | nil => intro acc; simp
    | cons y l ih =>
      intro acc
      have h1 := ih (insM y acc)
      have h2 := key y acc
      rw [List.foldl_cons, List.length_cons]
      omega
  simpa [sortM] using this p []

theorem mayM_perm {p q : List Tm} (h : ∀ x, x ∈ p ↔ x ∈ q) (hl : p.length ≤ 8) (hm : q.length ≤ 8) : mayM p = mayM q := by
  have key : ∀ f : Tm → Bool, p.all f = q.all f := fun f => by
    rw [Bool.eq_iff_iff, List.all_eq_true, List.all_eq_true]
    exact ⟨fun H x hx => H x ((h x).2 hx), fun H x hx => H x ((h x).1 hx)⟩
  unfold mayM
  rw [if_neg (show ¬ 8 < p.length by omega), key namedM, key rightM, key shortM, if_neg (show ¬ 8 < q.length by omega)]

/-- What Norm answers. -/
def ansM (p : List Tm) : List Tm := if mayM p = 0 then sortM p else []

theorem mayM_zero {p : List Tm} (h : mayM p = 0) : p.length ≤ 8 ∧ p.all namedM = true ∧ p.all rightM = true ∧ p.all shortM = true := by
  unfold mayM at h
  split at h
  · omega
  · rename_i h1
    split at h
    · omega
    · rename_i h2
      split at h
      · omega
      · rename_i h3
        split at h
        · omega
        · rename_i h4
          exact ⟨by omega, by simpa using h2, by simpa using h3, by simpa using h4⟩

end Go.Proofs.YtinmagodckkedaaGreat

/-
  The contracts of the reference's less, May and Same of terms.
-/
namespace Go.Proofs.YtinmagodckkedaaGreat
open Go.RowKit

theorem all_snoc {p : List Tm} {f : Tm → Bool} {i : Nat} (h : i < p.length) : (p.take (i + 1)).all f = ((p.take i).all f && f p[i]) := by
  rw [List.take_succ_eq_append_getElem h, List.all_append]
  simp

end Go.Proofs.YtinmagodckkedaaGreat

/-
  The contracts of the reference's Same and Norm of terms.
-/
namespace Go.Proofs.YtinmagodckkedaaGreat
open Go.RowKit

/-- May x stand behind the first k of G? -/
def eligB (G : List Tm) (k : Nat) (x : Tm) : Bool := decide (k = 0) || ltM (G.getD (k - 1) default) x

/-- What the scan has found among the first i: where it stands, or -1. -/
def ScanM (G p : List Tm) (k i : Nat) (at_ : Int) : Prop :=
  (at_ = -1 ∧ ∀ j, (h : j < p.length) → j < i → eligB G k p[j] = false) ∨
  (∃ m : Nat, at_ = m ∧ m < i ∧ ∃ hm : m < p.length, eligB G k p[m] = true ∧ ∀ j, (h : j < p.length) → j < i → eligB G k p[j] = true → ltM p[j] p[m] = false)

theorem RisingM.get {o : List Tm} (h : RisingM o) {i j : Nat} (hij : i < j) (hj : j < o.length) : ltM (o[i]'(by omega)) (o[j]) = true :=
  List.pairwise_iff_getElem.1 h i j (by omega) hj hij

theorem elig_ge {G : List Tm} (h : RisingM G) {k m : Nat} (hk : k ≤ G.length) (hm : m < G.length) : eligB G k G[m] = true ↔ k ≤ m := by
  unfold eligB
  constructor
  · intro he
    rw [Bool.or_eq_true] at he
    rcases he with he | he
    · have := of_decide_eq_true he; omega
    · refine Nat.le_of_not_lt fun hlt => ?_
      rw [List.getD_eq_getElem?_getD, List.getElem?_eq_getElem (show k - 1 < G.length by omega)] at he
      by_cases e : m = k - 1
      · subst e
        rw [Option.getD_some, ltM_irrefl] at he
        cases he
      · have := h.get (show m < k - 1 by omega) (by omega)
        rw [Option.getD_some] at he
        rw [ltM_asymm this] at he
        cases he
  · intro hkm
    by_cases h0 : k = 0
    · rw [decide_eq_true h0]; rfl
    · rw [Bool.or_eq_true]
      right
      rw [List.getD_eq_getElem?_getD, List.getElem?_eq_getElem (show k - 1 < G.length by omega), Option.getD_some]
      exact h.get (by omega) hm

theorem scan_end {G p : List Tm} (h1 : RisingM G) (h2 : ∀ x, x ∈ G ↔ x ∈ p) {k : Nat} (hk : k ≤ G.length) {at_ : Int} (hs : ScanM G p k p.length at_) :
    (at_ = -1 ∧ k = G.length) ∨ (∃ m : Nat, at_ = m ∧ ∃ hm : m < p.length, ∃ hg : k < G.length, p[m] = G[k]) := by
  rcases hs with ⟨e, hn⟩ | ⟨m, e, _, hm, he, hl⟩
  · left
    refine ⟨e, ?_⟩
    by_cases hkl : k = G.length
    · exact hkl
    · exfalso
      have hlt : k < G.length := by omega
      obtain ⟨j, hj, ej⟩ := List.mem_iff_getElem.1 ((h2 G[k]).1 (List.getElem_mem hlt))
      have := hn j hj hj
      rw [ej, (elig_ge h1 hk hlt).2 (Nat.le_refl _)] at this
      cases this
  · right
    obtain ⟨a, ha, ea⟩ := List.mem_iff_getElem.1 ((h2 p[m]).2 (List.getElem_mem hm))
    have hka : k ≤ a := by
      rw [← ea] at he
      exact (elig_ge h1 hk ha).1 he
    refine ⟨m, e, hm, by omega, ?_⟩
    by_cases hlt : k < a
    · exfalso
      obtain ⟨j, hj, ej⟩ := List.mem_iff_getElem.1 ((h2 G[k]).1 (List.getElem_mem (by omega)))
      have := hl j hj hj (by rw [ej]; exact (elig_ge h1 hk (by omega)).2 (Nat.le_refl _))
      rw [ej, ← ea, h1.get hlt ha] at this
      cases this
    · obtain rfl : a = k := by omega
      exact ea.symm

theorem scan_zero (G p : List Tm) (k : Nat) : ScanM G p k 0 (-1) := Or.inl ⟨rfl, fun j _ h => by omega⟩

theorem scan_skip {G p : List Tm} {k i : Nat} {a : Int} (h : ScanM G p k i a) (hi : i < p.length) (he : eligB G k p[i] = false) : ScanM G p k (i + 1) a := by
  rcases h with ⟨e, hn⟩ | ⟨m, e, hm1, hm, hme, hl⟩
  · refine Or.inl ⟨e, fun j hj hji => ?_⟩
    by_cases ej : j = i
    · subst ej; exact he
    · exact hn j hj (by omega)
  · refine Or.inr ⟨m, e, by omega, hm, hme, fun j hj hji hje => ?_⟩
    by_cases ej : j = i
    · subst ej; rw [he] at hje; cases hje
    · exact hl j hj (by omega) hje

theorem scan_first {G p : List Tm} {k i : Nat} (h : ScanM G p k i (-1)) (hi : i < p.length) (he : eligB G k p[i] = true) : ScanM G p k (i + 1) (i : Int) := by
  rcases h with ⟨_, hn⟩ | ⟨m, e, _⟩
  · refine Or.inr ⟨i, rfl, by omega, hi, he, fun j hj hji hje => ?_⟩
    by_cases ej : j = i
    · subst ej; exact ltM_irrefl _
    · rw [hn j hj (by omega)] at hje; cases hje
  · omega

theorem scan_less {G p : List Tm} {k i m : Nat} (h : ScanM G p k i (m : Int)) (hi : i < p.length) (hm : m < p.length) (he : eligB G k p[i] = true) (hl : ltM p[i] p[m] = true) : ScanM G p k (i + 1) (i : Int) := by
  rcases h with ⟨e, _⟩ | ⟨m', e, _, _, _, hll⟩
  · omega
  · obtain rfl : m = m' := by omega
    refine Or.inr ⟨i, rfl, by omega, hi, he, fun j hj hji hje => ?_⟩
    by_cases ej : j = i
    · subst ej; exact ltM_irrefl _
    · have := hll j hj (by omega) hje
      cases hc : ltM p[j] p[i] with
      | false => rfl
      | true => rw [ltM_trans hc hl] at this; cases this

theorem scan_keep {G p : List Tm} {k i m : Nat} (h : ScanM G p k i (m : Int)) (hi : i < p.length) (hm : m < p.length) (hl : ltM p[i] p[m] = false) : ScanM G p k (i + 1) (m : Int) := by
  rcases h with ⟨e, _⟩ | ⟨m', e, h1, h2, h3, hll⟩
  · omega
  · obtain rfl : m = m' := by omega
    refine Or.inr ⟨m, rfl, by omega, h2, h3, fun j hj hji hje => ?_⟩
    by_cases ej : j = i
    · subst ej; exact hl
    · exact hll j hj (by omega) hje

theorem scan_is {G p : List Tm} {k i : Nat} {a : Int} (h : ScanM G p k i a) : a = -1 ∨ ∃ m : Nat, a = m ∧ m < p.length := by
  rcases h with ⟨e, _⟩ | ⟨m, e, _, hm, _⟩
  · exact Or.inl e
  · exact Or.inr ⟨m, e, hm⟩

end Go.Proofs.YtinmagodckkedaaGreat

/-
  The contract of the reference's Norm of terms.
-/
namespace Go.Proofs.YtinmagodckkedaaGreat
open Go.RowKit

end Go.Proofs.YtinmagodckkedaaGreat

/-
  Rows of terms: one written over, cut short, sorted; the order as compare has it; what is left of a sorted row without its doubles.
-/
namespace Go.Proofs.YtinmagodckkedaaGreat
open Go.RowKit Go.Sort Go.Lib

theorem Kind.cells_set {α : Type} (K : Kind α) (d : List α) (i : Nat) (h : i < d.length) (x : α) (j : Nat) : (K.cells (d.set i x))[j]? = if i * K.k ≤ j ∧ j < i * K.k + K.k then (K.enc x)[j - i * K.k]? else (K.cells d)[j]? := by
  by_cases hj : j < d.length * K.k
  · have hkp := K.pos
    have hq : j / K.k < d.length := (Nat.div_lt_iff_lt_mul hkp).2 hj
    have hm : j % K.k < K.k := Nat.mod_lt _ hkp
    have e : j / K.k * K.k + j % K.k = j := by rw [Nat.mul_comm]; exact Nat.div_add_mod j K.k
    have h1 := K.cells_get (d.set i x) (j / K.k) (by simpa using hq) (j % K.k) hm
    have h2 := K.cells_get d (j / K.k) hq (j % K.k) hm
    rw [e] at h1 h2
    rw [h1, h2, List.getElem_set]
    by_cases hi : i = j / K.k
    · rw [if_pos hi, if_pos (by rw [hi]; omega), hi]
      congr 1
      omega
    · rw [if_neg hi, if_neg]
      intro hh
      exact hi ((blk_iff K.k i j hkp).1 hh).symm
  · have h3 : (i + 1) * K.k ≤ d.length * K.k := Nat.mul_le_mul_right _ h
    rw [Nat.add_mul, Nat.one_mul] at h3
    rw [if_neg (by omega), List.getElem?_eq_none (by rw [K.cells_len, List.length_set]; omega), List.getElem?_eq_none (by rw [K.cells_len]; omega)]

theorem grown_sets {g : Nat} (vs : List Value) : ∀ (w w0 : World) (o : Nat), w0.grownBy w (some g) → w0.grownBy (w.setCells g o vs) (some g) := by
  induction vs with
  | nil => intro w w0 o h; exact h
  | cons v vs ih => intro w w0 o h; rw [World.setCells]; exact ih _ _ _ (grown_trans h (grown_set w g o v))

theorem below_sortM {B : Nat} {w0 w : World} (h : Below B w0 w) (hB : B ≤ w.heap.size) (blk off n : Nat) (d : Array Tm) (os : Array Obj) (hb : B ≤ blk) : Below B w0 (sortWorldK encM 3 w blk off n d os) := by
  refine h.trans ⟨rfl, rfl, rfl, ?_, ?_⟩
  · simp [sortWorldK, putRowK]
  · intro k hk
    have hks : k < w.heap.size := by omega
    simp only [sortWorldK, Sort.grow, putRowK, putRow, mapBlock, Sort.ahead]
    rw [Array.getElem?_append_left (by simpa using hks), Array.getElem?_modify, if_neg (by omega)]

/-- What compare answers. -/
def cmpM (x y : Tm) : Int := pairI (Lib.compareBytes x.1.data.toList y.1.data.toList) (pairI (Lib.compareInt x.2.1 y.2.1) (Lib.compareBytes x.2.2.data.toList y.2.2.data.toList))

theorem pairI_zero (y : Int) : pairI 0 y = y := rfl
theorem pairI_ne {x : Int} (h : x ≠ 0) (y : Int) : pairI x y = x := by unfold pairI; rw [if_neg h]

theorem cmpM_lt (x y : Tm) : ltOf cmpM x y = ltM x y := by
  obtain ⟨a1, a2, a3⟩ := x
  obtain ⟨b1, b2, b3⟩ := y
  show decide (pairI (Lib.compareBytes a1.data.toList b1.data.toList) (pairI (Lib.compareInt a2 b2) (Lib.compareBytes a3.data.toList b3.data.toList)) < 0) = if a1 ≠ b1 then ltB a1 b1 else if a2 ≠ b2 then decide (a2 < b2) else ltB a3 b3
  by_cases h1 : a1 = b1
  · subst h1
    rw [if_neg (show ¬ (a1 ≠ a1) by simp), cb_self, pairI_zero]
    by_cases h2 : a2 = b2
    · subst h2
      have hc : Lib.compareInt a2 a2 = 0 := by unfold Lib.compareInt; simp
      rw [if_neg (show ¬ (a2 ≠ a2) by simp), hc, pairI_zero]
      rfl
    · rw [if_pos h2]
      rcases Int.lt_or_gt_of_ne h2 with h | h
      · have hc : Lib.compareInt a2 b2 = -1 := by unfold Lib.compareInt; simp [h]
        rw [hc, pairI_ne (by decide)]
        simp [h]
      · have hn : ¬ a2 < b2 := by omega
        have hc : Lib.compareInt a2 b2 = 1 := by unfold Lib.compareInt; simp [hn, h]
        rw [hc, pairI_ne (by decide)]
        simp [hn]
  · have hc : Lib.compareBytes a1.data.toList b1.data.toList ≠ 0 := fun e => h1 (ba_eq ((cb_zero _ _).1 e))
    rw [if_pos h1, pairI_ne hc]
    rfl

theorem swoM : SWO (ltOf cmpM) where
  irrefl x := by rw [cmpM_lt]; exact ltM_irrefl x
  trans x y z h1 h2 := by rw [cmpM_lt] at *; exact ltM_trans h1 h2
  ntrans x y z h1 h2 := by
    rw [cmpM_lt] at *
    cases h : ltM x z with
    | false => rfl
    | true =>
      rcases ltM_cases x y with h3 | h3 | h3
      · rw [h1] at h3; cases h3
      · rw [h3, h2] at h; cases h
      · rw [ltM_trans h3 h] at h2; cases h2

/-- A sorted row without its doubles is rising. -/
theorem compact_sorted {d : Array Tm} (hs : SortedIn (ltOf cmpM) 0 d.size d) : RisingM (compactUpTo d d.size) ∧ ∀ x, x ∈ compactUpTo d d.size ↔ x ∈ d.toList := by
  have hle : ∀ i j, i ≤ j → j < d.size → ltM d[j]! d[i]! = false := by
    intro i j hij hj
    rcases Nat.lt_or_ge i j with h | h
    · have := hs i j (Nat.zero_le _) h hj
      rwa [cmpM_lt] at this
    · obtain rfl : i = j := by omega
      exact ltM_irrefl _
  have key : ∀ m, m ≤ d.size → RisingM (compactUpTo d m) ∧ ∀ x, x ∈ compactUpTo d m ↔ ∃ j, j < m ∧ d[j]! = x := by
    intro m
    induction m with
    | zero => intro _; exact ⟨List.Pairwise.nil, fun x => by simp [compactUpTo]⟩
    | succ m ih =>
      intro hm
      obtain ⟨h1, h2⟩ := ih (by omega)
      rw [compactUpTo_succ]
      cases hk : keeps d m with
      | true =>
        rw [if_pos rfl]
        constructor
        · refine List.pairwise_append.2 ⟨h1, List.pairwise_singleton _ _, fun x hx y hy => ?_⟩
          rw [List.mem_singleton] at hy
          subst hy
          obtain ⟨j, hj, rfl⟩ := (h2 x).1 hx
          have hne : d[m]! ≠ d[m - 1]! := by
            unfold keeps at hk
            rcases of_decide_eq_true hk with h | h
            · omega
            · exact h
          have ha := hle j (m - 1) (by omega) (by omega)
          have hb := hle (m - 1) m (by omega) (by omega)
          rcases ltM_cases d[j]! d[m]! with h | h | h
          · exact h
          · rw [h] at ha
            rcases ltM_cases d[m - 1]! d[m]! with h' | h' | h'
            · rw [ha] at h'; cases h'
            · exact absurd h'.symm hne
            · rw [hb] at h'; cases h'
          · rw [hle j m (by omega) (by omega)] at h; cases h
        · intro x
          rw [List.mem_append, List.mem_singleton, h2]
          constructor
          · rintro (⟨j, hj, e⟩ | e)
            · exact ⟨j, by omega, e⟩
            · exact ⟨m, by omega, e.symm⟩
          · rintro ⟨j, hj, e⟩
            by_cases hjm : j = m
            · subst hjm; exact Or.inr e.symm
            · exact Or.inl ⟨j, by omega, e⟩
      | false =>
        rw [if_neg (by simp), List.append_nil]
        refine ⟨h1, fun x => ?_⟩
        rw [h2]
        constructor
        · rintro ⟨j, hj, e⟩
          exact ⟨j, by omega, e⟩
        · rintro ⟨j, hj, e⟩
          by_cases hjm : j = m
          · subst hjm
            have hh : ¬ (j = 0 ∨ d[j]! ≠ d[j - 1]!) := by unfold keeps at hk; exact of_decide_eq_false hk
            have h0 : j ≠ 0 := fun e => hh (Or.inl e)
            have h3 : d[j]! = d[j - 1]! := Classical.byContradiction fun e => hh (Or.inr e)
            exact ⟨j - 1, by omega, by rw [← h3]; exact e⟩
          · exact ⟨j, by omega, e⟩
  obtain ⟨h1, h2⟩ := key d.size (Nat.le_refl _)
  refine ⟨h1, fun x => (h2 x).trans ?_⟩
  rw [List.mem_iff_getElem]
  constructor
  · rintro ⟨j, hj, e⟩
    exact ⟨j, by simpa using hj, by rw [← e, getElem!_pos d j hj]; simp⟩
  · rintro ⟨j, hj, e⟩
    have hj' : j < d.size := by simpa using hj
    exact ⟨j, hj', by rw [getElem!_pos d j hj', ← e]; simp⟩

end Go.Proofs.YtinmagodckkedaaGreat

/-
  An element written over in a row of its own, for elements of one cell and of two.
-/
namespace Go.Proofs.YtinmagodckkedaaGreat
open Go.RowKit Go.Lib

theorem Kind.set2 {α : Type} {K : Kind α} (hk : K.k = 2) (d : List α) (i : Nat) (h : i < d.length) (x : α) (a b : Value) (he : K.enc x = [a, b]) : K.cells (d.set i x) = ((K.cells d).set (i * 2) a).set (i * 2 + 1) b := by
  apply List.ext_getElem?
  intro j
  rw [K.cells_set d i h x j]
  have hl : (K.cells d).length = d.length * 2 := by rw [K.cells_len, hk]
  rw [hk, he]
  simp only [List.getElem?_set, List.length_set, hl]
  by_cases h0 : j = i * 2
  · subst h0
    simp
    omega
  · by_cases h1 : j = i * 2 + 1
    · subst h1
      simp
      omega
    · rw [if_neg (by omega), if_neg (fun e => h1 e.symm), if_neg (fun e => h0 e.symm)]

theorem Kind.set1 {α : Type} {K : Kind α} (hk : K.k = 1) (d : List α) (i : Nat) (h : i < d.length) (x : α) (a : Value) (he : K.enc x = [a]) : K.cells (d.set i x) = (K.cells d).set i a := by
  apply List.ext_getElem?
  intro j
  rw [K.cells_set d i h x j]
  have hl : (K.cells d).length = d.length := by rw [K.cells_len, hk, Nat.mul_one]
  rw [hk, he]
  simp only [List.getElem?_set, hl, Nat.mul_one]
  by_cases h0 : j = i
  · subst h0
    simp
    omega
  · rw [if_neg (by omega), if_neg (fun e => h0 e.symm)]

/-- An element of two cells written over. -/
theorem Kind.own_put2 {α : Type} {K : Kind α} (hk : K.k = 2) {n0 g n cap : Nat} {w : World} {d : List α} (h : K.Own n0 w (.slice (some ⟨g, 0, none⟩) n cap) d) (hn : d.length = n) (i : Nat) (hi : i < d.length) (x : α) (a b : Value) (he : K.enc x = [a, b]) :
    K.Own n0 ((w.setCell ⟨g, i * 2, none⟩ a).setCell ⟨g, i * 2 + 1, none⟩ b) (.slice (some ⟨g, 0, none⟩) n cap) (d.set i x) := by
  subst hn
  have h1 := World.ownsRow.stored h (i * 2) a
  have h2 := World.ownsRow.stored h1.1 (i * 2 + 1) b
  unfold Kind.Own
  rw [Kind.set2 hk d i hi x a b he, List.length_set]
  exact h2.1

/-- An element of one cell written over. -/
theorem Kind.own_put1 {α : Type} {K : Kind α} (hk : K.k = 1) {n0 g n cap : Nat} {w : World} {d : List α} (h : K.Own n0 w (.slice (some ⟨g, 0, none⟩) n cap) d) (hn : d.length = n) (i : Nat) (hi : i < d.length) (x : α) (a : Value) (he : K.enc x = [a]) :
    K.Own n0 (w.setCell ⟨g, i, none⟩ a) (.slice (some ⟨g, 0, none⟩) n cap) (d.set i x) := by
  subst hn
  have h1 := World.ownsRow.stored h i a
  unfold Kind.Own
  rw [Kind.set1 hk d i hi x a he, List.length_set]
  exact h1.1

/-- A row that is not empty lies in a block of its own, whose cells may be written. -/
theorem Kind.own_form {α : Type} {K : Kind α} {n0 n c : Nat} {w : World} {q : Option Addr} {d : List α} (h : K.Own n0 w (.slice q n c) d) (h0 : 0 < d.length) : ∃ g, q = some ⟨g, 0, none⟩ ∧ n0 ≤ g ∧ d.length = n ∧ K.At w g 0 d ∧ ∀ j, w.frozen? ⟨g, j, none⟩ = false := by
  rcases h.2 with ⟨_, h1⟩ | ⟨g, cap, cur, hv, hb, hg, _⟩
  · omega
  · injection hv with h1 h2 h3
    subst h1
    obtain ⟨p, c', he, hd⟩ := Kind.own_is h
    injection he with e1 e2 e3
    rcases hd with hd | ⟨b, off, hp, hat⟩
    · rw [hd] at h0; simp at h0
    · rw [← e1] at hp
      injection hp with hp
      injection hp with hp1 hp2
      subst hp1 hp2
      exact ⟨g, rfl, hb, h2.symm, hat, fun j => Lib.frozen_of_heap hg _⟩

/-- One more in its place, by shifting: what a list is between two rounds of the shift. -/
theorem shift_step {α : Type} (l : List α) (y : α) (p i : Nat) (hp : p < i) (hi : i ≤ l.length) :
    (l.take i ++ y :: l.drop i).set i (l[i - 1]'(by omega)) = l.take (i - 1) ++ (l[i - 1]'(by omega)) :: l.drop (i - 1) := by
  obtain ⟨k, rfl⟩ : ∃ k, i = k + 1 := ⟨i - 1, by omega⟩
  have hk : k < l.length := by omega
  apply List.ext_getElem?
  intro j
  have h1 : (l.take (k + 1)).length = k + 1 := by rw [List.length_take]; omega
  have h2 : (l.take k).length = k := by rw [List.length_take]; omega
  simp only [Nat.add_sub_cancel]
  rw [List.getElem?_set]
  by_cases hj : k + 1 = j
  · subst hj
    rw [if_pos rfl, if_pos (by rw [List.length_append, h1]; simp), List.getElem?_append_right (by omega), h2]
    simp [List.getElem?_drop, hk]
  · rw [if_neg hj]
    by_cases hlt : j < k
    · rw [List.getElem?_append_left (by omega), List.getElem?_append_left (by omega), List.getElem?_take, List.getElem?_take, if_pos (by omega), if_pos hlt]
    · by_cases he : j = k
      · subst he
        rw [List.getElem?_append_left (by omega), List.getElem?_append_right (by omega), h2, List.getElem?_take, if_pos (by omega)]
        simp [hk]
      · have hgt : k + 1 < j := by omega
        obtain ⟨m, rfl⟩ : ∃ m, j = k + 2 + m := ⟨j - (k + 2), by omega⟩
        rw [List.getElem?_append_right (by omega), List.getElem?_append_right (by omega), h1, h2, show k + 2 + m - (k + 1) = m + 1 by omega, show k + 2 + m - k = m + 1 + 1 by omega, List.getElem?_cons_succ, List.getElem?_cons_succ, List.getElem?_drop, List.getElem?_drop]
        congr 1
        omega

end Go.Proofs.YtinmagodckkedaaGreat

/-
  Rising lists (stage 5): one more in its place; the keys and the temporary names of a value.
-/
namespace Go.Proofs.YtinmagodckkedaaGreat
open Go.RowKit Go.Lib

structure Tot {α : Type} (lt : α → α → Bool) : Prop where
  irr : ∀ a, lt a a = false
  tr : ∀ a b c, lt a b = true → lt b c = true → lt a c = true
  tot : ∀ a b, lt a b = true ∨ a = b ∨ lt b a = true

def RisingR {α : Type} (lt : α → α → Bool) (l : List α) : Prop := l.Pairwise fun x y => lt x y = true

def insR {α : Type} [DecidableEq α] (lt : α → α → Bool) (x : α) : List α → List α
  | [] => [x]
  | y :: r => if lt x y then x :: y :: r else if x = y then y :: r else y :: insR lt x r

theorem mem_insR {α : Type} [DecidableEq α] (lt : α → α → Bool) (x z : α) (l : List α) : z ∈ insR lt x l ↔ z = x ∨ z ∈ l := by
  induction l with
  | nil => simp [insR]
  | cons y r ih =>
    unfold insR
    split
    · simp
    · split
      · next h => subst h; simp
      · rw [List.mem_cons, ih, List.mem_cons]
        constructor
        · rintro (h | h | h)
          · exact Or.inr (Or.inl h)
          · exact Or.inl h
          · exact Or.inr (Or.inr h)
        · rintro (h | h | h)
          · exact Or.inr (Or.inl h)
          · exact Or.inl h
          · exact Or.inr (Or.inr h)

theorem rising_insR {α : Type} [DecidableEq α] {lt : α → α → Bool} (T : Tot lt) (x : α) {l : List α} (h : RisingR lt l) : RisingR lt (insR lt x l) := by
  induction l with
  | nil => exact List.pairwise_cons.2 ⟨fun _ h => by simp at h, List.Pairwise.nil⟩
  | cons y r ih =>
    obtain ⟨h1, h2⟩ := List.pairwise_cons.1 h
    unfold insR
    split
    · next hx =>
      refine List.pairwise_cons.2 ⟨fun z hz => ?_, h⟩
      rcases List.mem_cons.1 hz with rfl | hz
      · exact hx
      · exact T.tr _ _ _ hx (h1 z hz)
    · next hx =>
      split
      · exact h
      · next hne =>
        refine List.pairwise_cons.2 ⟨fun z hz => ?_, ih h2⟩
        rcases (mem_insR lt x z r).1 hz with rfl | hz
        · rcases T.tot y z with h | h | h
          · exact h
          · exact absurd h.symm hne
          · exact absurd h hx
        · exact h1 z hz

theorem rising_uniqR {α : Type} {lt : α → α → Bool} (T : Tot lt) : ∀ {r s : List α}, RisingR lt r → RisingR lt s → (∀ x, x ∈ r ↔ x ∈ s) → r = s
  | [], [], _, _, _ => rfl
  | [], y :: s, _, _, h => by have := (h y).2 (by simp); simp at this
  | x :: r, [], _, _, h => by have := (h x).1 (by simp); simp at this
  | x :: r, y :: s, hr, hs, h => by
    obtain ⟨r1, r2⟩ := List.pairwise_cons.1 hr
    obtain ⟨s1, s2⟩ := List.pairwise_cons.1 hs
    have hxy : x = y := by
      rcases List.mem_cons.1 ((h x).1 (by simp)) with e | hx
      · exact e
      · rcases List.mem_cons.1 ((h y).2 (by simp)) with e | hy
        · exact e.symm
        · have h1 := T.tr _ _ _ (r1 y hy) (s1 x hx)
          rw [T.irr] at h1
          cases h1
    subst hxy
    rw [rising_uniqR T r2 s2 fun z => ?_]
    constructor
    · intro hz
      rcases List.mem_cons.1 ((h z).1 (List.mem_cons_of_mem _ hz)) with e | hz'
      · subst e; have := r1 z hz; rw [T.irr] at this; cases this
      · exact hz'
    · intro hz
      rcases List.mem_cons.1 ((h z).2 (List.mem_cons_of_mem _ hz)) with e | hz'
      · subst e; have := s1 z hz; rw [T.irr] at this; cases this
      · exact hz'

/-- One more, where the search has found its place. -/
theorem insR_at {α : Type} [DecidableEq α] {lt : α → α → Bool} (T : Tot lt) (x : α) : ∀ (l : List α) (p : Nat), p ≤ l.length → (∀ i, (h : i < p) → (h' : i < l.length) → lt l[i] x = true) → (∀ h : p < l.length, lt x l[p] = true) → insR lt x l = l.take p ++ x :: l.drop p
  | [], 0, _, _, _ => rfl
  | [], p + 1, h, _, _ => absurd h (by simp)
  | y :: r, 0, _, _, h2 => by
    have := h2 (by simp)
    simp only [List.getElem_cons_zero] at this
    unfold insR
    rw [if_pos this]
    rfl
  | y :: r, p + 1, h, h1, h2 => by
    have hy := h1 0 (by omega) (by simp)
    simp only [List.getElem_cons_zero] at hy
    have hxy : lt x y = false := by
      cases e : lt x y with
      | false => rfl
      | true => have := T.tr _ _ _ hy e; rw [T.irr] at this; cases this
    have hne : x ≠ y := fun e => by subst e; rw [T.irr] at hy; cases hy
    unfold insR
    rw [if_neg (by rw [hxy]; simp), if_neg hne, insR_at T x r p (by simpa using h) (fun i hi hi' => ?_) (fun hp => ?_)]
    · rfl
    · have := h1 (i + 1) (by omega) (by simpa using hi')
      simpa using this
    · have := h2 (by simpa using hp)
      simpa using this

/-- One that is there already. -/
theorem insR_there {α : Type} [DecidableEq α] {lt : α → α → Bool} (T : Tot lt) {x : α} {l : List α} (h : RisingR lt l) (hx : x ∈ l) : insR lt x l = l :=
  rising_uniqR T (rising_insR T x h) h fun z => by
    rw [mem_insR]
    exact ⟨fun hz => by rcases hz with rfl | hz <;> assumption, Or.inr⟩

/-- What a search by halves finds out at the place m. -/
theorem rising_low {α : Type} {lt : α → α → Bool} (T : Tot lt) {l : List α} (h : RisingR lt l) {x : α} {m : Nat} (hm : m < l.length) (hx : lt l[m] x = true) : ∀ i, (hi : i ≤ m) → lt (l[i]'(by omega)) x = true := by
  intro i hi
  rcases Nat.lt_or_eq_of_le hi with hlt | rfl
  · exact T.tr _ _ _ (List.pairwise_iff_getElem.1 h i m (by omega) hm hlt) hx
  · exact hx

theorem rising_high {α : Type} {lt : α → α → Bool} (T : Tot lt) {l : List α} (h : RisingR lt l) {x : α} {m : Nat} (hm : m < l.length) (hx : lt l[m] x = false) : ∀ i, (hi : m ≤ i) → (h' : i < l.length) → lt l[i] x = false := by
  intro i hi h'
  rcases Nat.lt_or_eq_of_le hi with hlt | rfl
  · cases e : lt l[i] x with
    | false => rfl
    | true =>
      have := T.tr _ _ _ (List.pairwise_iff_getElem.1 h m i hm h' hlt) e
      rw [hx] at this
      cases this
  · exact hx

/-- The place that a search by halves ends at: what is there already, or where it goes. -/
theorem put_there {α : Type} [DecidableEq α] {lt : α → α → Bool} (T : Tot lt) {l : List α} (h : RisingR lt l) {x : α} {p : Nat} (hp : p < l.length) (he : l[p] = x) : insR lt x l = l :=
  insR_there T h (by rw [← he]; exact List.getElem_mem hp)

theorem put_new {α : Type} [DecidableEq α] {lt : α → α → Bool} (T : Tot lt) {l : List α} {x : α} {p : Nat} (hp : p ≤ l.length) (h1 : ∀ i, (h : i < p) → (h' : i < l.length) → lt l[i] x = true) (h2 : ∀ h : p < l.length, lt l[p] x = false) (hne : ∀ h : p < l.length, l[p] ≠ x) :
    insR lt x l = l.take p ++ x :: l.drop p :=
  insR_at T x l p hp h1 fun h => by
    rcases T.tot x l[p] with e | e | e
    · exact e
    · exact absurd e.symm (hne h)
    · rw [h2 h] at e; cases e

theorem totB : Tot ltB := ⟨ltB_irrefl, fun _ _ _ => ltB_trans, ltB_cases⟩

def ltKy (a b : Ky) : Bool := ltB a.1 b.1 || (decide (a.1 = b.1) && ltB a.2 b.2)

theorem ltKy_true {a b : Ky} : ltKy a b = true ↔ ltB a.1 b.1 = true ∨ a.1 = b.1 ∧ ltB a.2 b.2 = true := by simp [ltKy]

theorem totK : Tot ltKy where
  irr a := by
    cases h : ltKy a a with
    | false => rfl
    | true =>
      rcases ltKy_true.1 h with h | ⟨_, h⟩
      · rw [ltB_irrefl] at h; cases h
      · rw [ltB_irrefl] at h; cases h
  tr a b c h k := by
    rw [ltKy_true] at *
    rcases h with h | ⟨h, h'⟩ <;> rcases k with k | ⟨k, k'⟩
    · exact Or.inl (ltB_trans h k)
    · exact Or.inl (by rw [← k]; exact h)
    · exact Or.inl (by rw [h]; exact k)
    · exact Or.inr ⟨h.trans k, ltB_trans h' k'⟩
  tot a b := by
    rw [ltKy_true, ltKy_true]
    rcases ltB_cases a.1 b.1 with h | h | h
    · exact Or.inl (Or.inl h)
    · rcases ltB_cases a.2 b.2 with k | k | k
      · exact Or.inl (Or.inr ⟨h, k⟩)
      · exact Or.inr (Or.inl (Prod.ext h k))
      · exact Or.inr (Or.inr (Or.inr ⟨h.symm, k⟩))
    · exact Or.inr (Or.inr (Or.inl h))

/-- All that is told by the texts, in order. -/
def toldBy {α : Type} [DecidableEq α] (lt : α → α → Bool) (g : ByteArray → Option α) (ts : List ByteArray) : List α :=
  ts.foldl (fun acc t => match g t with
    | some x => insR lt x acc
    | none => acc) []

theorem told_go {α : Type} [DecidableEq α] {lt : α → α → Bool} (T : Tot lt) (g : ByteArray → Option α) (ts : List ByteArray) : ∀ acc : List α, RisingR lt acc →
    RisingR lt (ts.foldl (fun acc t => match g t with | some x => insR lt x acc | none => acc) acc) ∧ ∀ z, z ∈ ts.foldl (fun acc t => match g t with | some x => insR lt x acc | none => acc) acc ↔ z ∈ acc ∨ ∃ t ∈ ts, g t = some z := by
  induction ts with
  | nil => intro acc h; exact ⟨h, fun z => by simp⟩
  | cons t r ih =>
    intro acc h
    simp only [List.foldl_cons]
    cases hg : g t with
    | none =>
      obtain ⟨h1, h2⟩ := ih acc h
      refine ⟨h1, fun z => ?_⟩
      rw [h2 z]
      constructor
      · rintro (h | ⟨u, hu, e⟩)
        · exact Or.inl h
        · exact Or.inr ⟨u, List.mem_cons_of_mem _ hu, e⟩
      · rintro (h | ⟨u, hu, e⟩)
        · exact Or.inl h
        · rcases List.mem_cons.1 hu with rfl | hu
          · rw [hg] at e; cases e
          · exact Or.inr ⟨u, hu, e⟩
    | some x =>
      obtain ⟨h1, h2⟩ := ih (insR lt x acc) (rising_insR T x h)
      refine ⟨h1, fun z => ?_⟩
      rw [h2 z, mem_insR]
      constructor
      · rintro ((rfl | h) | ⟨u, hu, e⟩)
        · exact Or.inr ⟨t, by simp, hg⟩
        · exact Or.inl h
        · exact Or.inr ⟨u, List.mem_cons_of_mem _ hu, e⟩
      · rintro (h | ⟨u, hu, e⟩)
        · exact Or.inl (Or.inr h)
        · rcases List.mem_cons.1 hu with rfl | hu
          · rw [hg] at e; exact Or.inl (Or.inl (Option.some.inj e).symm)
          · exact Or.inr ⟨u, hu, e⟩

theorem told_rising {α : Type} [DecidableEq α] {lt : α → α → Bool} (T : Tot lt) (g : ByteArray → Option α) (ts : List ByteArray) : RisingR lt (toldBy lt g ts) := (told_go T g ts [] List.Pairwise.nil).1
theorem told_mem {α : Type} [DecidableEq α] {lt : α → α → Bool} (T : Tot lt) (g : ByteArray → Option α) (ts : List ByteArray) (z : α) : z ∈ toldBy lt g ts ↔ ∃ t ∈ ts, g t = some z := by
  have := (told_go T g ts [] List.Pairwise.nil).2 z
  simpa [toldBy] using this

def textsF (fs : List Fld) : List ByteArray := fs.flatMap (·.2)
def keysF (fs : List Fld) : List Ky := toldBy ltKy namedT (textsF fs)
def tempsF (fs : List Fld) : List ByteArray := toldBy ltB tempT (textsF fs)

theorem mem_textsF {fs : List Fld} {t : ByteArray} : t ∈ textsF fs ↔ ∃ f ∈ fs, t ∈ f.2 := by simp [textsF]

/-- The keys of a value are those at which it points. -/
theorem mem_keysF {fs : List Fld} {k : Ky} : k ∈ keysF fs ↔ pointsF fs k := by
  unfold keysF pointsF
  rw [told_mem totK]
  constructor
  · rintro ⟨t, ht, h⟩
    obtain ⟨f, hf, h'⟩ := mem_textsF.1 ht
    exact ⟨f, hf, t, h', h⟩
  · rintro ⟨f, hf, t, ht, h⟩
    exact ⟨t, mem_textsF.2 ⟨f, hf, ht⟩, h⟩

theorem mem_tempsF {fs : List Fld} {n : ByteArray} : n ∈ tempsF fs ↔ ∃ f ∈ fs, ∃ t ∈ f.2, tempT t = some n := by
  unfold tempsF
  rw [told_mem totB]
  constructor
  · rintro ⟨t, ht, h⟩
    obtain ⟨f, hf, h'⟩ := mem_textsF.1 ht
    exact ⟨f, hf, t, h', h⟩
  · rintro ⟨f, hf, t, ht, h⟩
    exact ⟨t, mem_textsF.2 ⟨f, hf, ht⟩, h⟩

/-- Behind Resolve: no temporary name. -/
theorem res_tempsF {bs : List Bd} (hk : ∀ b ∈ bs, keyOK b.2 = true) {fs : List Fld} (h : allBound bs fs) : tempsF (mapT (resT bs) fs) = [] := by
  apply List.eq_nil_iff_forall_not_mem.2
  intro n hn
  obtain ⟨f, hf, t, ht, e⟩ := mem_tempsF.1 hn
  unfold mapT at hf
  obtain ⟨f0, h0, rfl⟩ := List.mem_map.1 hf
  obtain ⟨t0, h1, rfl⟩ := List.mem_map.1 ht
  rw [res_temp hk (h f0 h0 t0 h1)] at e
  cases e

end Go.Proofs.YtinmagodckkedaaGreat

/-
  Rows of texts, keys and binds; rows cut short, sorted, written behind their end, whatever their kind.
-/
namespace Go.Proofs.YtinmagodckkedaaGreat
open Go.RowKit Go.Sort Go.Lib

def encSt (x : ByteArray) : List Value := [.string x]
def KT : Kind ByteArray := ⟨9, 1, encSt, fun _ => rfl, by decide, fun x u hu => by simp [encSt] at hu; subst hu; rfl⟩
def encKy (x : Ky) : List Value := [.string x.1, .string x.2]
def KK : Kind Ky := ⟨31, 2, encKy, fun _ => rfl, by decide, fun x u hu => by simp [encKy] at hu; rcases hu with rfl | rfl <;> rfl⟩
def encBd (x : Bd) : List Value := [.string x.1, .string x.2.1, .string x.2.2]
def KB : Kind Bd := ⟨44, 3, encBd, fun _ => rfl, by decide, fun x u hu => by simp [encBd] at hu; rcases hu with rfl | rfl | rfl <;> rfl⟩

theorem kt_cells (d : List ByteArray) : KT.cells d = d.map Value.string := by
  induction d with
  | nil => rfl
  | cons x d ih =>
    have : KT.cells (x :: d) = Value.string x :: KT.cells d := rfl
    rw [this, ih]; rfl

theorem kt_own {n0 : Nat} {w : World} {v : Value} {d : List ByteArray} : KT.Own n0 w v d ↔ OwnT n0 w v d := by
  unfold Kind.Own OwnT
  rw [kt_cells]
  rfl

theorem kt_at {w : World} {b off : Nat} {d : List ByteArray} : KT.At w b off d ↔ ∀ i, (h : i < d.length) → w.cell? ⟨b, off + i, none⟩ = some (.string d[i]) := by
  constructor
  · intro h i hi
    have := h i hi 0 (.string d[i]) rfl
    have e : off + i * KT.k + 0 = off + i := by show off + i * 1 + 0 = _; omega
    rwa [e] at this
  · intro h i hi j u hu
    have hj : j = 0 := by
      have := (List.getElem?_eq_some_iff.1 hu).1
      have hl : (KT.enc d[i]).length = 1 := rfl
      omega
    subst hj
    have e : off + i * KT.k + 0 = off + i := by show off + i * 1 + 0 = _; omega
    rw [e, h i hi]
    exact hu

theorem kt_txt {w : World} {p : Option Addr} {d : List ByteArray} : TxtAt w p d ↔ (d = [] ∨ ∃ b off, p = some ⟨b, off, none⟩ ∧ KT.At w b off d) := by
  unfold TxtAt
  constructor
  · rintro (h | ⟨b, off, hp, h⟩)
    · exact Or.inl h
    · exact Or.inr ⟨b, off, hp, kt_at.2 h⟩
  · rintro (h | ⟨b, off, hp, h⟩)
    · exact Or.inl h
    · exact Or.inr ⟨b, off, hp, kt_at.1 h⟩

theorem kk_at {w : World} {b off : Nat} {d : List Ky} (h : KK.At w b off d) (i : Nat) (hi : i < d.length) : w.cell? ⟨b, off + i * 2, none⟩ = some (.string d[i].1) ∧ w.cell? ⟨b, off + i * 2 + 1, none⟩ = some (.string d[i].2) :=
  ⟨h i hi 0 _ rfl, h i hi 1 _ rfl⟩

theorem kb_at {w : World} {b off : Nat} {d : List Bd} (h : KB.At w b off d) (i : Nat) (hi : i < d.length) : w.cell? ⟨b, off + i * 3, none⟩ = some (.string d[i].1) ∧ w.cell? ⟨b, off + i * 3 + 1, none⟩ = some (.string d[i].2.1) ∧ w.cell? ⟨b, off + i * 3 + 2, none⟩ = some (.string d[i].2.2) :=
  ⟨h i hi 0 _ rfl, h i hi 1 _ rfl, h i hi 2 _ rfl⟩

theorem Kind.take_cells {α : Type} (K : Kind α) : ∀ (d : List α) (k : Nat), K.cells (d.take k) = (K.cells d).take (k * K.k)
  | [], k => by simp [Kind.cells]
  | x :: d, 0 => by simp [Kind.cells]
  | x :: d, k + 1 => by
    have e1 : K.cells (x :: d) = K.enc x ++ K.cells d := rfl
    have e2 : K.cells ((x :: d).take (k + 1)) = K.enc x ++ K.cells (d.take k) := rfl
    have h1 : (K.enc x).take (k * K.k + K.k) = K.enc x := List.take_of_length_le (by rw [K.len]; omega)
    rw [e1, e2, K.take_cells d k, Nat.add_mul, Nat.one_mul, List.take_append, h1, K.len, Nat.add_sub_cancel]

/-- The row cut short. -/
theorem Kind.own_cut {α : Type} {K : Kind α} {n0 g n cap : Nat} {w : World} {d : List α} (h : K.Own n0 w (.slice (some ⟨g, 0, none⟩) n cap) d) (k : Nat) (hk : k ≤ d.length) :
    K.Own n0 w (.slice (some ⟨g, 0, none⟩) k cap) (d.take k) := by
  have hl : (d.take k).length = k := by rw [List.length_take]; omega
  rcases h.2 with ⟨hv, _⟩ | ⟨g', cap', cur, hv, h1, h2, h3, h4, h5, h6⟩
  · cases hv
  · injection hv with e1 e2 e3
    injection e1 with e1
    injection e1 with e1 _ _
    subst e1 e3
    refine ⟨by rw [K.cells_len], Or.inr ⟨g, cap, cur, by rw [hl], h1, h2, by rw [hl]; omega, h4, h5, ?_⟩⟩
    rw [hl, K.take_cells, ← h6, List.take_take]
    congr 1
    have := Nat.mul_le_mul_right K.k hk
    omega

/-- Cells behind the row's end written over. -/
theorem Kind.own_past {α : Type} {K : Kind α} {n0 g n cap : Nat} {d : List α} (vs : List Value) : ∀ (w : World) (o : Nat), K.Own n0 w (.slice (some ⟨g, 0, none⟩) n cap) d → d.length = n → n * K.k ≤ o → K.Own n0 (w.setCells g o vs) (.slice (some ⟨g, 0, none⟩) n cap) d := by
  induction vs with
  | nil => intro w o h _ _; exact h
  | cons v vs ih =>
    intro w o h hn ho
    rw [World.setCells]
    refine ih _ _ ?_ hn (by omega)
    subst hn
    have h1 := (World.ownsRow.stored h o v).1
    rw [List.set_eq_of_length_le (by rw [K.cells_len]; exact ho)] at h1
    exact h1

theorem Kind.flat {α : Type} [Inhabited α] (K : Kind α) (d : List α) (t : Nat) (h : t < d.length * K.k) : (K.cells d)[t]? = some (K.enc d[t / K.k]!)[t % K.k]! := by
  have hq : t / K.k < d.length := (Nat.div_lt_iff_lt_mul K.pos).2 h
  have hm : t % K.k < K.k := Nat.mod_lt _ K.pos
  have e : t / K.k * K.k + t % K.k = t := by rw [Nat.mul_comm]; exact Nat.div_add_mod t K.k
  have h1 := K.cells_get d (t / K.k) hq (t % K.k) hm
  rw [e] at h1
  rw [h1, getElem!_pos d (t / K.k) hq, List.getElem?_eq_getElem (by rw [K.len]; exact hm), getElem!_pos _ _ (by rw [K.len]; exact hm)]

theorem Kind.own_holds {α : Type} [Inhabited α] {K : Kind α} {n0 g n cap : Nat} {w : World} {d : List α} (h : K.Own n0 w (.slice (some ⟨g, 0, none⟩) n cap) d) : HoldsK K.enc K.k w g 0 d.toArray := by
  rcases h.2 with ⟨hv, _⟩ | ⟨g', cap', cur, hv, h1, h2, h3, h4, h5, h6⟩
  · cases hv
  · injection hv with e1 e2 e3
    injection e1 with e1
    injection e1 with e1 _ _
    subst e1
    intro j hj
    rw [size_flatK] at hj
    have hj' : j < d.length * K.k := by simpa using hj
    have hg := K.flat d j hj'
    rw [← h6, List.getElem?_take_of_lt hj'] at hg
    rw [get_flatK _ _ _ _ hj]
    constructor
    · simp only [World.cell?, h2, Nat.zero_add]
      have hq : j / K.k < d.length := (Nat.div_lt_iff_lt_mul K.pos).2 hj'
      have he : d[j / K.k]! = d.toArray[j / K.k]! := by
        rw [getElem!_pos d (j / K.k) hq, getElem!_pos d.toArray (j / K.k) (by simpa using hq)]; simp
      rw [← Array.getElem?_toList, hg, he]
      rfl
    · simp [World.frozen?, h2]

theorem below_sortK {α : Type} [Inhabited α] (enc : α → List Value) (k : Nat) {B : Nat} {w0 w : World} (h : Below B w0 w) (hB : B ≤ w.heap.size) (blk off n : Nat) (d : Array α) (os : Array Obj) (hb : B ≤ blk) : Below B w0 (sortWorldK enc k w blk off n d os) := by
  refine h.trans ⟨rfl, rfl, rfl, ?_, ?_⟩
  · simp [sortWorldK, putRowK]
  · intro k' hk
    have hks : k' < w.heap.size := by omega
    simp only [sortWorldK, Sort.grow, putRowK, putRow, mapBlock, Sort.ahead]
    rw [Array.getElem?_append_left (by simpa using hks), Array.getElem?_modify, if_neg (by omega)]

/-- A row whose elements have been put in another order. -/
theorem Kind.own_sorted {α : Type} [Inhabited α] {K : Kind α} {n0 g n cap : Nat} {w : World} {d : List α} (h : K.Own n0 w (.slice (some ⟨g, 0, none⟩) n cap) d) (e : Array α) (he : e.size = d.length) (m : Nat) (os : Array Obj) :
    K.Own n0 (sortWorldK K.enc K.k w g 0 m e os) (.slice (some ⟨g, 0, none⟩) n cap) e.toList := by
  have hH := K.own_holds h
  rcases h.2 with ⟨hv, _⟩ | ⟨g', cap', cur, hv, h1, h2, h3, h4, h5, h6⟩
  · cases hv
  · injection hv with e1 e2 e3
    injection e1 with e1
    injection e1 with e1 _ _
    subst e1 e2 e3
    have hgl := (Array.getElem?_eq_some_iff.1 h2).1
    have hl : e.toList.length = d.length := by simpa using he
    have hheap : (sortWorldK K.enc K.k w g 0 m e os).heap[g]? = some (.cells (putCells id 0 (flatK K.enc K.k e) cur) K.T (0, 0)) := by
      simp only [sortWorldK, Sort.grow, putRowK, putRow, mapBlock, Sort.ahead]
      rw [Array.getElem?_append_left (by simpa using hgl), Array.getElem?_modify, if_pos rfl, h2]
      rfl
    have hH2 : HoldsK K.enc K.k (sortWorldK K.enc K.k w g 0 m e os) g 0 e := by
      exact holdsK_grow K.enc K.k _ os g 0 _ (by simpa [putRowK] using hgl) (holdsK_putRowK K.enc K.k (Sort.ahead w m) g 0 _ _ (holdsK_ahead K.enc K.k w m g 0 _ hH) (by simpa using he))
    have hsz : (putCells id 0 (flatK K.enc K.k e) cur).size = cur.size := by simp [putCells]
    refine ⟨by rw [K.cells_len], Or.inr ⟨g, cap, _, by rw [hl], h1, hheap, by rw [hl]; exact h3, h4, by rw [hsz]; exact h5, ?_⟩⟩
    apply List.ext_getElem?
    intro j
    rw [hl, List.getElem?_take]
    by_cases hj : j < d.length * K.k
    · have hje : j < e.size * K.k := by rw [he]; exact hj
      rw [if_pos hj, K.flat e.toList j (by rw [hl]; exact hj)]
      have := (hH2 j (by rw [size_flatK]; exact hje)).1
      rw [get_flatK _ _ _ _ (by first | exact hje | (rw [size_flatK]; exact hje))] at this
      simp only [World.cell?, hheap, Nat.zero_add] at this
      simp only [Option.isSome_none, Bool.false_eq_true, if_false] at this
      rw [Array.getElem?_toList, this]
      have hq : j / K.k < e.size := (Nat.div_lt_iff_lt_mul K.pos).2 hje
      have he2 : e.toList[j / K.k]! = e[j / K.k]! := by
        rw [getElem!_pos e (j / K.k) hq, getElem!_pos e.toList (j / K.k) (by simpa using hq)]; simp
      rw [he2]
      rfl
    · rw [if_neg hj, List.getElem?_eq_none]
      rw [K.cells_len, hl]
      omega

theorem Kind.own_ge {α : Type} {K : Kind α} {n0 g n cap : Nat} {w : World} {d : List α} (h : K.Own n0 w (.slice (some ⟨g, 0, none⟩) n cap) d) : n0 ≤ g ∧ g < w.heap.size ∧ d.length ≤ cap ∧ cap ≤ maxLen := by
  rcases h.2 with ⟨hv, _⟩ | ⟨g', cap', cur, hv, h1, h2, h3, h4, _⟩
  · cases hv
  · injection hv with e1 e2 e3
    injection e1 with e1
    injection e1 with e1 _ _
    subst e1 e3
    exact ⟨h1, (Array.getElem?_eq_some_iff.1 h2).1, h3, h4⟩

theorem Kind.own_drew {α : Type} {K : Kind α} {n0 : Nat} {w : World} {v : Value} {d : List α} (h : K.Own n0 w v d) (q : Nat) : K.Own n0 (w.drewN q) v d := h

theorem Kind.own_some {α : Type} [Inhabited α] {K : Kind α} {n0 g n cap : Nat} {w : World} {d : List α} (h : K.Own n0 w (.slice (some ⟨g, 0, none⟩) n cap) d) (t : Nat) (ht : t < d.length * K.k) :
    (w.cell? ⟨g, t, none⟩).isSome = true ∧ w.frozen? ⟨g, t, none⟩ = false := by
  have := K.own_holds h t (by rw [size_flatK]; simpa using ht)
  rw [Nat.zero_add] at this
  exact ⟨by rw [this.1]; rfl, this.2⟩

/-- An element's cells in a row of its own. -/
theorem Kind.own_at {α : Type} {K : Kind α} {n0 g n cap : Nat} {w : World} {d : List α} (h : K.Own n0 w (.slice (some ⟨g, 0, none⟩) n cap) d) : K.At w g 0 d := by
  by_cases h0 : 0 < d.length
  · obtain ⟨g', e, _, _, hat, _⟩ := Kind.own_form h h0
    cases e
    exact hat
  · intro i hi; omega

theorem Kind.own_free {α : Type} {K : Kind α} {n0 g n cap : Nat} {w : World} {d : List α} (h : K.Own n0 w (.slice (some ⟨g, 0, none⟩) n cap) d) (j : Nat) : w.frozen? ⟨g, j, none⟩ = false := by
  rcases h.2 with ⟨hv, _⟩ | ⟨g', cap', cur, hv, h1, h2, _⟩
  · cases hv
  · injection hv with e1 e2 e3
    injection e1 with e1
    injection e1 with e1 _ _
    subst e1
    exact Lib.frozen_of_heap h2 _

theorem Kind.newsN {α : Type} (K : Kind α) (W : World) (x : α) (N : Nat) (hN : N = W.heap.size) : ∀ j u, (K.cells [x])[j]? = some u → (W.alloc (.cells (K.enc x).toArray K.T)).cell? ((⟨N, 0, none⟩ : Addr).add j) = some u := by
  subst hN
  exact K.news W x

end Go.Proofs.YtinmagodckkedaaGreat

/-
  Texts sorted, and each once: what slices.Sort and slices.Compact leave of a row of one's own.
-/
namespace Go.Proofs.YtinmagodckkedaaGreat
open Go.RowKit Go.Sort Go.Lib

theorem compact_rise {α : Type} [DecidableEq α] [Inhabited α] {lt : α → α → Bool} (T : Tot lt) {d : Array α} (hle : ∀ i j, i ≤ j → j < d.size → lt d[j]! d[i]! = false) : RisingR lt (compactUpTo d d.size) ∧ ∀ x, x ∈ compactUpTo d d.size ↔ x ∈ d.toList := by
  have key : ∀ m, m ≤ d.size → RisingR lt (compactUpTo d m) ∧ ∀ x, x ∈ compactUpTo d m ↔ ∃ j, j < m ∧ d[j]! = x := by
    intro m
    induction m with
    | zero => intro _; exact ⟨List.Pairwise.nil, fun x => by simp [compactUpTo]⟩
    | succ m ih =>
      intro hm
      obtain ⟨h1, h2⟩ := ih (by omega)
      rw [compactUpTo_succ]
      cases hk : keeps d m with
      | true =>
        rw [if_pos rfl]
        constructor
        · refine List.pairwise_append.2 ⟨h1, List.pairwise_singleton _ _, fun x hx y hy => ?_⟩
          rw [List.mem_singleton] at hy
          subst hy
          obtain ⟨j, hj, rfl⟩ := (h2 x).1 hx
          have hne : d[m]! ≠ d[m - 1]! := by
            unfold keeps at hk
            rcases of_decide_eq_true hk with h | h
            · omega
            · exact h
          have ha := hle j (m - 1) (by omega) (by omega)
          have hb := hle (m - 1) m (by omega) (by omega)
          rcases T.tot d[j]! d[m]! with h | h | h
          · exact h
          · rw [h] at ha
            rcases T.tot d[m - 1]! d[m]! with h' | h' | h'
            · rw [ha] at h'; cases h'
            · exact absurd h'.symm hne
            · rw [hb] at h'; cases h'
          · rw [hle j m (by omega) (by omega)] at h; cases h
        · intro x
          rw [List.mem_append, List.mem_singleton, h2]
          constructor
          · rintro (⟨j, hj, e⟩ | e)
            · exact ⟨j, by omega, e⟩
            · exact ⟨m, by omega, e.symm⟩
          · rintro ⟨j, hj, e⟩
            by_cases hjm : j = m
            · subst hjm; exact Or.inr e.symm
            · exact Or.inl ⟨j, by omega, e⟩
      | false =>
        rw [if_neg (by simp), List.append_nil]
        refine ⟨h1, fun x => ?_⟩
        rw [h2]
        constructor
        · rintro ⟨j, hj, e⟩
          exact ⟨j, by omega, e⟩
        · rintro ⟨j, hj, e⟩
          by_cases hjm : j = m
          · subst hjm
            have hh : ¬ (j = 0 ∨ d[j]! ≠ d[j - 1]!) := by unfold keeps at hk; exact of_decide_eq_false hk
            have h0 : j ≠ 0 := fun e => hh (Or.inl e)
            have h3 : d[j]! = d[j - 1]! := Classical.byContradiction fun e => hh (Or.inr e)
            exact ⟨j - 1, by omega, by rw [← h3]; exact e⟩
          · exact ⟨j, by omega, e⟩
  obtain ⟨h1, h2⟩ := key d.size (Nat.le_refl _)
  refine ⟨h1, fun x => (h2 x).trans ?_⟩
  rw [List.mem_iff_getElem]
  constructor
  · rintro ⟨j, hj, e⟩
    exact ⟨j, by simpa using hj, by rw [← e, getElem!_pos d j hj]; simp⟩
  · rintro ⟨j, hj, e⟩
    have hj' : j < d.size := by simpa using hj
    exact ⟨j, hj', by rw [getElem!_pos d j hj', ← e]; simp⟩

def ltL (a b : List UInt8) : Bool := decide (Lib.compareBytes a b < 0)
theorem ltL_bytes (a b : List UInt8) : ltB (bytesL a) (bytesL b) = ltL a b := rfl
theorem ltL_dec (a b : List UInt8) : ltL a b = decide (a < b) := by unfold ltL; rw [cb_less, bytesLess_eq]
theorem totL : Tot ltL where
  irr a := ltB_irrefl (bytesL a)
  tr a b c h k := ltB_trans (a := bytesL a) (b := bytesL b) (c := bytesL c) h k
  tot a b := by
    rcases ltB_cases (bytesL a) (bytesL b) with h | h | h
    · exact Or.inl h
    · exact Or.inr (Or.inl (by have := congrArg (fun x : ByteArray => x.data.toList) h; simpa [bytesL] using this))
    · exact Or.inr (Or.inr h)

theorem merge_ord (ss : List (List UInt8)) : (ss.mergeSort fun x y => decide (x ≤ y)).Pairwise fun x y => ltL y x = false := by
  have h : (ss.mergeSort fun x y => decide (x ≤ y)).Pairwise fun x y => decide (x ≤ y) = true := by
    refine List.pairwise_mergeSort ?_ ?_ ss
    · intro a b c h1 h2
      simp only [decide_eq_true_eq] at *
      exact List.le_trans h1 h2
    · intro a b
      rcases List.le_total a b with h | h <;> simp [h]
  refine h.imp fun {x y} hxy => ?_
  rw [ltL_dec, decide_eq_false_iff_not]
  exact of_decide_eq_true hxy

theorem rising_bytes {r : List (List UInt8)} (h : RisingR ltL r) : RisingR ltB (r.map bytesL) := by
  unfold RisingR at *
  rw [List.pairwise_map]
  exact h.imp fun {a b} hab => hab

theorem bytes_inj : ∀ {a b : List UInt8}, bytesL a = bytesL b → a = b := fun {a b} h => by
  have := congrArg (fun x : ByteArray => x.data.toList) h
  simpa [bytesL] using this

/-- The texts, rising, each once. -/
def sortT (ts : List ByteArray) : List ByteArray := toldBy ltB some ts

theorem sortT_rising (ts : List ByteArray) : RisingR ltB (sortT ts) := told_rising totB _ _
theorem sortT_mem (ts : List ByteArray) (z : ByteArray) : z ∈ sortT ts ↔ z ∈ ts := by
  unfold sortT
  rw [told_mem totB]
  constructor
  · rintro ⟨t, ht, e⟩; rw [← Option.some.inj e]; exact ht
  · intro h; exact ⟨z, h, rfl⟩

theorem sortT_of {ts r : List ByteArray} (h1 : RisingR ltB r) (h2 : ∀ z, z ∈ r ↔ z ∈ ts) : r = sortT ts :=
  rising_uniqR totB h1 (sortT_rising ts) fun z => (h2 z).trans (sortT_mem ts z).symm

/-- What the sort, and then the doubles' fall, leave. -/
theorem sorted_texts (ts : List ByteArray) : (compactUpTo ((ts.map (·.data.toList)).mergeSort fun x y => decide (x ≤ y)).toArray ((ts.map (·.data.toList)).mergeSort fun x y => decide (x ≤ y)).toArray.size).map bytesL = sortT ts := by
  obtain ⟨m, hm⟩ : ∃ m, (ts.map (·.data.toList)).mergeSort (fun x y => decide (x ≤ y)) = m := ⟨_, rfl⟩
  have hord := merge_ord (ts.map (·.data.toList))
  have hperm : (((ts.map (·.data.toList)).mergeSort fun x y => decide (x ≤ y))).Perm (ts.map (·.data.toList)) := List.mergeSort_perm _ _
  rw [hm] at hord hperm ⊢
  obtain ⟨h1, h2⟩ := compact_rise (d := m.toArray) totL (fun i j hij hj => by
    have hj' : j < m.length := by simpa using hj
    rw [getElem!_pos m.toArray j hj, getElem!_pos m.toArray i (by omega)]
    simp only [List.getElem_toArray]
    rcases Nat.lt_or_eq_of_le hij with h | h
    · exact List.pairwise_iff_getElem.1 hord i j (by omega) hj' h
    · subst h; exact totL.irr _)
  refine sortT_of (rising_bytes h1) fun z => ?_
  rw [List.mem_map]
  constructor
  · rintro ⟨a, ha, rfl⟩
    have := (h2 a).1 ha
    simp only at this
    obtain ⟨t, ht, e⟩ := List.mem_map.1 (hperm.mem_iff.1 this)
    rw [← e]
    exact ht
  · intro hz
    exact ⟨z.data.toList, (h2 _).2 (hperm.mem_iff.2 (List.mem_map.2 ⟨z, hz, rfl⟩)), rfl⟩

end Go.Proofs.YtinmagodckkedaaGreat

/-
  The contracts of slices.Sort and slices.Compact at rows of texts of one's own.
-/
namespace Go.Proofs.YtinmagodckkedaaGreat
open Go.RowKit Go.Sort Go.Lib

def orderT (ts : List ByteArray) : List ByteArray := ((ts.map (·.data.toList)).mergeSort fun x y => decide (x ≤ y)).map bytesL
def onceT (ts : List ByteArray) : List ByteArray := (Lib.compact (ts.map (·.data.toList))).map bytesL

theorem bytes_lists (l : List (List UInt8)) : (l.map bytesL).map (·.data.toList) = l := by
  rw [List.map_map]
  conv => rhs; rw [← List.map_id l]
  rfl

theorem order_once (ts : List ByteArray) : onceT (orderT ts) = sortT ts := by
  unfold onceT orderT
  rw [bytes_lists]
  have := sorted_texts ts
  simpa [Lib.compact] using this

theorem encStr_bytes (l : List (List UInt8)) : l.map encStr = (l.map bytesL).map Value.string := by
  rw [← map_encStr, bytes_lists]

theorem orderT_len (ts : List ByteArray) : (orderT ts).length = ts.length := by
  unfold orderT
  rw [List.length_map, List.length_mergeSort, List.length_map]

theorem sortS_own (n0 : Nat) (u : Value) (ts : List ByteArray) (w : World) (h : OwnT n0 w u ts) (h0 : n0 ≤ w.heap.size) (hl : ts.length ≤ 4000000) :
    Calls Tryz.prog 20 #[u] w fun e w' => e = .returned (.tuple #[]) ∧ OwnT n0 w' u (orderT ts) ∧ Below n0 w w' := by
  rcases h.2 with ⟨rfl, hz⟩ | ⟨g, cap, cur, rfl, hb, hg, hn, hm, hs, ht⟩
  · obtain rfl := List.length_eq_zero_iff.1 hz
    refine (Tryz.slices_Sort_string_none _ _ w).mono ?_
    rintro e w' ⟨rfl, rfl⟩
    refine ⟨rfl, ?_, Below.refl _ _⟩
    have : orderT [] = [] := by have := orderT_len []; exact List.length_eq_zero_iff.1 this
    rw [this]
    exact h
  · obtain ⟨ss, hss⟩ : ∃ ss, ts.map (·.data.toList) = ss := ⟨_, rfl⟩
    have hsl : ss.length = ts.length := by rw [← hss, List.length_map]
    have hh : w.ownsRow n0 9 1 (.slice (some ⟨g, 0, none⟩) ts.length cap) ts.length (ss.map encStr) := by rw [← hss, map_encStr]; exact h
    obtain ⟨g', cap', e0, _, hgl, _, _, _, hH⟩ := holds_of_ownsRow hh (by simp)
    injection e0 with e1 _ e3
    injection e1 with e1
    injection e1 with e1
    subst e1 e3
    have hc := Tryz.slices_Sort_string g 0 cap ss w hH hgl (by omega)
    rw [hsl] at hc
    refine hc.mono ?_
    rintro e w' ⟨rfl, n, os, rfl⟩
    have hl2 : (ss.mergeSort fun x y => decide (x ≤ y)).length = ss.length := List.length_mergeSort ss
    refine ⟨rfl, ?_, (Below.refl _ _).grown (grownBy_sorted _) h0 (fun k hk => by cases hk; exact hb)⟩
    have := ownsRow_sorted (n := n) (os := os) (ts := ss.mergeSort fun x y => decide (x ≤ y)) (cap := cap) hl2 hb hg (by omega) hm hs
    unfold OwnT
    rw [orderT_len]
    unfold orderT
    rw [hss, ← encStr_bytes, ← hsl]
    exact this

theorem onceT_len (ts : List ByteArray) : (onceT ts).length ≤ ts.length := by
  unfold onceT
  rw [List.length_map]
  have := Lib.compact_length_le (ts.map (·.data.toList))
  rwa [List.length_map] at this

theorem compS_own (n0 : Nat) (u : Value) (ts : List ByteArray) (w : World) (h : OwnT n0 w u ts) (h0 : n0 ≤ w.heap.size) (hl : ts.length ≤ 4000000) :
    Calls Tryz.prog 21 #[u] w fun e w' => ∃ u', e = .returned u' ∧ OwnT n0 w' u' (onceT ts) ∧ Below n0 w w' := by
  rcases h.2 with ⟨rfl, hz⟩ | ⟨g, cap, cur, rfl, hb, hg, hn, hm, hs, ht⟩
  · obtain rfl := List.length_eq_zero_iff.1 hz
    refine (Any.slices_Compact_string_empty Tryz.laysCompact _ _ w).mono ?_
    rintro e w' ⟨rfl, rfl⟩
    have : onceT [] = [] := by have := onceT_len []; exact List.length_eq_zero_iff.1 (by simpa using this)
    refine ⟨_, rfl, ?_, Below.refl _ _⟩
    rw [this]
    exact h
  · obtain ⟨ss, hss⟩ : ∃ ss, ts.map (·.data.toList) = ss := ⟨_, rfl⟩
    have hsl : ss.length = ts.length := by rw [← hss, List.length_map]
    have hh : w.ownsRow n0 9 1 (.slice (some ⟨g, 0, none⟩) ts.length cap) ts.length (ss.map encStr) := by rw [← hss, map_encStr]; exact h
    obtain ⟨g', cap', e0, _, hgl, _, _, _, hH⟩ := holds_of_ownsRow hh (by simp)
    injection e0 with e1 _ e3
    injection e1 with e1
    injection e1 with e1
    subst e1 e3
    have hc := Tryz.slices_Compact_string g 0 cap ss w hH (by omega) (by omega)
    rw [hsl] at hc
    refine hc.mono ?_
    rintro e w' ⟨rfl, q, rfl⟩
    have hle := Lib.compact_length_le ss
    have ho : (onceT ts).length = (Lib.compact ss).length := by unfold onceT; rw [hss, List.length_map]
    refine ⟨_, rfl, ?_, below_putRow (Below.refl _ _) hb⟩
    have := ownsRow_putRow (q := q) (k := (Lib.compact ss).length) (ys := Lib.compact ss ++ List.replicate (ts.length - (Lib.compact ss).length) []) hh (by simp; omega) (by omega)
    rw [List.take_left] at this
    unfold OwnT
    rw [ho]
    unfold onceT
    rw [hss, ← encStr_bytes]
    exact this

end Go.Proofs.YtinmagodckkedaaGreat

/-
  The contracts of cmp.Or and of Compare of package name.
-/
namespace Go.Proofs.YtinmagodckkedaaGreat.Z
open Go.RowKit

def orI (x y : Int) : Int := if x = 0 then y else x

set_option maxHeartbeats 400000 in
theorem zor_any (x y : Int) (b : Nat) (w : World) (h0 : w.cell? ⟨b, 0, none⟩ = some (.int .i64 x)) (h1 : w.cell? ⟨b, 1, none⟩ = some (.int .i64 y)) :
    Calls Tryz.prog 51 #[.slice (some ⟨b, 0, none⟩) 2 2] w fun e w' => e = .returned (.int .i64 (orI x y)) ∧ w' = w := by
  by_cases hx : x = 0
  · have HO : Hid (orI x y = y) := if_pos hx
    subst hx
    by_cases hy : y = 0
    · subst hy
      go_enter Tryz.func51, Tryz.ntmps51
      go_wp2
      refine wp_loop_rounds 3 ?_
      rw [rounds_succ]; go_wp2
      rw [rounds_succ]; go_wp2
      rw [rounds_succ]; go_wp2
      go_ret
      exact ⟨ret_int HO.out.symm, rfl⟩
    · have hyb : (y != 0) = true := by simp [hy]
      clear hy
      go_enter Tryz.func51, Tryz.ntmps51
      go_wp2
      refine wp_loop_rounds 3 ?_
      rw [rounds_succ]; go_wp2
      rw [rounds_succ]; go_wp2
      go_ret
      exact ⟨ret_int HO.out.symm, rfl⟩
  · have HO : Hid (orI x y = x) := if_neg hx
    have hxb : (x != 0) = true := by simp [hx]
    clear hx
    go_enter Tryz.func51, Tryz.ntmps51
    go_wp2
    refine wp_loop_rounds 3 ?_
    rw [rounds_succ]; go_wp2
    go_ret
    exact ⟨ret_int HO.out.symm, rfl⟩

attribute [local go_sem ↓] Go.wp_at_zero Go.wp_at_succ

def cmpI (a b c d : ByteArray) : Int := orI (Lib.compareBytes a.data.toList c.data.toList) (Lib.compareBytes b.data.toList d.data.toList)

set_option maxHeartbeats 800000 in
theorem compare_eq (a b c d : ByteArray) (w : World) :
    Calls Tryz.prog 38 #[.agg #[.string a, .string b], .agg #[.string c, .string d]] w fun e w' => e = .returned (.int .i64 (cmpI a b c d)) ∧
      w' = (((w.alloc (.cells #[.string a, .string b] 31)).alloc (.cells #[.string c, .string d] 31)).alloc (.cells #[.int .i64 (Lib.compareBytes a.data.toList c.data.toList), .int .i64 (Lib.compareBytes b.data.toList d.data.toList)] 3)).drew := by
  have HO : Hid (cmpI a b c d = orI (Lib.compareBytes a.data.toList c.data.toList) (Lib.compareBytes b.data.toList d.data.toList)) := rfl
  go_enter Tryz.func38, Tryz.ntmps38
  go_wp2_with fail
  go_region_held3 (fun w' => w'.cell? ⟨w.heap.size, 0, none⟩ = some (.string a) ∧ w'.cell? ⟨w.heap.size, 1, none⟩ = some (.string b) ∧ w'.cell? ⟨w.heap.size + 1, 0, none⟩ = some (.string c) ∧ w'.cell? ⟨w.heap.size + 1, 1, none⟩ = some (.string d)) (go_keep) (first | (go_at_call 52; refine (Tryz.strings_Compare _ _ _).mono ?_; rintro e w' ⟨rfl, rfl⟩) | (go_at_call 51; refine (zor_any (Lib.compareBytes a.data.toList c.data.toList) (Lib.compareBytes b.data.toList d.data.toList) _ _ ?_ ?_).mono ?_; (simp [go_sem]); (simp [go_sem]); rintro e w' ⟨rfl, rfl⟩))
  all_goals
    go_wp2
    go_ret
    exact ⟨ret_int HO.out.symm, rfl⟩

theorem zcompare_any (a b c d : ByteArray) (w : World) :
    Calls Tryz.prog 38 #[.agg #[.string a, .string b], .agg #[.string c, .string d]] w fun e w' => e = .returned (.int .i64 (cmpI a b c d)) ∧ Below w.heap.size w w' :=
  (compare_eq a b c d w).mono fun e w' ⟨h1, h2⟩ => ⟨h1, by rw [h2]; exact ((((Below.refl _ _).alloc (Nat.le_refl _) _).alloc (by simp) _).alloc (by simp; omega) _).drew⟩

end Go.Proofs.YtinmagodckkedaaGreat.Z

/-
  What == and != say of two keys.
-/
namespace Go.Proofs.YtinmagodckkedaaGreat.Z
open Go.RowKit

def eqK (a b c d : ByteArray) : Bool := a.toList == c.toList && b.toList == d.toList

theorem eql_key (a b c d : ByteArray) (w : World) : (binOp .eql 31 (.agg #[.string a, .string b]) (.agg #[.string c, .string d])).run Tryz.prog w = .ok (.bool (eqK a b c d)) w := by
  have u9 := Tryz.underlying9
  have a9 := Tryz.isAgg9
  have z9 := Tryz.sizeOf9
  have hS : Tryz.prog.underlying 31 = some (.struct (Tryz.prog.fieldsOf 31)) := by kernel_rfl
  have hp : Tryz.prog.stoodInHeld 31 = false := by kernel_rfl
  rw [run_eql_struct, show (10000 : Nat) = 9999 + 1 from rfl, run_equalIn_agg w 9999 31 _ _ hS hp]
  simp only [Program.fieldsOf, Tryz.underlying31]
  go_simp
  unfold eqK
  by_cases h1 : a.toList = c.toList <;> by_cases h2 : b.toList = d.toList <;> simp [h1, h2]

theorem neq_key (a b c d : ByteArray) (w : World) : (binOp .neq 31 (.agg #[.string a, .string b]) (.agg #[.string c, .string d])).run Tryz.prog w = .ok (.bool (!eqK a b c d)) w := by
  have u9 := Tryz.underlying9
  have a9 := Tryz.isAgg9
  have z9 := Tryz.sizeOf9
  have hS : Tryz.prog.underlying 31 = some (.struct (Tryz.prog.fieldsOf 31)) := by kernel_rfl
  have hp : Tryz.prog.stoodInHeld 31 = false := by kernel_rfl
  rw [run_neq_struct, show (10000 : Nat) = 9999 + 1 from rfl, run_equalIn_agg w 9999 31 _ _ hS hp]
  simp only [Program.fieldsOf, Tryz.underlying31]
  go_simp
  unfold eqK
  by_cases h1 : a.toList = c.toList <;> by_cases h2 : b.toList = d.toList <;> simp [h1, h2]

end Go.Proofs.YtinmagodckkedaaGreat.Z

/-
  slices.Compact at two keys that are one.
-/
namespace Go.Proofs.YtinmagodckkedaaGreat.Z
open Go.RowKit

theorem zero_cells (e : Value) (n : Nat) : (Builtin.zeroCells #[e, e] n).toList = List.replicate (n * 2) e := by
  apply List.ext_getElem
  · simp [Builtin.zeroCells]
  · intro i h1 h2
    simp [Builtin.zeroCells]
    rcases Nat.mod_two_eq_zero_or_one i with h | h <;> simp [h]

theorem run_clear_key (w : World) (ty : TypeId) (b o n c : Nat) (hn : 0 < n)
    (hc : ∀ j, j < n * 2 → (w.cell? ⟨b, o + j, none⟩).isSome = true) (hf : ∀ j, j < n * 2 → w.frozen? ⟨b, o + j, none⟩ = false) :
    (Builtin.clear_ #[23] ty #[.slice (some ⟨b, o, none⟩) n c]).run Tryz.prog w = .ok (.tuple #[]) (w.setCells b o (List.replicate (n * 2) (.string ⟨#[]⟩))) := by
  have hst := run_storeCells_cells (P := Tryz.prog) b o (List.replicate (n * 2) (.string ⟨#[]⟩)) 0 w (by simpa using hc) (by simpa using hf) (by intro v hv'; rw [List.eq_of_mem_replicate hv']; rfl)
  simp only [Nat.add_zero] at hst
  have hz := zero_cells (.string ⟨#[]⟩) n
  obtain ⟨m, rfl⟩ : ∃ m, n = m + 1 := ⟨n - 1, by omega⟩
  simp [Builtin.clear_, run_underlying Tryz.underlying23, Tryz.zeroValue31, Value.cells, hz, hst]

theorem below_setCells {B : Nat} {w w' : World} (b : Nat) (hb : B ≤ b) : ∀ (vs : List Value) (o : Nat), Below B w w' → Below B w (w'.setCells b o vs)
  | [], _, h => h
  | v :: vs, o, h => by
    unfold World.setCells
    exact below_setCells (w' := w'.setCell ⟨b, o, none⟩ v) b hb vs (o + 1) (h.setCell hb v)

theorem eqK_self (a b : ByteArray) : eqK a b a b = true := by simp [eqK]

set_option maxHeartbeats 1000000 in
theorem compact_two (a b : ByteArray) (g c : Nat) (w : World) (hc : 2 ≤ c) (hc' : c ≤ maxLen)
    (h0 : w.cell? ⟨g, 0, none⟩ = some (.string a)) (h1 : w.cell? ⟨g, 1, none⟩ = some (.string b)) (h2 : w.cell? ⟨g, 2, none⟩ = some (.string a)) (h3 : w.cell? ⟨g, 3, none⟩ = some (.string b))
    (f2 : w.frozen? ⟨g, 2, none⟩ = false) (f3 : w.frozen? ⟨g, 3, none⟩ = false) :
    Calls Tryz.prog 39 #[.slice (some ⟨g, 0, none⟩) 2 c] w fun e w' => e = .returned (.slice (some ⟨g, 0, none⟩) 1 c) ∧ Below g w w' := by
  unfold maxLen at hc'
  have heq := fun a b c d w => eql_key a b c d w
  have hk := eqK_self a b
  have hcl : ∀ nq ty, (Builtin.clear_ #[23] ty #[.slice (some ⟨g, 2, none⟩) 1 (c - 1)]).run Tryz.prog (w.drewN nq) = .ok (.tuple #[]) ((w.drewN nq).setCells g 2 (List.replicate (1 * 2) (.string ⟨#[]⟩))) := by
    intro nq ty
    refine run_clear_key (w.drewN nq) ty g 2 1 (c - 1) (by omega) ?_ ?_
    · intro j hj
      rcases (show j = 0 ∨ j = 1 by omega) with rfl | rfl
      · show (w.cell? ⟨g, 2, none⟩).isSome = true; rw [h2]; rfl
      · show (w.cell? ⟨g, 3, none⟩).isSome = true; rw [h3]; rfl
    · intro j hj
      rcases (show j = 0 ∨ j = 1 by omega) with rfl | rfl
      · exact f2
      · exact f3
  generalize List.replicate (1 * 2) (Value.string ⟨#[]⟩) = zs at hcl
  go_enter Tryz.func39, Tryz.ntmps39
  go_wp2_with fail
  refine wp_loop_rounds 1 ?_
  rw [rounds_succ]
  go_wp2_with fail
  go_quiet (fail)
  go_wp2_with fail
  refine wp_loop_rounds 1 ?_
  rw [rounds_succ]
  go_wp2_with fail
  go_ret
  exact ⟨rfl, below_setCells g (Nat.le_refl _) _ _ (below_drewN (Below.refl _ _) _)⟩

end Go.Proofs.YtinmagodckkedaaGreat.Z

/-
  The order of keys, in plain lists of bytes.
-/
namespace Go.Proofs.YtinmagodckkedaaGreat.Z

theorem cb_self (a : List UInt8) : Lib.compareBytes a a = 0 := by
  induction a with
  | nil => rfl
  | cons x a ih => unfold Lib.compareBytes; simp [ih]

theorem cb_zero (a b : List UInt8) : Lib.compareBytes a b = 0 ↔ a = b := by
  constructor
  · induction a generalizing b with
    | nil => cases b with
      | nil => intro _; rfl
      | cons y b => intro h; simp [Lib.compareBytes] at h
    | cons x a ih => cases b with
      | nil => intro h; simp [Lib.compareBytes] at h
      | cons y b =>
        intro h
        unfold Lib.compareBytes at h
        split at h
        · simp at h
        · split at h
          · simp at h
          · rename_i h1 h2
            have : x = y := by
              apply UInt8.toNat_inj.1
              rw [UInt8.lt_iff_toNat_lt] at h1 h2
              omega
            rw [this, ih b h]
  · rintro rfl; exact cb_self a

theorem cb_neg (a b : List UInt8) : Lib.compareBytes b a = - Lib.compareBytes a b := by
  induction a generalizing b with
  | nil => cases b <;> simp [Lib.compareBytes]
  | cons x a ih => cases b with
    | nil => simp [Lib.compareBytes]
    | cons y b =>
      unfold Lib.compareBytes
      by_cases h1 : x < y
      · have h2 : ¬ y < x := by rw [UInt8.lt_iff_toNat_lt] at h1 ⊢; omega
        simp [h1, h2]
      · by_cases h2 : y < x
        · simp [h1, h2]
        · simp [h1, h2, ih b]

theorem cb_range (a b : List UInt8) : Lib.compareBytes a b = -1 ∨ Lib.compareBytes a b = 0 ∨ Lib.compareBytes a b = 1 := by
  induction a generalizing b with
  | nil => cases b <;> simp [Lib.compareBytes]
  | cons x a ih => cases b with
    | nil => simp [Lib.compareBytes]
    | cons y b =>
      unfold Lib.compareBytes
      by_cases h1 : x < y
      · simp [h1]
      · by_cases h2 : y < x
        · simp [h1, h2]
        · simpa [h1, h2] using ih b

theorem cb_lt_trans (a b c : List UInt8) (h1 : Lib.compareBytes a b < 0) (h2 : Lib.compareBytes b c < 0) : Lib.compareBytes a c < 0 := by
  induction a generalizing b c with
  | nil => cases c with
    | nil => cases b <;> simp [Lib.compareBytes] at h1 h2
    | cons z c => simp [Lib.compareBytes]
  | cons x a ih => cases b with
    | nil => simp [Lib.compareBytes] at h1
    | cons y b => cases c with
      | nil => simp [Lib.compareBytes] at h2
      | cons z c =>
        unfold Lib.compareBytes at h1 h2 ⊢
        simp only [UInt8.lt_iff_toNat_lt] at h1 h2 ⊢
        by_cases p1 : x.toNat < y.toNat
        · by_cases q1 : y.toNat < z.toNat
          · rw [if_pos (by omega)]; decide
          · rw [if_neg q1] at h2
            by_cases q2 : z.toNat < y.toNat
            · rw [if_pos q2] at h2; simp at h2
            · rw [if_pos (by omega)]; decide
        · rw [if_neg p1] at h1
          by_cases p2 : y.toNat < x.toNat
          · rw [if_pos p2] at h1; simp at h1
          · rw [if_neg p2] at h1
            by_cases q1 : y.toNat < z.toNat
            · rw [if_pos (by omega)]; decide
            · rw [if_neg q1] at h2
              by_cases q2 : z.toNat < y.toNat
              · rw [if_pos q2] at h2; simp at h2
              · rw [if_neg q2] at h2
                rw [if_neg (by omega), if_neg (by omega)]
                exact ih b c h1 h2

theorem cb_less (a b : List UInt8) : decide (Lib.compareBytes a b < 0) = Op.bytesLess a b := by
  induction a generalizing b with
  | nil => cases b <;> simp [Lib.compareBytes, Op.bytesLess]
  | cons x a ih => cases b with
    | nil => simp [Lib.compareBytes, Op.bytesLess]
    | cons y b =>
      unfold Lib.compareBytes Op.bytesLess
      rw [← ih b]
      by_cases h1 : x < y
      · simp [h1]
      · by_cases h2 : y < x
        · have hne : (x == y) = false := by
            rw [beq_eq_false_iff_ne]; rintro rfl; exact h1 h2
          simp [h1, h2, hne]
        · have he : x = y := by
            apply UInt8.toNat_inj.1
            rw [UInt8.lt_iff_toNat_lt] at h1 h2
            omega
          simp [he]

/-- The order of pairs: by the first, then by the second. -/
def pairI (x y : Int) : Int := if x = 0 then y else x

def cmpL (a b c d : List UInt8) : Int := pairI (Lib.compareBytes a c) (Lib.compareBytes b d)

theorem cmpL_cases (a b c d : List UInt8) : (a = c ∧ cmpL a b c d = Lib.compareBytes b d) ∨ (a ≠ c ∧ Lib.compareBytes a c ≠ 0 ∧ cmpL a b c d = Lib.compareBytes a c) := by
  unfold cmpL pairI
  by_cases h : Lib.compareBytes a c = 0
  · left; exact ⟨(cb_zero a c).1 h, by rw [if_pos h]⟩
  · right; exact ⟨fun e => h ((cb_zero a c).2 e), h, by rw [if_neg h]⟩

theorem cmpL_neg (a b c d : List UInt8) : cmpL c d a b = - cmpL a b c d := by
  unfold cmpL pairI
  rw [cb_neg a c, cb_neg b d]
  by_cases h : Lib.compareBytes a c = 0
  · rw [if_pos h, if_pos (by omega)]
  · rw [if_neg h, if_neg (by omega)]

theorem cmpL_range (a b c d : List UInt8) : cmpL a b c d = -1 ∨ cmpL a b c d = 0 ∨ cmpL a b c d = 1 := by
  rcases cmpL_cases a b c d with ⟨_, h⟩ | ⟨_, _, h⟩ <;> rw [h] <;> exact cb_range _ _

theorem cmpL_zero (a b c d : List UInt8) : cmpL a b c d = 0 ↔ a = c ∧ b = d := by
  rcases cmpL_cases a b c d with ⟨h1, h⟩ | ⟨h1, h2, h⟩
  · rw [h, cb_zero]; exact ⟨fun e => ⟨h1, e⟩, fun e => e.2⟩
  · rw [h]; exact ⟨fun e => absurd e h2, fun e => absurd e.1 h1⟩

theorem cmpL_lt_trans (a b c d e f : List UInt8) (h1 : cmpL a b c d < 0) (h2 : cmpL c d e f < 0) : cmpL a b e f < 0 := by
  rcases cmpL_cases a b c d with ⟨p1, p⟩ | ⟨p1, _, p⟩ <;> rcases cmpL_cases c d e f with ⟨q1, q⟩ | ⟨q1, _, q⟩ <;> rcases cmpL_cases a b e f with ⟨r1, r⟩ | ⟨r1, _, r⟩ <;> rw [p] at h1 <;> rw [q] at h2 <;> rw [r]
  · exact cb_lt_trans _ _ _ h1 h2
  · exact absurd (p1.trans q1) r1
  · exact absurd (p1.symm.trans r1) q1
  · rw [p1]; exact h2
  · exact absurd (r1.trans q1.symm) p1
  · rw [← q1]; exact h1
  · have := cb_lt_trans _ _ _ h1 h2; rw [r1, cb_self] at this; omega
  · exact cb_lt_trans _ _ _ h1 h2

theorem cmpL_le_trans (a b c d e f : List UInt8) (h1 : cmpL a b c d ≤ 0) (h2 : cmpL c d e f ≤ 0) : cmpL a b e f ≤ 0 := by
  by_cases p : cmpL a b c d = 0
  · obtain ⟨rfl, rfl⟩ := (cmpL_zero _ _ _ _).1 p; exact h2
  · by_cases q : cmpL c d e f = 0
    · obtain ⟨rfl, rfl⟩ := (cmpL_zero _ _ _ _).1 q; exact h1
    · have := cmpL_lt_trans a b c d e f (by omega) (by omega); omega

/-- What the document says: by the type, then by the id, each by bytes. -/
theorem cmpL_less (a b c d : List UInt8) : decide (cmpL a b c d < 0) = (Op.bytesLess a c || (a == c && Op.bytesLess b d)) := by
  rw [← cb_less, ← cb_less]
  rcases cmpL_cases a b c d with ⟨h1, h⟩ | ⟨h1, h2, h⟩
  · subst h1; rw [h, cb_self]; simp
  · have hne : (a == c) = false := beq_eq_false_iff_ne.2 h1
    rw [h, hne]; simp

end Go.Proofs.YtinmagodckkedaaGreat.Z

/-
  Sort of package name at two keys that are one.
-/
namespace Go.Proofs.YtinmagodckkedaaGreat.Z
open Go.RowKit Go.Sort Go.Lib

def encKey (x : ByteArray × ByteArray) : List Value := [.string x.1, .string x.2]
def cmpK (x y : ByteArray × ByteArray) : Int := cmpI x.1 x.2 y.1 y.2

theorem cmpI_eq (a b c d : ByteArray) : cmpI a b c d = cmpL a.data.toList b.data.toList c.data.toList d.data.toList := rfl

theorem ltK (x y : ByteArray × ByteArray) : ltOf cmpK x y = decide (cmpL x.1.data.toList x.2.data.toList y.1.data.toList y.2.data.toList < 0) := rfl

theorem swoK : SWO (ltOf cmpK) where
  irrefl x := by rw [ltK, (cmpL_zero _ _ _ _).2 ⟨rfl, rfl⟩]; rfl
  trans x y z h1 h2 := by
    rw [ltK, decide_eq_true_iff] at *
    exact cmpL_lt_trans _ _ _ _ _ _ h1 h2
  ntrans x y z h1 h2 := by
    rw [ltK, decide_eq_false_iff_not] at *
    intro h
    have n1 := cmpL_neg x.1.data.toList x.2.data.toList y.1.data.toList y.2.data.toList
    have n2 := cmpL_neg y.1.data.toList y.2.data.toList z.1.data.toList z.2.data.toList
    have n3 := cmpL_neg x.1.data.toList x.2.data.toList z.1.data.toList z.2.data.toList
    have := cmpL_le_trans z.1.data.toList z.2.data.toList y.1.data.toList y.2.data.toList x.1.data.toList x.2.data.toList (by omega) (by omega)
    omega

theorem three_new (W : World) (o1 o2 o3 : Obj) : (((W.alloc o1).alloc o2).alloc o3).drew = grow (W.drewN 1) #[o1, o2, o3] := by
  rw [alloc_eq_grow, alloc_eq_grow, alloc_eq_grow, grow_grow, grow_grow]; rfl

theorem cmpLaysK (blk off size : Nat) (w : World) : CmpLays Tryz.prog 38 #[] encKey 2 cmpK blk off size w :=
  fun _ _ _ _ x y => (compare_eq x.1 x.2 y.1 y.2 _).mono fun _ _ ⟨h1, h2⟩ => ⟨h1, 1, _, h2.trans (three_new _ _ _ _)⟩

theorem enters23 : ∀ args w, (callFunc 38 args).run Tryz.prog w = .ok (.enter 38 args) w := enters_of Tryz.func38 (by kernel_rfl) rfl

theorem zsortfunc_any (blk off cap : Nat) (d : Array (ByteArray × ByteArray)) (w : World) (hH : HoldsK encKey 2 w blk off d) (hblk : blk < w.heap.size) (hsz : d.size < 4611686018427387904) :
    Calls Tryz.prog 37 #[.slice (some ⟨blk, off, none⟩) d.size cap, .func (.func 38) #[] #[]] w fun e w' =>
      e = .returned (.tuple #[]) ∧ ∃ d' n os, PermIn 0 d.size d d' ∧ SortedIn (ltOf cmpK) 0 d.size d' ∧ w' = sortWorldK encKey 2 w blk off n d' os :=
  AnyQ.slices_SortFunc Tryz.sortKey 2 Tryz.isAgg31 Tryz.sizeOf31 encKey (fun _ => rfl) (fun x v hv => by simp [encKey] at hv; rcases hv with rfl | rfl <;> rfl) cmpK swoK 38 #[] blk off cap d w enters23 (cmpLaysK blk off d.size w) hH hblk hsz

theorem zclone_any (b off n c : Nat) (news : List Value) (w : World) (hl : news.length = n * 2) (hn : n ≤ maxLen) (hbig : n * 32 ≤ 140737488355328)
    (hc : ∀ j u, news[j]? = some u → w.cell? ⟨b, off + j, none⟩ = some u) (h1 : ∀ u ∈ news, u.oneCell' = true) :
    Calls Tryz.prog 36 #[.slice (some ⟨b, off, none⟩) n c] w fun e w' => ∃ v', e = .returned v' ∧ w'.ownsRow w.heap.size 31 2 v' n news ∧ v' ≠ .slice none 0 0 ∧ Below w.heap.size w w' := by
  have hs : (Tryz.prog.info? 31).isSome = true := by kernel_rfl
  have hi : ∃ i0, Tryz.prog.info? 31 = some i0 ∧ i0.zero = some (.agg #[.string ⟨#[]⟩, .string ⟨#[]⟩]) ∧ i0.size = 2 ∧ i0.bytes = 32 :=
    ⟨(Tryz.prog.info? 31).get hs, (Option.some_get hs).symm, by kernel_rfl, by kernel_rfl, by kernel_rfl⟩
  obtain ⟨i0, e1, e2, e3, e4⟩ := hi
  exact AnyE.slices_Clone Tryz.cloneKey i0 _ 2 32 e1 e2 e3 e4 rfl (by omega) Tryz.sizeOf31 b off n c news w hl hn hbig hc h1

/-- The cells of a row of keys. -/
def cellsK (d : Array (ByteArray × ByteArray)) : List Value := d.toList.flatMap encKey

theorem below_sortWorld {B : Nat} {w0 w : World} (h : Below B w0 w) (hB : B ≤ w.heap.size) (blk off n : Nat) (d : Array (ByteArray × ByteArray)) (os : Array Obj) (hb : B ≤ blk) : Below B w0 (sortWorldK encKey 2 w blk off n d os) := by
  refine h.trans ⟨rfl, rfl, rfl, ?_, ?_⟩
  · simp [sortWorldK, putRowK]
  · intro k hk
    have hks : k < w.heap.size := by omega
    simp only [sortWorldK, grow, putRowK, putRow, mapBlock, Sort.ahead]
    rw [Array.getElem?_append_left (by simpa using hks), Array.getElem?_modify, if_neg (by omega)]

theorem flat_get (l : List (ByteArray × ByteArray)) (t : Nat) (h : t < l.length * 2) : (l.flatMap encKey)[t]? = some (encKey (l[t / 2]!))[t % 2]! := by
  induction l generalizing t with
  | nil => simp at h
  | cons x l ih =>
    rw [List.flatMap_cons]
    by_cases h2 : t < 2
    · rcases (show t = 0 ∨ t = 1 by omega) with rfl | rfl <;> simp [encKey]
    · obtain ⟨u, rfl⟩ : ∃ u, t = u + 2 := ⟨t - 2, by omega⟩
      have hl : (encKey x).length = 2 := rfl
      rw [List.getElem?_append_right (by omega), hl, show u + 2 - 2 = u by omega, ih u (by simp at h; omega), show (u + 2) / 2 = u / 2 + 1 by omega, show (u + 2) % 2 = u % 2 by omega]
      simp

theorem holds_of_heap {w : World} {g : Nat} {cur : Array Value} {e : TypeId} (d : Array (ByteArray × ByteArray)) (hheap : w.heap[g]? = some (.cells cur e (0, 0))) (htake : cur.toList.take (d.size * 2) = cellsK d) : HoldsK encKey 2 w g 0 d := by
  intro j hj
  rw [size_flatK] at hj
  have hg := flat_get d.toList j (by simpa using hj)
  have h1 : (cur.toList.take (d.size * 2))[j]? = some (encKey (d.toList[j / 2]!))[j % 2]! := by rw [htake]; exact hg
  rw [List.getElem?_take_of_lt hj] at h1
  rw [get_flatK _ _ _ _ hj]
  constructor
  · simp only [World.cell?, hheap, Nat.zero_add]
    have he : d.toList[j / 2]! = d[j / 2]! := by
      rw [getElem!_pos d (j / 2) (by omega), getElem!_pos d.toList (j / 2) (by simp; omega)]; simp
    rw [← Array.getElem?_toList, h1, he]
    rfl
  · simp [World.frozen?, hheap]

end Go.Proofs.YtinmagodckkedaaGreat.Z

/-
  Rows of keys in memory: their cells, and what a slice of keys holds.
-/
namespace Go.Proofs.YtinmagodckkedaaGreat.Z
open Go.RowKit

def cellsL (d : List (ByteArray × ByteArray)) : List Value := d.flatMap encKey

theorem cellsL_cons (x : ByteArray × ByteArray) (d : List (ByteArray × ByteArray)) : cellsL (x :: d) = .string x.1 :: .string x.2 :: cellsL d := rfl
theorem cellsL_append (d e : List (ByteArray × ByteArray)) : cellsL (d ++ e) = cellsL d ++ cellsL e := List.flatMap_append
theorem cellsL_length (d : List (ByteArray × ByteArray)) : (cellsL d).length = d.length * 2 := by
  induction d with
  | nil => rfl
  | cons x d ih => rw [cellsL_cons]; simp [ih]; omega
theorem cellsL_one (d : List (ByteArray × ByteArray)) : ∀ u ∈ cellsL d, u.oneCell' = true := by
  intro u hu
  obtain ⟨x, _, hx⟩ := List.mem_flatMap.1 hu
  simp [encKey] at hx
  rcases hx with rfl | rfl <;> rfl
theorem cellsL_get (d : List (ByteArray × ByteArray)) (i : Nat) (h : i < d.length) : (cellsL d)[i * 2]? = some (.string d[i].1) ∧ (cellsL d)[i * 2 + 1]? = some (.string d[i].2) := by
  induction d generalizing i with
  | nil => simp at h
  | cons x d ih =>
    rw [cellsL_cons]
    cases i with
    | zero => simp
    | succ i =>
      have := ih i (by simpa using h)
      rw [show (i + 1) * 2 = i * 2 + 1 + 1 by omega]
      simpa using this
theorem cellsL_set (d : List (ByteArray × ByteArray)) (i : Nat) (a b : ByteArray) (h : i < d.length) : ((cellsL d).set (i * 2) (.string a)).set (i * 2 + 1) (.string b) = cellsL (d.set i (a, b)) := by
  induction d generalizing i with
  | nil => simp at h
  | cons x d ih =>
    rw [cellsL_cons]
    cases i with
    | zero => simp [cellsL_cons]
    | succ i =>
      rw [show (i + 1) * 2 = i * 2 + 1 + 1 by omega]
      simp only [List.set_cons_succ, cellsL_cons]
      rw [ih i (by simpa using h)]
theorem cellsL_take (d : List (ByteArray × ByteArray)) (k : Nat) : (cellsL d).take (k * 2) = cellsL (d.take k) := by
  induction d generalizing k with
  | nil => simp [cellsL]
  | cons x d ih =>
    cases k with
    | zero => simp [cellsL]
    | succ k => rw [show (k + 1) * 2 = k * 2 + 1 + 1 by omega, cellsL_cons]; simp [ih, cellsL_cons]

/-- The keys d lie from off on in block b. -/
def KeysAt (w : World) (b off : Nat) (d : List (ByteArray × ByteArray)) : Prop :=
  ∀ i, (h : i < d.length) → w.cell? ⟨b, off + i * 2, none⟩ = some (.string d[i].1) ∧ w.cell? ⟨b, off + i * 2 + 1, none⟩ = some (.string d[i].2)

/-- v is a slice that holds the keys d. -/
def IsKeys (w : World) (v : Value) (d : List (ByteArray × ByteArray)) : Prop :=
  ∃ p cap, v = .slice p d.length cap ∧ (d = [] ∨ ∃ b off, p = some ⟨b, off, none⟩ ∧ KeysAt w b off d)

theorem KeysAt.kept {W w' : World} {b off : Nat} {d : List (ByteArray × ByteArray)} (h : KeysAt W b off d) (hq : Below W.heap.size W w') : KeysAt w' b off d := by
  intro i hi
  have hc := bcell hq
  obtain ⟨h1, h2⟩ := h i hi
  have lt : b < W.heap.size := by
    rcases Nat.lt_or_ge b W.heap.size with h' | h'
    · exact h'
    · simp [World.cell?, Array.getElem?_eq_none h'] at h1
  exact ⟨by rw [hc.1 _ _ lt]; exact h1, by rw [hc.1 _ _ lt]; exact h2⟩
theorem IsKeys.kept {W w' : World} {v : Value} {d : List (ByteArray × ByteArray)} (h : IsKeys W v d) (hq : Below W.heap.size W w') : IsKeys w' v d := by
  obtain ⟨p, cap, rfl, h | ⟨b, off, rfl, h⟩⟩ := h
  · exact ⟨p, cap, rfl, .inl h⟩
  · exact ⟨_, cap, rfl, .inr ⟨b, off, rfl, h.kept hq⟩⟩

/-- v is a slice of the call's own that holds the keys d. -/
def Own (w : World) (base : Nat) (v : Value) (d : List (ByteArray × ByteArray)) : Prop := w.ownsRow base 31 2 v d.length (cellsL d)

theorem Own.keysAt {w : World} {base g n cap : Nat} {d : List (ByteArray × ByteArray)} (h : Own w base (.slice (some ⟨g, 0, none⟩) n cap) d) : n = d.length ∧ KeysAt w g 0 d := by
  have hn : n = d.length := by
    rcases h.2 with ⟨h', _⟩ | ⟨_, _, _, h', _⟩
    · simp at h'
    · simp only [Value.slice.injEq] at h'; exact h'.2.1
  subst hn
  refine ⟨rfl, fun i hi => ?_⟩
  have e := cellsL_get d i hi
  rw [Nat.zero_add, World.ownsRow.cellAt h (i * 2) (by omega), World.ownsRow.cellAt h (i * 2 + 1) (by omega)]
  exact e
theorem Own.is {w : World} {base : Nat} {v : Value} {d : List (ByteArray × ByteArray)} (h : Own w base v d) : IsKeys w v d := by
  rcases h.2 with ⟨rfl, h0⟩ | ⟨g, cap, cur, rfl, _⟩
  · exact ⟨none, 0, by rw [h0], .inl (List.eq_nil_of_length_eq_zero h0)⟩
  · exact ⟨_, cap, rfl, .inr ⟨g, 0, rfl, h.keysAt.2⟩⟩

end Go.Proofs.YtinmagodckkedaaGreat.Z

/-
  The contract of SameKeys.
-/
namespace Go.Proofs.YtinmagodckkedaaGreat.Z
open Go.RowKit

theorem eqK_iff (x y : ByteArray × ByteArray) : eqK x.1 x.2 y.1 y.2 = decide (x = y) := by
  unfold eqK
  rw [Lib.toList_data, Lib.toList_data, Lib.toList_data, Lib.toList_data, Bool.eq_iff_iff, decide_eq_true_iff]
  obtain ⟨⟨⟨a⟩⟩, ⟨⟨b⟩⟩⟩ := x
  obtain ⟨⟨⟨c⟩⟩, ⟨⟨d⟩⟩⟩ := y
  simp

set_option maxHeartbeats 1000000 in
theorem zsame_any (v1 v2 : Value) (d1 d2 : List (ByteArray × ByteArray)) (w : World) (h1 : IsKeys w v1 d1) (h2 : IsKeys w v2 d2) (hl1 : d1.length ≤ maxLen) (hl2 : d2.length ≤ maxLen) :
    Calls Tryz.prog 6 #[v1, v2] w fun e w' => e = .returned (.bool (decide (d1 = d2))) ∧ ∃ n, w' = w.drewN n := by
  unfold maxLen at hl1 hl2
  obtain ⟨p1, c1, rfl, k1⟩ := h1
  obtain ⟨p2, c2, rfl, k2⟩ := h2
  by_cases hl : d1.length = d2.length
  · have hb : ((d1.length : Int) != (d2.length : Int)) = false := by simp [hl]
    rcases k1 with rfl | ⟨b1, o1, rfl, k1⟩
    · have hd : d2 = [] := by
        cases d2 with
        | nil => rfl
        | cons _ _ => simp at hl
      subst hd
      go_enter Tryz.func6, Tryz.ntmps6
      go_wp2
      refine wp_loop_rounds 1 ?_
      rw [rounds_succ]
      go_wp2
      go_ret
      exact ⟨rfl, 0, rfl⟩
    · rcases k2 with rfl | ⟨b2, o2, rfl, k2⟩
      · have hd : d1 = [] := by
          cases d1 with
          | nil => rfl
          | cons _ _ => simp at hl
        subst hd
        go_enter Tryz.func6, Tryz.ntmps6
        go_wp2
        refine wp_loop_rounds 1 ?_
        rw [rounds_succ]
        go_wp2
        go_ret
        exact ⟨rfl, 0, rfl⟩
      · have HL := hid hl
        have K1 := hid k1
        have K2 := hid k2
        clear hl k1 k2
        go_enter Tryz.func6, Tryz.ntmps6
        go_wp2
        go_loopw [5] (fun i wr => ∃ k q : Nat, k ≤ d1.length ∧ i = .int .i64 k ∧ wr = w.drewN q ∧ ∀ j, (hj : j < k) → d1[j]? = d2[j]?) (fun i _ => d1.length - (intOf i).toNat)
        case atStart => exact ⟨0, 0, by omega, rfl, rfl, fun j hj => by omega⟩
        case round =>
          obtain ⟨k, q, hk, rfl, rfl, hall⟩ := hrel
          have HA := hid hall
          clear hall
          by_cases hlt : k < d1.length
          · have hlt2 : k < d2.length := by rw [← HL.out]; exact hlt
            obtain ⟨e1, e2⟩ := K1.out k hlt
            obtain ⟨f1, f2⟩ := K2.out k hlt2
            have hne := fun W => neq_key d1[k].1 d1[k].2 d2[k].1 d2[k].2 W
            rw [eqK_iff] at hne
            have HG : Hid (d1[k]? = some d1[k] ∧ d2[k]? = some d2[k]) := ⟨List.getElem?_eq_getElem hlt, List.getElem?_eq_getElem hlt2⟩
            generalize d1[k] = x at *
            generalize d2[k] = y at *
            obtain ⟨x1, x2⟩ := x
            obtain ⟨y1, y2⟩ := y
            have i1 : (0 : Int) ≤ ↑k := by omega
            have i2 : (↑k : Int) < ↑d1.length := by omega
            have i3 : (↑k : Int) < ↑d2.length := by omega
            by_cases hxy : (x1, x2) = (y1, y2)
            · have hd : decide ((x1, x2) = (y1, y2)) = true := by simp [hxy]
              rw [hd] at hne
              have HX := hid hxy
              clear hxy hd
              go_wp2_with fail
              go_quiet (fail)
              go_wp2_with fail
              refine ⟨⟨k + 1, _, by omega, by go_num, rfl, fun j hj => ?_⟩, by simp [intOf]; omega⟩
              by_cases hjk : j = k
              · subst hjk; rw [HG.out.1, HG.out.2, HX.out]
              · exact HA.out j (by omega)
            · have hd : decide ((x1, x2) = (y1, y2)) = false := by simpa using hxy
              rw [hd] at hne
              have HX := hid hxy
              clear hxy hd
              go_wp2_with fail
              go_quiet (fail)
              go_wp2_with fail
              go_ret
              refine ⟨ret_bool ?_, q + nq, by simp⟩
              symm
              rw [decide_eq_false_iff_not]
              intro he
              apply HX.out
              have := HG.out.1
              rw [he, HG.out.2] at this
              exact (Option.some.inj this).symm
          · go_wp2
            go_ret
            refine ⟨ret_bool ?_, _, rfl⟩
            symm
            rw [decide_eq_true_iff]
            apply List.ext_getElem?
            intro j
            by_cases hj : j < k
            · exact HA.out j hj
            · have := HL.out
              rw [List.getElem?_eq_none (by omega), List.getElem?_eq_none (by omega)]
  · have hb : ((d1.length : Int) != (d2.length : Int)) = true := by rw [bne_iff_ne]; omega
    have hd : decide (d1 = d2) = false := by
      rw [decide_eq_false_iff_not]; rintro rfl; exact hl rfl
    have HD := hid hd
    clear hl k1 k2 hd
    go_enter Tryz.func6, Tryz.ntmps6
    go_wp2
    go_ret
    exact ⟨ret_bool HD.out.symm, 0, rfl⟩

end Go.Proofs.YtinmagodckkedaaGreat.Z

/-
  slices.Compact at keys, whatever their number.
-/
namespace Go.Proofs.YtinmagodckkedaaGreat.Z
open Go.RowKit Go.Lib

theorem toArray_get! (d : List (ByteArray × ByteArray)) (i : Nat) (h : i < d.length) : d.toArray[i]! = d[i] := by
  rw [getElem!_pos d.toArray i (by simpa using h)]; simp

theorem zown_at {w : World} {base g n cap : Nat} {dk : Array (ByteArray × ByteArray)} (h : Own w base (.slice (some ⟨g, 0, none⟩) n cap) dk.toList) (i : Nat) (hi : i < dk.size) :
    w.cell? ⟨g, i * 2, none⟩ = some (.string dk[i]!.1) ∧ w.cell? ⟨g, i * 2 + 1, none⟩ = some (.string dk[i]!.2) ∧ w.frozen? ⟨g, i * 2, none⟩ = false ∧ w.frozen? ⟨g, i * 2 + 1, none⟩ = false := by
  obtain ⟨rfl, hk⟩ := h.keysAt
  have := hk i (by simpa using hi)
  rw [Nat.zero_add] at this
  have e : dk.toList[i]'(by simpa using hi) = dk[i]! := by rw [getElem!_pos dk i hi]; simp
  rw [e] at this
  exact ⟨this.1, this.2, World.ownsRow.frozenAt h _, World.ownsRow.frozenAt h _⟩

theorem zown_frozen {w : World} {base g n cap : Nat} {d : List (ByteArray × ByteArray)} (h : Own w base (.slice (some ⟨g, 0, none⟩) n cap) d) (j : Nat) : w.frozen? ⟨g, j, none⟩ = false := by
  obtain ⟨rfl, _⟩ := h.keysAt
  exact World.ownsRow.frozenAt h j
theorem zown_some {w : World} {base g n cap : Nat} {d : List (ByteArray × ByteArray)} (h : Own w base (.slice (some ⟨g, 0, none⟩) n cap) d) (j : Nat) (hj : j < d.length * 2) : (w.cell? ⟨g, j, none⟩).isSome = true := by
  obtain ⟨rfl, _⟩ := h.keysAt
  rw [World.ownsRow.cellAt h j hj, List.getElem?_eq_getElem (by rw [cellsL_length]; exact hj)]
  rfl

theorem zown_store {w : World} {base g n cap : Nat} {dk : Array (ByteArray × ByteArray)} (h : Own w base (.slice (some ⟨g, 0, none⟩) n cap) dk.toList) (i : Nat) (hi : i < dk.size) (a b : ByteArray) :
    Own ((w.setCell ⟨g, i * 2, none⟩ (.string a)).setCell ⟨g, i * 2 + 1, none⟩ (.string b)) base (.slice (some ⟨g, 0, none⟩) n cap) (dk.setIfInBounds i (a, b)).toList := by
  obtain ⟨rfl, _⟩ := h.keysAt
  have h1 := (World.ownsRow.stored h (i * 2) (.string a)).1
  have h2 := (World.ownsRow.stored h1 (i * 2 + 1) (.string b)).1
  rw [cellsL_set _ _ _ _ (by simpa using hi)] at h2
  unfold Own
  simpa using h2

theorem zown_cut {w : World} {base g n cap : Nat} {xs : List Value} (h : w.ownsRow base 31 2 (.slice (some ⟨g, 0, none⟩) n cap) n xs) (k : Nat) (hk : k ≤ n) :
    w.ownsRow base 31 2 (.slice (some ⟨g, 0, none⟩) k cap) k (xs.take (k * 2)) := by
  obtain ⟨hl, h' | ⟨g', cap', cur, h', hb, hg, hnc, hcm, hcs, ht⟩⟩ := h
  · simp at h'
  · simp only [Value.slice.injEq, Option.some.injEq, Addr.mk.injEq, and_true, true_and] at h'
    obtain ⟨rfl, rfl⟩ := h'
    refine ⟨by rw [List.length_take, hl]; omega, .inr ⟨g, cap, cur, rfl, hb, hg, by omega, hcm, hcs, ?_⟩⟩
    rw [← ht, List.take_take, Nat.min_eq_left (by omega)]

theorem zown_setCells {base g k cap : Nat} {xs : List Value} : ∀ (vs : List Value) (o : Nat) (w : World), k * 2 ≤ o → w.ownsRow base 31 2 (.slice (some ⟨g, 0, none⟩) k cap) k xs →
    (w.setCells g o vs).ownsRow base 31 2 (.slice (some ⟨g, 0, none⟩) k cap) k xs
  | [], _, _, _, h => h
  | v :: vs, o, w, ho, h => by
    unfold World.setCells
    refine zown_setCells vs (o + 1) _ (by omega) ?_
    have := (World.ownsRow.stored h o v).1
    rwa [List.set_eq_of_length_le (by rw [h.1]; omega)] at this

theorem comp_done {d : List (ByteArray × ByteArray)} {kk : Nat} {dk : Array (ByteArray × ByteArray)} (hI : CompInv d.toArray d.length kk dk) : compact d = dk.toList.take kk := by
  have hs : dk.size = d.length := by simpa using hI.size
  have hlt := hI.lt
  unfold compact
  apply List.ext_getElem?
  intro j
  by_cases hj : j < kk
  · rw [hI.low j hj, List.getElem?_take_of_lt hj, List.getElem?_eq_getElem (by simp; omega), getElem!_pos dk j (by omega)]
    simp
  · rw [List.getElem?_eq_none (by rw [hI.len]; omega), List.getElem?_eq_none (by rw [List.length_take]; omega)]

set_option maxHeartbeats 2000000 in
theorem zcompact_own (g cap base : Nat) (d : List (ByteArray × ByteArray)) (w : World) (hown : Own w base (.slice (some ⟨g, 0, none⟩) d.length cap) d) (hcap : d.length ≤ cap) (hm : cap ≤ maxLen) :
    Calls Tryz.prog 39 #[.slice (some ⟨g, 0, none⟩) d.length cap] w fun e w' =>
      e = .returned (.slice (some ⟨g, 0, none⟩) (compact d).length cap) ∧ Own w' base (.slice (some ⟨g, 0, none⟩) (compact d).length cap) (compact d) ∧ Below g w w' := by
  unfold maxLen at hm
  have HO := hid hown
  clear hown
  have hsame : (∀ j, j < d.length → keeps d.toArray j = true) → compact d = d := compact_all d
  have HS := hid hsame
  clear hsame
  have heq := fun a b c d w => eql_key a b c d w
  have hneq := fun a b c d w => neq_key a b c d w
  by_cases h2 : d.length < 2
  · have h2' : (d.length : Int) < 2 := by omega
    go_enter Tryz.func39, Tryz.ntmps39
    go_wp2
    go_ret
    have e := HS.out (fun j hj => keeps_lt_one _ j (by omega))
    rw [e]
    exact ⟨rfl, HO.out, Below.refl _ _⟩
  · have h2' : ¬ (d.length : Int) < 2 := by omega
    go_enter Tryz.func39, Tryz.ntmps39
    go_wp2
    go_loopg [3] d.length (fun gh s3 wr => ∃ k q : Nat, 1 ≤ k ∧ k ≤ d.length ∧ d.length - k ≤ gh ∧ s3 = .int .i64 k ∧ wr = w.drewN q ∧ ∀ j, j < k → keeps d.toArray j = true)
    case atStart => exact ⟨1, 0, Nat.le_refl _, by omega, by omega, rfl, rfl, keeps_lt_one _⟩
    case round =>
      obtain ⟨k, q, hk1, hk, hg, rfl, rfl, hall⟩ := hrel
      have HA := hid hall
      clear hall
      by_cases hlt : k < d.length
      · have hD : d = d.toArray.toList := by simp
        have ho' : Own w base (.slice (some ⟨g, 0, none⟩) d.length cap) d.toArray.toList := by rw [← hD]; exact HO.out
        obtain ⟨a1, a2, _, _⟩ := zown_at ho' k (by simpa using hlt)
        obtain ⟨p1, p2, _, _⟩ := zown_at ho' (k - 1) (by simp; omega)
        have HV : Hid (d.toArray[k]! = d.toArray[k]! ∧ d.toArray[k - 1]! = d.toArray[k - 1]!) := ⟨rfl, rfl⟩
        have HO' := hid ho'
        clear ho' hD
        have hx : ∃ x y, d.toArray[k]! = x ∧ d.toArray[k - 1]! = y := ⟨_, _, rfl, rfl⟩
        obtain ⟨⟨x1, x2⟩, ⟨y1, y2⟩, ex, ey⟩ := hx
        rw [ex] at a1 a2
        rw [ey] at p1 p2
        have HE := hid (And.intro ex ey)
        clear ex ey HV
        have i1 : (0 : Int) ≤ ↑k - 1 := by omega
        have i2 : (↑k : Int) < ↑d.length := by omega
        have i3 : (↑k - 1 : Int) < ↑d.length := by omega
        by_cases hdup : (x1, x2) = (y1, y2)
        · obtain ⟨rfl, rfl⟩ := Prod.mk.inj hdup
          have hk2 := eqK_self x1 x2
          go_wp2_with fail
          go_quiet (fail)
          go_wp2_with fail
          have hstart : CompInv d.toArray (k + 1) k d.toArray := CompInv.start HA.out (keeps_neg (by omega) (by rw [HE.out.1, HE.out.2]))
          have HST := hid hstart
          clear hstart a1 a2 p1 p2 i1 i2 i3 hk2
          go_loopg [3, 5] d.length (fun gh s3 s5 wr => ∃ (kk k2 : Nat) (dk : Array (ByteArray × ByteArray)), s3 = .int .i64 kk ∧ s5 = .int .i64 k2 ∧ 1 ≤ k2 ∧ k + k2 ≤ d.length ∧ d.length - (k + k2) ≤ gh ∧ Own wr base (.slice (some ⟨g, 0, none⟩) d.length cap) dk.toList ∧ Below g w wr ∧ CompInv d.toArray (k + k2) kk dk)
          case atStart => exact ⟨k, 1, d.toArray, rfl, rfl, Nat.le_refl _, by omega, by omega, HO'.out, below_drewN (Below.refl _ _) _, HST.out⟩
          case round =>
            obtain ⟨kk, k2, dk, rfl, rfl, h1, hle, hg2, ho2, hb2, hI⟩ := hrel
            have hkk := hI.lt
            have hds : dk.size = d.length := by simpa using hI.size
            have HI := hid hI
            have HO2 := hid ho2
            have HB2 := hid hb2
            by_cases hlt2 : k + k2 < d.length
            · obtain ⟨a1, a2, _, _⟩ := zown_at ho2 (k + k2) (by omega)
              obtain ⟨p1, p2, _, _⟩ := zown_at ho2 (k + k2 - 1) (by omega)
              obtain ⟨b1, b2, b3, b4⟩ := zown_at ho2 kk (by omega)
              rw [hI.high (k + k2) (by omega), show (k + k2) * 2 = k * 2 + k2 * 2 by omega] at a1 a2
              rw [hI.high (k + k2 - 1) (by omega), show (k + k2 - 1) * 2 = k * 2 + (k2 - 1) * 2 by omega] at p1 p2
              have hx : ∃ x y, d.toArray[k + k2]! = x ∧ d.toArray[k + k2 - 1]! = y := ⟨_, _, rfl, rfl⟩
              obtain ⟨⟨u1, u2⟩, ⟨v1, v2⟩, ex, ey⟩ := hx
              rw [ex] at a1 a2
              rw [ey] at p1 p2
              have HU := hid (And.intro ex ey)
              clear ex ey ho2 hb2 hI
              generalize dk[kk]!.1 = o1 at *
              generalize dk[kk]!.2 = o2 at *
              have i1 : (0 : Int) ≤ ↑k2 - 1 := by omega
              have i2 : (↑k2 : Int) < ↑(d.length - k) := by omega
              have i3 : (↑k2 - 1 : Int) < ↑(d.length - k) := by omega
              by_cases huv : (u1, u2) = (v1, v2)
              · obtain ⟨rfl, rfl⟩ := Prod.mk.inj huv
                have hk2 := eqK_self u1 u2
                go_wp2_with fail
                go_quiet (fail)
                go_wp2_with fail
                go_roundg (d.length - (k + (k2 + 1)))
                case measure => omega
                case rel => exact ⟨kk, k2 + 1, dk, rfl, by go_num, by omega, by omega, Nat.le_refl _, HO2.out, below_drewN HB2.out _, HI.out.skip (keeps_neg (by omega) (by rw [HU.out.1, HU.out.2]))⟩
              · have hk2 : eqK u1 u2 v1 v2 = false := by rw [eqK_iff (u1, u2) (v1, v2)]; simpa using huv
                have HN := hid huv
                clear huv
                go_wp2_with fail
                go_quiet (fail)
                go_wp2_with fail
                go_roundg (d.length - (k + (k2 + 1)))
                case measure => omega
                case rel =>
                  refine ⟨kk + 1, k2 + 1, dk.setIfInBounds kk (u1, u2), by go_num, by go_num, by omega, by omega, Nat.le_refl _, zown_store HO2.out kk (by omega) u1 u2, below_drewN ((HB2.out.setCell (Nat.le_refl _) _).setCell (Nat.le_refl _) _) _, ?_⟩
                  have := HI.out.keep (by simpa using hlt2) (keeps_pos (by rw [HU.out.1, HU.out.2]; exact HN.out))
                  rwa [HU.out.1] at this
            · have hend : k + k2 = d.length := by omega
              have hcl : ∀ ty, (Builtin.clear_ #[23] ty #[.slice (some ⟨g, kk * 2, none⟩) (d.length - kk) (cap - kk)]).run Tryz.prog wr = .ok (.tuple #[]) (wr.setCells g (kk * 2) (List.replicate ((d.length - kk) * 2) (.string ⟨#[]⟩))) := by
                intro ty
                refine run_clear_key wr ty g (kk * 2) (d.length - kk) (cap - kk) (by omega) ?_ ?_
                · intro j hj
                  exact zown_some ho2 _ (by rw [Array.length_toList]; omega)
                · intro j _
                  exact zown_frozen ho2 _
              generalize hz : List.replicate ((d.length - kk) * 2) (Value.string ⟨#[]⟩) = zs at hcl
              have hdone : compact d = dk.toList.take kk := by
                rw [hend] at hI
                exact comp_done hI
              have HD := hid hdone
              clear hz hdone hI ho2 hb2
              have hlen0 : ¬ k + k2 < d.length := hlt2
              go_wp2_with fail
              go_ret
              have hlk : (compact d).length = kk := by rw [HD.out, List.length_take, Array.length_toList]; omega
              rw [hlk]
              refine ⟨rfl, ?_, below_setCells g (Nat.le_refl _) _ _ HB2.out⟩
              have ho3 := HO2.out
              have hl3 : dk.toList.length = d.length := by rw [Array.length_toList]; exact hds
              unfold Own at ho3 ⊢
              rw [hl3] at ho3
              have h4 := zown_setCells zs (kk * 2) wr (Nat.le_refl _) (zown_cut ho3 kk (by omega))
              rw [cellsL_take, ← HD.out] at h4
              rw [hlk]
              exact h4
        · have hk2 : eqK x1 x2 y1 y2 = false := by rw [eqK_iff (x1, x2) (y1, y2)]; simpa using hdup
          have HN := hid hdup
          clear hdup
          go_wp2_with fail
          go_quiet (fail)
          go_wp2_with fail
          go_roundg (d.length - (k + 1))
          case measure => omega
          case rel =>
            refine ⟨k + 1, q + nq, by omega, by omega, Nat.le_refl _, by go_num, by simp, fun j hj => ?_⟩
            by_cases e : j = k
            · subst e
              exact keeps_pos (by rw [HE.out.1, HE.out.2]; exact HN.out)
            · exact HA.out j (by omega)
      · have hkd : k = d.length := by omega
        have e := HS.out (fun j hj => HA.out j (by omega))
        have HE := hid e
        clear e hkd
        go_wp2
        go_ret
        rw [HE.out]
        exact ⟨rfl, HO.out, below_drewN (Below.refl _ _) _⟩

end Go.Proofs.YtinmagodckkedaaGreat.Z

/-
  Lists of keys that rise: one for each set of keys.
-/
namespace Go.Proofs.YtinmagodckkedaaGreat.Z
open Go.Lib Go.Sort

/-- x stands ahead of y. -/
def ahead (x y : ByteArray × ByteArray) : Prop := cmpK x y < 0

theorem ahead_iff (x y : ByteArray × ByteArray) : ltOf cmpK x y = true ↔ ahead x y := by
  unfold ltOf ahead; rw [decide_eq_true_iff]
theorem ahead_irrefl (x : ByteArray × ByteArray) : ¬ ahead x x := by
  unfold ahead cmpK; rw [cmpI_eq, (cmpL_zero _ _ _ _).2 ⟨rfl, rfl⟩]; omega
theorem ahead_trans {x y z : ByteArray × ByteArray} (h1 : ahead x y) (h2 : ahead y z) : ahead x z := cmpL_lt_trans _ _ _ _ _ _ h1 h2
theorem ahead_total (x y : ByteArray × ByteArray) : ahead x y ∨ x = y ∨ ahead y x := by
  have hn : cmpK y x = - cmpK x y := cmpL_neg _ _ _ _
  have hr : cmpK x y = -1 ∨ cmpK x y = 0 ∨ cmpK x y = 1 := cmpL_range _ _ _ _
  rcases hr with h | h | h
  · left; unfold ahead; omega
  · right; left
    obtain ⟨h1, h2⟩ := (cmpL_zero _ _ _ _).1 h
    obtain ⟨⟨⟨a⟩⟩, ⟨⟨b⟩⟩⟩ := x
    obtain ⟨⟨⟨c⟩⟩, ⟨⟨d⟩⟩⟩ := y
    simp at h1 h2
    rw [h1, h2]
  · right; right; unfold ahead; omega

def Rises (r : List (ByteArray × ByteArray)) : Prop := r.Pairwise ahead

theorem rises_uniq {r s : List (ByteArray × ByteArray)} (hr : Rises r) (hs : Rises s) (h : ∀ x, x ∈ r ↔ x ∈ s) : r = s := by
  induction r generalizing s with
  | nil =>
    cases s with
    | nil => rfl
    | cons y s => exact absurd ((h y).2 (List.mem_cons_self ..)) (by simp)
  | cons x r ih =>
    cases s with
    | nil => exact absurd ((h x).1 (List.mem_cons_self ..)) (by simp)
    | cons y s =>
      obtain ⟨hx, hr'⟩ := List.pairwise_cons.1 hr
      obtain ⟨hy, hs'⟩ := List.pairwise_cons.1 hs
      have hxy : x = y := by
        rcases List.mem_cons.1 ((h x).1 (List.mem_cons_self ..)) with e | e
        · exact e
        · rcases List.mem_cons.1 ((h y).2 (List.mem_cons_self ..)) with e' | e'
          · exact e'.symm
          · exact absurd (ahead_trans (hx y e') (hy x e)) (ahead_irrefl x)
      subst hxy
      rw [ih hr' hs' fun z => ?_]
      constructor
      · intro hz
        rcases List.mem_cons.1 ((h z).1 (List.mem_cons_of_mem _ hz)) with e | e
        · exact absurd (hx z hz) (by rw [e]; exact ahead_irrefl _)
        · exact e
      · intro hz
        rcases List.mem_cons.1 ((h z).2 (List.mem_cons_of_mem _ hz)) with e | e
        · exact absurd (hy z hz) (by rw [e]; exact ahead_irrefl _)
        · exact e

theorem compact_rises (d : Array (ByteArray × ByteArray)) (n : Nat) (hs : SortedIn (ltOf cmpK) 0 n d) : ∀ m, m ≤ n →
    Rises (compactUpTo d m) ∧ (∀ x, x ∈ compactUpTo d m → ∃ j, j < m ∧ x = d[j]!) ∧ (∀ j, j < m → d[j]! ∈ compactUpTo d m) := by
  intro m
  induction m with
  | zero => intro _; exact ⟨List.Pairwise.nil, fun x hx => by simp [compactUpTo] at hx, fun j hj => by omega⟩
  | succ m ih =>
    intro hm
    obtain ⟨h1, h2, h3⟩ := ih (by omega)
    rw [compactUpTo_succ]
    have notlt : ∀ i, i < m → ahead d[i]! d[m]! ∨ d[i]! = d[m]! := by
      intro i hi
      have := hs i m (Nat.zero_le _) hi (by omega)
      rcases ahead_total d[i]! d[m]! with h | h | h
      · exact .inl h
      · exact .inr h
      · rw [(ahead_iff _ _).2 h] at this; cases this
    by_cases hk : keeps d m = true
    · rw [if_pos hk]
      refine ⟨?_, ?_, ?_⟩
      · refine List.pairwise_append.2 ⟨h1, List.pairwise_singleton _ _, fun x hx y hy => ?_⟩
        rw [List.mem_singleton] at hy
        subst hy
        obtain ⟨j, hj, rfl⟩ := h2 x hx
        have hne : d[m]! ≠ d[m - 1]! := by
          have : m = 0 ∨ d[m]! ≠ d[m - 1]! := by simpa [keeps] using hk
          rcases this with h | h
          · omega
          · exact h
        have hlast : ahead d[m - 1]! d[m]! := by
          rcases notlt (m - 1) (by omega) with h | h
          · exact h
          · exact absurd h.symm hne
        by_cases hjm : j = m - 1
        · rw [hjm]; exact hlast
        · have := hs j (m - 1) (Nat.zero_le _) (by omega) (by omega)
          rcases ahead_total d[j]! d[m - 1]! with h | h | h
          · exact ahead_trans h hlast
          · rw [h]; exact hlast
          · rw [(ahead_iff _ _).2 h] at this; cases this
      · intro x hx
        rcases List.mem_append.1 hx with h | h
        · obtain ⟨j, hj, e⟩ := h2 x h
          exact ⟨j, by omega, e⟩
        · exact ⟨m, by omega, List.mem_singleton.1 h⟩
      · intro j hj
        by_cases hjm : j = m
        · subst hjm; exact List.mem_append_right _ (List.mem_singleton.2 rfl)
        · exact List.mem_append_left _ (h3 j (by omega))
    · have hk' : keeps d m = false := by simpa using hk
      rw [if_neg hk, List.append_nil]
      refine ⟨h1, fun x hx => ?_, fun j hj => ?_⟩
      · obtain ⟨j, hj, e⟩ := h2 x hx
        exact ⟨j, by omega, e⟩
      · by_cases hjm : j = m
        · subst hjm
          have : j ≠ 0 ∧ d[j]! = d[j - 1]! := by simpa [keeps] using hk'
          rw [this.2]
          exact h3 (j - 1) (by have := this.1; omega)
        · exact h3 j (by omega)

/-- What sorting and compacting makes of a list: it rises, and holds the same keys. -/
theorem sorted_compact (l : List (ByteArray × ByteArray)) (d : Array (ByteArray × ByteArray)) (hp : PermIn 0 l.length l.toArray d) (hs : SortedIn (ltOf cmpK) 0 l.length d) :
    Rises (compact d.toList) ∧ (∀ x, x ∈ compact d.toList ↔ x ∈ l) ∧ d.size = l.length := by
  obtain ⟨h1, _, h3⟩ := hp
  have hsz : d.size = l.length := by simpa using h1
  have hperm : d.toList.Perm l := by
    have e1 : (d.extract 0 l.length).toList = d.toList := by rw [← hsz]; simp
    have e2 : (l.toArray.extract 0 l.length).toList = l := by simp
    rw [e1, e2] at h3
    exact h3
  have hd : d.toList.toArray = d := by simp
  obtain ⟨r1, r2, r3⟩ := compact_rises d l.length hs l.length (Nat.le_refl _)
  have e : compact d.toList = compactUpTo d l.length := by
    unfold compact
    rw [hd, Array.length_toList, hsz]
  rw [e]
  refine ⟨r1, fun x => ?_, hsz⟩
  rw [← hperm.mem_iff]
  constructor
  · intro hx
    obtain ⟨j, hj, rfl⟩ := r2 x hx
    rw [getElem!_pos d j (by omega)]
    exact Array.getElem_mem_toList ..
  · intro hx
    obtain ⟨j, hj, rfl⟩ := List.mem_iff_getElem.1 hx
    have hj' : j < d.size := by simpa using hj
    have := r3 j (by omega)
    rw [getElem!_pos d j hj'] at this
    simpa using this

end Go.Proofs.YtinmagodckkedaaGreat.Z

/-
  The contract of Sort of package name, whatever the number of keys.
-/
namespace Go.Proofs.YtinmagodckkedaaGreat.Z
open Go.RowKit Go.Sort Go.Lib

theorem size_putCells (enc : Value → Value) (off : Nat) (d c : Array Value) : (putCells enc off d c).size = c.size := by
  unfold putCells; simp

theorem zown_sorted {w1 : World} {base g cap n : Nat} {cur : Array Value} {os : Array Obj} (d d' : Array (ByteArray × ByteArray)) (hb : base ≤ g) (hg : g < w1.heap.size) (hheap : w1.heap[g]? = some (.cells cur 31 (0, 0)))
    (hcap : d.size ≤ cap) (hm : cap ≤ maxLen) (hsz : cur.size = cap * 2) (hH : HoldsK encKey 2 w1 g 0 d) (hd : d'.size = d.size) :
    Own (sortWorldK encKey 2 w1 g 0 n d' os) base (.slice (some ⟨g, 0, none⟩) d'.size cap) d'.toList := by
  have hH2 : HoldsK encKey 2 (sortWorldK encKey 2 w1 g 0 n d' os) g 0 d' :=
    holdsK_grow encKey 2 _ os g 0 _ (by simpa [putRowK] using hg) (holdsK_putRowK encKey 2 (Sort.ahead w1 n) g 0 _ _ (holdsK_ahead encKey 2 w1 n g 0 _ hH) hd)
  have hh : (sortWorldK encKey 2 w1 g 0 n d' os).heap[g]? = some (.cells (putCells id 0 (flatK encKey 2 d') cur) 31 (0, 0)) := by
    simp only [sortWorldK, grow, putRowK, putRow, mapBlock, Sort.ahead]
    rw [Array.getElem?_append_left (by simpa using hg), Array.getElem?_modify, if_pos rfl, hheap]
    rfl
  refine ⟨cellsL_length _, .inr ⟨g, cap, _, by simp, hb, hh, by simp; omega, hm, by rw [size_putCells, hsz], ?_⟩⟩
  apply List.ext_getElem?
  intro j
  by_cases hj : j < d'.size * 2
  · rw [List.getElem?_take_of_lt (by simpa using hj)]
    have h1 := (hH2 j (by simpa using hj)).1
    simp only [World.cell?, hh, Nat.zero_add] at h1
    rw [get_flatK _ _ _ _ hj] at h1
    have h2 := flat_get d'.toList j (by simpa using hj)
    have he : d'.toList[j / 2]! = d'[j / 2]! := by
      rw [getElem!_pos d' (j / 2) (by omega), getElem!_pos d'.toList (j / 2) (by simp; omega)]; simp
    rw [he] at h2
    have h3 : (putCells id 0 (flatK encKey 2 d') cur)[j]? = some (encKey d'[j / 2]!)[j % 2]! := h1
    rw [Array.getElem?_toList, h3]
    exact h2.symm
  · rw [List.getElem?_eq_none (by rw [List.length_take]; simp; omega), List.getElem?_eq_none (by rw [cellsL_length]; simp; omega)]

set_option maxHeartbeats 800000 in
theorem zsort_any (b off c : Nat) (d : List (ByteArray × ByteArray)) (w : World) (hk : KeysAt w b off d) (hbytes : d.length * 32 ≤ 140737488355328) :
    Calls Tryz.prog 18 #[.slice (some ⟨b, off, none⟩) d.length c] w fun e w' =>
      ∃ v r, e = .returned v ∧ Rises r ∧ (∀ x, x ∈ r ↔ x ∈ d) ∧ r.length ≤ d.length ∧ Own w' w.heap.size v r ∧ v ≠ .slice none 0 0 ∧ Below w.heap.size w w' := by
  have hnews : ∀ j u, (cellsL d)[j]? = some u → w.cell? ⟨b, off + j, none⟩ = some u := by
    intro j u hu
    have hj : j < d.length * 2 := by
      rw [← cellsL_length]
      rcases Nat.lt_or_ge j (cellsL d).length with h | h
      · exact h
      · rw [List.getElem?_eq_none h] at hu; cases hu
    obtain ⟨h1, h2⟩ := hk (j / 2) (by omega)
    obtain ⟨e1, e2⟩ := cellsL_get d (j / 2) (by omega)
    rcases Nat.mod_two_eq_zero_or_one j with hm | hm
    · have ej : j / 2 * 2 = j := by omega
      rw [ej] at h1 e1
      rw [e1] at hu
      rw [h1, ← hu]
    · have ej : j / 2 * 2 + 1 = j := by omega
      rw [Nat.add_assoc, ej] at h2
      rw [ej] at e2
      rw [e2] at hu
      rw [h2, ← hu]
  have hcl := zclone_any b off d.length c (cellsL d) w (cellsL_length d) (by unfold maxLen; omega) hbytes hnews (cellsL_one d)
  have H := hid hcl
  clear hnews hk hcl
  go_enter Tryz.func18, Tryz.ntmps18
  go_wp2_with fail
  refine H.out.mono ?_
  rintro e w1 ⟨v', rfl, ⟨hl, hor⟩, hne, hq1⟩
  rcases hor with ⟨h1, h2⟩ | ⟨g1, cap, cur, rfl, hbase, hheap, hcap, hcapm, hsz, htake⟩
  · exact absurd h1 hne
  have hg1 : g1 < w1.heap.size := by
    rcases Nat.lt_or_ge g1 w1.heap.size with h | h
    · exact h
    · rw [Array.getElem?_eq_none h] at hheap; cases hheap
  have hH : HoldsK encKey 2 w1 g1 0 d.toArray := holds_of_heap d.toArray hheap (by simpa [cellsK, cellsL] using htake)
  have hcon := zsortfunc_any g1 0 cap d.toArray w1 hH hg1 (by simp; omega)
  rw [show d.toArray.size = d.length by simp] at hcon
  have HC := hid hcon
  have HH := hid (And.intro hH (And.intro hheap hsz))
  clear hcon hH hl hne hheap htake hsz
  go_wp2_with fail
  refine HC.out.mono ?_
  rintro e w2 ⟨rfl, d', n, os, hperm, hsorted, hw2⟩
  obtain ⟨hr, hmem, hds⟩ := sorted_compact d d' hperm hsorted
  have ho2 : Own w2 w.heap.size (.slice (some ⟨g1, 0, none⟩) d'.size cap) d'.toList := by
    rw [hw2]
    exact zown_sorted d.toArray d' hbase hg1 HH.out.2.1 (by simpa using hcap) hcapm HH.out.2.2 HH.out.1 (by simpa using hds)
  have hq2 : Below w.heap.size w w2 := by
    rw [hw2]; exact below_sortWorld hq1 hq1.size g1 0 n _ os hbase
  have hcomp := zcompact_own g1 cap w.heap.size d'.toList w2 (by rw [Array.length_toList]; exact ho2) (by rw [Array.length_toList]; omega) hcapm
  rw [Array.length_toList, hds] at hcomp
  have HCC := hid hcomp
  have HR := hid (And.intro hr hmem)
  have hlen : (compact d'.toList).length ≤ d.length := by
    have h5 : (compact d'.toList).length ≤ d'.size := by
      unfold compact compactUpTo
      rw [List.length_map]
      exact Nat.le_trans (List.length_filter_le _ _) (by simp)
    exact Nat.le_trans h5 (Nat.le_of_eq hds)
  have HLEN := hid hlen
  clear hw2 hperm hsorted hcomp hr hmem ho2 hlen hds
  go_wp2_with fail
  refine HCC.out.mono ?_
  rintro e w3 ⟨rfl, ho3, hq3⟩
  go_wp2_with fail
  go_ret
  exact ⟨_, _, rfl, HR.out.1, HR.out.2, HLEN.out, ho3, by simp, hq2.trans (hq3.mono hbase)⟩

end Go.Proofs.YtinmagodckkedaaGreat.Z

/-
  The contracts of Temps and Keys of package refs.
-/
namespace Go.Proofs.YtinmagodckkedaaGreat
open Go.RowKit

def txtsX (d : List Fx) : List ByteArray := d.flatMap (·.txt)
theorem txtsX_flds (d : List Fx) : textsF (d.map Fx.fld) = txtsX d := by
  unfold textsF txtsX
  rw [List.flatMap_map]
  rfl
theorem txtsX_succ (d : List Fx) (i : Nat) (h : i < d.length) : txtsX (d.take (i + 1)) = txtsX (d.take i) ++ (d[i]).txt := by
  unfold txtsX
  rw [List.take_succ_eq_append_getElem h, List.flatMap_append]
  simp
theorem txtsX_part (d : List Fx) (i : Nat) : (txtsX (d.take i)).length ≤ (txtsX d).length := by
  have : txtsX d = txtsX (d.take i) ++ txtsX (d.drop i) := by
    unfold txtsX
    rw [← List.flatMap_append, List.take_append_drop]
  rw [this, List.length_append]
  omega
theorem txtsX_mem {d : List Fx} {t : ByteArray} : t ∈ txtsX d ↔ ∃ x ∈ d, t ∈ x.txt := by simp [txtsX]

theorem temps_sort (fs : List Fld) : sortT ((textsF fs).filterMap tempT) = tempsF fs := by
  refine rising_uniqR totB (sortT_rising _) (told_rising totB _ _) fun z => ?_
  rw [sortT_mem, List.mem_filterMap]
  exact (told_mem totB tempT (textsF fs) z).symm

set_option maxHeartbeats 4000000 in
set_option maxRecDepth 100000 in
theorem temps_any (v : Value) (d : List Fx) (w : World) (hv : IsXs w v d) (hf : FitX d) (hT : (txtsX d).length ≤ 2000000) :
    Calls Tryz.prog 9 #[v] w fun e w' => ∃ u, e = .returned u ∧ OwnT w.heap.size w' u (tempsF (d.map Fx.fld)) ∧ Below w.heap.size w w' := by
  obtain ⟨i0, hi0, hz0, hz1, hz2⟩ := info_parts Tryz.infoStr
  have HI := hid hi0
  obtain ⟨p, cap, rfl, hd, ht⟩ := hv
  have HD := hid hd
  have HX := hid ht
  have HF := hid hf.2
  have hl := hf.1
  unfold maxLen at hl
  have HTOT := hid hT
  have HEND := hid (temps_sort (d.map Fx.fld))
  rw [txtsX_flds] at HEND
  clear hd ht hf hi0 hT
  go_enter Tryz.func9, Tryz.ntmps9
  go_wp2_with fail
  go_loopg [3, 12] d.length (fun g vs vi wr => ∃ i : Nat, vi = .int .i64 i ∧ i ≤ d.length ∧ d.length - i ≤ g ∧ Hid (Below w.heap.size w wr) ∧ Hid (OwnT w.heap.size wr vs ((txtsX (d.take i)).filterMap tempT)))
  case atStart => exact ⟨0, rfl, by omega, by omega, Below.refl _ _, World.ownsRow_nil _ _ _ _⟩
  case round =>
    obtain ⟨i, rfl, hi, hgk, HB, HO⟩ := hrel
    by_cases hlt : i < d.length
    · have hltz : (i : Int) < (d.length : Int) := by omega
      have hiz : (0 : Int) ≤ i := by omega
      obtain ⟨b, off, rfl, hxs⟩ : ∃ b off, p = some ⟨b, off, none⟩ ∧ XsAt w b off d := by
        rcases HD.out with h | h
        · subst h; simp at hlt
        · exact h
      obtain ⟨c0, c1⟩ := hxs.kept HB.out i hlt
      have hxi : (d[i]).at w := HX.out _ (List.getElem_mem hlt)
      have hfi := HF.out _ (List.getElem_mem hlt)
      have hsu := txtsX_succ d i hlt
      have hpa := txtsX_part d (i + 1)
      have htot := HTOT.out
      obtain ⟨x, hx⟩ : ∃ x, d[i] = x := ⟨_, rfl⟩
      rw [hx] at c0 c1 hxi hfi hsu
      rw [hsu, List.length_append] at hpa
      obtain ⟨nm, p5, c5, ts⟩ := x
      simp only [Fx.at, Fx.sl, Fx.fld] at c0 c1 hxi hfi hsu hpa
      obtain ⟨acc, hacc⟩ : ∃ acc, (txtsX (d.take i)) = acc := ⟨_, rfl⟩
      rw [hacc] at HO hsu hpa
      have hts : acc.length + ts.length ≤ 2000000 := by omega
      have HSU := hid hsu
      have HXI := hid hxi
      have HFI := hid hfi
      have hsz := HB.out.size
      clear hxs hxi hfi hx hsu hpa htot hacc
      have HB1 := hid (HB.out.alloc hsz (.cells #[.string nm, .slice p5 ts.length c5] 40))
      have HO1 := hid (OwnT.on HO.out ((Below.refl _ wr).alloc (Nat.le_refl _) (.cells #[.string nm, .slice p5 ts.length c5] 40)))
      clear HO
      go_wp2_with fail
      go_loopg [3, 19] ts.length (fun g vs vj wr2 => ∃ j : Nat, vj = .int .i64 j ∧ j ≤ ts.length ∧ ts.length - j ≤ g ∧ Hid (Below w.heap.size w wr2) ∧ Hid (OwnT w.heap.size wr2 vs ((acc ++ ts.take j).filterMap tempT)))
      case atStart => exact ⟨0, rfl, by omega, by omega, HB1.out, by show OwnT _ _ _ _; simpa using HO1.out⟩
      case round =>
        obtain ⟨j, rfl, hj, hgj, HBJ, HOJ⟩ := hrel
        by_cases hlj : j < ts.length
        · have hljz : (j : Int) < (ts.length : Int) := by omega
          have hjz : (0 : Int) ≤ j := by omega
          obtain ⟨b2, o2, rfl, ht2⟩ : ∃ b o, p5 = some ⟨b, o, none⟩ ∧ ∀ i, (h : i < ts.length) → w.cell? ⟨b, o + i, none⟩ = some (.string ts[i]) := by
            rcases HXI.out with h | h
            · rw [h] at hlj; simp at hlj
            · exact h
          have t0 : wr.cell? ⟨b2, o2 + j, none⟩ = some (.string ts[j]) := (HBJ.out.cell (p := ⟨b2, o2 + j, none⟩) (cell_block (ht2 j hlj))).trans (ht2 j hlj)
          have htz := HFI.out.2.2 _ (List.getElem_mem hlj)
          have hst : acc ++ ts.take (j + 1) = (acc ++ ts.take j) ++ [ts[j]] := by rw [List.take_succ_eq_append_getElem hlj, List.append_assoc]
          obtain ⟨t, hte⟩ : ∃ t, ts[j] = t := ⟨_, rfl⟩
          rw [hte] at t0 htz hst
          have hal : ((acc ++ ts.take j).filterMap tempT).length ≤ 2000000 := by
            refine Nat.le_trans (List.length_filterMap_le _ _) ?_
            rw [List.length_append, List.length_take]; omega
          obtain ⟨r, bb, hT, hcall⟩ := tempOf_is t htz
          have HC := hid hcall
          have hfm : (acc ++ ts.take (j + 1)).filterMap tempT = (acc ++ ts.take j).filterMap tempT ++ (if bb then [r] else []) := by
            rw [hst, List.filterMap_append]
            congr 1
            rcases hT with ⟨h, rfl⟩ | ⟨h, rfl⟩
            · simp [h]
            · simp [h]
          obtain ⟨L, hL⟩ : ∃ L, (acc ++ ts.take j).filterMap tempT = L := ⟨_, rfl⟩
          rw [hL] at HOJ hal hfm
          have HFM := hid hfm
          have hszj := HBJ.out.size
          clear ht2 htz hst hT hcall hfm hte hL
          cases bb with
          | true =>
            go_wp2_with (first
              | (go_at_call 19; refine (HC.out _).mono ?_; rintro e w2 ⟨rfl, n2, rfl⟩)
              | (at_builtin; refine wpList_append_own _ rfl _ _ 28 rfl w.heap.size 9 i0 (.string ⟨#[]⟩) 1 16 Tryz.underlying28 HI.out hz0 hz1 hz2 rfl (by decide) _ _ _ rfl (World.ownsRow.alloc HOJ.out _) _ 1 1 [.string r] rfl rfl (fun j u hj => KT.news (wr.drewN n2) r j u hj) (by intro u hu; simp at hu; subst hu; rfl) (by unfold maxLen; omega) (by omega) (by simp; omega) ?_; intro v4 w4 hown4 hg4 hnil4; have HO4 := hid hown4; have HG4 := hid hg4; clear hown4 hg4 hnil4))
            go_roundg (ts.length - (j + 1))
            case measure => omega
            refine ⟨j + 1, by go_num, by omega, by omega, ?_, ?_⟩
            · exact ((bel_drewN HBJ.out n2).alloc hszj _).grown HG4.out (by simp; omega) (fun k hk => (World.ownsRow.lt HOJ.out k hk).1)
            · rw [HFM.out]
              show OwnT _ _ _ _
              unfold OwnT
              rw [List.length_append, List.map_append]
              exact HO4.out
          | false =>
            go_wp2_with (first
              | (go_at_call 19; refine (HC.out _).mono ?_; rintro e w2 ⟨rfl, n2, rfl⟩))
            go_roundg (ts.length - (j + 1))
            case measure => omega
            refine ⟨j + 1, by go_num, by omega, by omega, bel_drewN HBJ.out n2, ?_⟩
            rw [HFM.out, show L ++ (if false = true then [r] else []) = L by simp]
            exact HOJ.out
        · have hljz : ¬ (j : Int) < (ts.length : Int) := by omega
          have hjt : acc ++ ts.take j = txtsX (d.take (i + 1)) := by rw [HSU.out, List.take_of_length_le (by omega)]
          rw [hjt] at HOJ
          clear hjt
          go_wp2_with fail
          go_roundg (d.length - (i + 1))
          case measure => omega
          exact ⟨i + 1, by go_num, by omega, by omega, HBJ.out, HOJ.out⟩
    · have hltz : ¬ (i : Int) < (d.length : Int) := by omega
      have hti : d.take i = d := List.take_of_length_le (by omega)
      rw [hti] at HO
      obtain ⟨L, hL⟩ : ∃ L, (txtsX d).filterMap tempT = L := ⟨_, rfl⟩
      have hLl : L.length ≤ 2000000 := by rw [← hL]; exact Nat.le_trans (List.length_filterMap_le _ _) HTOT.out
      rw [hL] at HO HEND
      have hsz := HB.out.size
      clear hti hL
      go_wp2_with (first
        | (go_at_call 20; refine (sortS_own w.heap.size _ L _ HO.out hsz (by omega)).mono ?_; rintro e w2 ⟨rfl, ho2, hb2⟩; have HO2 := hid ho2; have HB2 := hid hb2; clear ho2 hb2)
        | (go_at_call 21; refine (compS_own w.heap.size _ (orderT L) _ HO2.out (Nat.le_trans hsz HB2.out.size) (by rw [orderT_len]; omega)).mono ?_; rintro e w3 ⟨u3, rfl, ho3, hb3⟩; have HO3 := hid ho3; have HB3 := hid hb3; clear ho3 hb3))
      go_ret
      refine ⟨_, rfl, ?_, (HB.out.trans HB2.out).trans HB3.out⟩
      rw [← HEND.out, ← order_once]
      exact HO3.out

end Go.Proofs.YtinmagodckkedaaGreat

/-
  The contracts of Sort of package name and of Keys of package refs.
-/
namespace Go.Proofs.YtinmagodckkedaaGreat
open Go.RowKit

theorem z_own {n0 : Nat} {w : World} {v : Value} {d : List Ky} : Z.Own w n0 v d ↔ KK.Own n0 w v d := Iff.rfl
theorem z_at {w : World} {b off : Nat} {d : List Ky} (h : KK.At w b off d) : Z.KeysAt w b off d := fun i hi => kk_at h i hi

theorem z_lt (x y : Ky) : Z.ahead x y ↔ ltKy x y = true := by
  unfold Z.ahead Z.cmpK Z.cmpI Z.orI
  rw [ltKy_true]
  unfold ltB
  rw [decide_eq_true_iff, decide_eq_true_iff]
  by_cases h : Lib.compareBytes x.1.data.toList y.1.data.toList = 0
  · rw [if_pos h]
    have e : x.1 = y.1 := ba_eq ((cb_zero _ _).1 h)
    constructor
    · intro k; exact Or.inr ⟨e, k⟩
    · rintro (k | ⟨_, k⟩)
      · omega
      · exact k
  · rw [if_neg h]
    constructor
    · intro k; exact Or.inl k
    · rintro (k | ⟨e, _⟩)
      · exact k
      · rw [e, cb_self] at h; exact absurd rfl h

theorem z_rises {r : List Ky} (h : Z.Rises r) : RisingR ltKy r := h.imp fun {x y} hxy => (z_lt x y).1 hxy
theorem z_rises' {r : List Ky} (h : RisingR ltKy r) : Z.Rises r := h.imp fun {x y} hxy => (z_lt x y).2 hxy

/-- The keys, rising, each once. -/
def sortK (ks : List Ky) : List Ky := ks.foldl (fun acc x => insR ltKy x acc) []
theorem sortK_spec (ks : List Ky) : RisingR ltKy (sortK ks) ∧ ∀ z, z ∈ sortK ks ↔ z ∈ ks := by
  have : ∀ (l acc : List Ky), RisingR ltKy acc → RisingR ltKy (l.foldl (fun acc x => insR ltKy x acc) acc) ∧ ∀ z, z ∈ l.foldl (fun acc x => insR ltKy x acc) acc ↔ z ∈ acc ∨ z ∈ l := by
    intro l
    induction l with
    | nil => intro acc h; exact ⟨h, fun z => by simp⟩
    | cons y l ih =>
      intro acc h
      obtain ⟨h1, h2⟩ := ih (insR ltKy y acc) (rising_insR totK y h)
      refine ⟨h1, fun z => ?_⟩
      rw [List.foldl_cons, h2, mem_insR, List.mem_cons]
      constructor
      · rintro ((h | h) | h)
        · exact Or.inr (Or.inl h)
        · exact Or.inl h
        · exact Or.inr (Or.inr h)
      · rintro (h | h | h)
        · exact Or.inl (Or.inr h)
        · exact Or.inl (Or.inl h)
        · exact Or.inr h
  obtain ⟨h1, h2⟩ := this ks [] List.Pairwise.nil
  exact ⟨h1, fun z => by rw [sortK, h2]; simp⟩

theorem keys_sort (fs : List Fld) : sortK ((textsF fs).filterMap namedT) = keysF fs := by
  refine rising_uniqR totK (sortK_spec _).1 (told_rising totK _ _) fun z => ?_
  rw [(sortK_spec _).2, List.mem_filterMap]
  exact (told_mem totK namedT (textsF fs) z).symm

set_option maxHeartbeats 1000000 in
theorem nsort_nil (w : World) : Calls Tryz.prog 18 #[.slice none 0 0] w fun e w' => e = .returned (.slice none 0 0) ∧ w' = w := by
  have q22 : ∀ (w : World) (a : Option Addr) (n c n' c' : Nat), (binOp .eql 23 (.slice a n c) (.slice none n' c')).run Tryz.prog w = .ok (.bool a.isNone) w := fun w a n c n' c' => Lib.run_eql_slice_nil w _ _ a n c n' c' Tryz.underlying23
  have hclone : ∀ W, Calls Tryz.prog 36 #[.slice none 0 0] W fun e w' => e = .returned (.slice none 0 0) ∧ w' = W := fun W => by
    go_enter Tryz.func36, Tryz.ntmps36
    go_wp2_with fail
    go_ret
    exact ⟨rfl, rfl⟩
  have HC := hid hclone
  clear hclone
  have hi : ∀ W, Calls Tryz.prog 73 #[.slice none 0 0, .int .i64 0, .int .i64 0, .func (.func 38) #[] #[]] W fun e w' => e = .returned (.tuple #[]) ∧ w' = W := fun W => by
    go_enter Tryz.func73, Tryz.ntmps73
    go_wp2_with fail
    refine wp_loop_rounds 1 ?_
    rw [rounds_succ]
    go_wp2_with fail
    go_end0
    exact ⟨rfl, rfl⟩
  have HI := hid hi
  clear hi
  have hp : ∀ (l : Int) W, Calls Tryz.prog 50 #[.slice none 0 0, .int .i64 0, .int .i64 0, .int .i64 l, .func (.func 38) #[] #[]] W fun e w' => e = .returned (.tuple #[]) ∧ w' = W := fun l W => by
    go_enter Tryz.func50, Tryz.ntmps50
    go_wp2_with fail
    refine wp_loop_rounds 1 ?_
    rw [rounds_succ]
    go_wp2_with (first | (go_at_call 73; refine (HI.out _).mono ?_; rintro e w1 ⟨rfl, rfl⟩))
    refine bodyPost_ret (results_none (h := Tryz.results50) _ _ _) rfl ?_
    exact ⟨rfl, rfl⟩
  have HP := hid hp
  clear hp
  have hs : ∀ W, Calls Tryz.prog 37 #[.slice none 0 0, .func (.func 38) #[] #[]] W fun e w' => e = .returned (.tuple #[]) ∧ w' = W := fun W => by
    go_enter Tryz.func37, Tryz.ntmps37
    go_wp2_with (first | (go_at_call 42; refine (Tryz.bits_Len 0 _ (by omega) (by omega)).mono ?_; rintro e w1 ⟨rfl, rfl⟩) | (go_at_call 50; refine (HP.out _ _).mono ?_; rintro e w1 ⟨rfl, rfl⟩))
    go_end0
    exact ⟨rfl, rfl⟩
  have HS := hid hs
  clear hs
  have hk : ∀ W, Calls Tryz.prog 39 #[.slice none 0 0] W fun e w' => e = .returned (.slice none 0 0) ∧ w' = W := fun W => by
    go_enter Tryz.func39, Tryz.ntmps39
    go_wp2_with fail
    go_ret
    exact ⟨rfl, rfl⟩
  have HK := hid hk
  clear hk
  go_enter Tryz.func18, Tryz.ntmps18
  go_wp2_with (first
    | (go_at_call 36; refine (HC.out _).mono ?_; rintro e w1 ⟨rfl, rfl⟩)
    | (go_at_call 37; refine (HS.out _).mono ?_; rintro e w1 ⟨rfl, rfl⟩)
    | (go_at_call 39; refine (HK.out _).mono ?_; rintro e w1 ⟨rfl, rfl⟩))
  go_ret
  exact ⟨rfl, rfl⟩

theorem nsort_own (n0 : Nat) (v : Value) (ks : List Ky) (w : World) (h : KK.Own n0 w v ks) (hl : ks.length ≤ 4000000) :
    Calls Tryz.prog 18 #[v] w fun e w' => ∃ u, e = .returned u ∧ KK.Own w.heap.size w' u (sortK ks) ∧ Below w.heap.size w w' := by
  rcases h.2 with ⟨rfl, hz⟩ | ⟨g, cap, cur, rfl, _⟩
  · obtain rfl := List.length_eq_zero_iff.1 hz
    refine (nsort_nil w).mono ?_
    rintro e w' ⟨rfl, rfl⟩
    exact ⟨_, rfl, KK.own_nil _ _, Below.refl _ _⟩
  · refine (Z.zsort_any g 0 cap ks w (z_at (Kind.own_at h)) (by omega)).mono ?_
    rintro e w' ⟨u, r, rfl, hr, hm, _, ho, _, hb⟩
    refine ⟨u, rfl, ?_, hb⟩
    have : r = sortK ks := rising_uniqR totK (z_rises hr) (sortK_spec ks).1 fun z => (hm z).trans ((sortK_spec ks).2 z).symm
    rw [← this]
    exact ho

end Go.Proofs.YtinmagodckkedaaGreat

/-
  The contract of the reference's Less.
-/
namespace Go.Proofs.YtinmagodckkedaaGreat.Z
open Go.RowKit

theorem less_eq (a b c d : ByteArray) : (Op.bytesLess a.toList c.toList || (a.toList == c.toList && Op.bytesLess b.toList d.toList)) = decide (cmpI a b c d < 0) := by
  rw [Lib.toList_data, Lib.toList_data, Lib.toList_data, Lib.toList_data]
  exact (cmpL_less _ _ _ _).symm

set_option maxHeartbeats 400000 in
theorem zless_any (a b c d : ByteArray) (w : World) :
    Calls Tryz.prog 33 #[.agg #[.string a, .string b], .agg #[.string c, .string d]] w fun e w' => e = .returned (.bool (decide (cmpI a b c d < 0))) ∧ Below w.heap.size w w' := by
  have HE : Hid ((Op.bytesLess a.toList c.toList || (a.toList == c.toList && Op.bytesLess b.toList d.toList)) = decide (cmpI a b c d < 0)) := less_eq a b c d
  have hb : Below w.heap.size w ((w.alloc (.cells #[.string a, .string b] 31)).alloc (.cells #[.string c, .string d] 31)) := ((Below.refl _ _).alloc (Nat.le_refl _) _).alloc (by simp) _
  have HB := hid hb
  clear hb
  cases h1 : Op.bytesLess a.toList c.toList
  · cases h2 : (a.toList == c.toList)
    · go_enter Tryz.func33, Tryz.ntmps33
      go_wp2
      go_ret
      exact ⟨ret_bool (by rw [← HE.out, h1, h2]; rfl), HB.out⟩
    · go_enter Tryz.func33, Tryz.ntmps33
      go_wp2
      go_ret
      exact ⟨ret_bool (by rw [← HE.out, h1, h2]; rfl), HB.out⟩
  · go_enter Tryz.func33, Tryz.ntmps33
    go_wp2
    go_ret
    exact ⟨ret_bool (by rw [← HE.out, h1]; rfl), HB.out⟩

end Go.Proofs.YtinmagodckkedaaGreat.Z
