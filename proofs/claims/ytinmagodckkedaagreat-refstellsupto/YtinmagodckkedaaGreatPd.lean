/-
  Texts of this claim, one behind the other: Enc0 Enc Grp Rmay Wri Pri Siz Fix0 Rnm Rnn Sam Fix Ncd App Sze0 Kp0 Xsp Rch Rcw Rpt Rbd Rrs Rob.
-/
import Derived.Test.YtinmagodckkedaaGreatPa
import Derived.Lib.AppendStr
import Derived.Test.YtinmagodckkedaaGreatPb
import Derived.Lib.Join
import Derived.Deep.CutRange
import Derived.Laws.CopyOwn
import Derived.Maps.AppendAt
import Derived.Laws.MakeOwn
import Derived.Deep.RegionHeld3
import Derived.BigRegion
import Derived.Shelf.SlicesQ.IndexFunc
import Derived.Test.YtinmagodckkedaaGreatPc
import Derived.Test.YtinmagodckkedaaGreatRows
import Derived.MakeChecks
import Derived.ProofKit
import Derived.OpenShut
import Derived.Lay
import Derived.Stop.Joined
import Derived.SliceStrings
import Derived.Deep.SlicePairs
import Derived.Lib.LaidU8
import Derived.SizedLaws
import Derived.ChangeSlices
import Derived.JoinedCond
import Derived.Lib.SmallJoins
import Derived.ShutString
import Derived.Below
import Derived.Deep.DeepHandedRow
/-
  The contract of withText: a text behind a row of bytes.
-/
namespace Go.Proofs.YtinmagodckkedaaGreat
open Go.RowKit

/-- v owns the bytes bs, in a row at or behind n0. -/
def OwnB (n0 : Nat) (w : World) (v : Value) (bs : List UInt8) : Prop := w.ownsRow n0 5 1 v bs.length (Lib.byteCells bs)

/-- Whatever is no row of bytes lies as it lay. -/
def KeptB (w w' : World) : Prop := ∀ (k : Nat) (o : Obj), w.heap[k]? = some o → (¬ ∃ cs fr, o = .cells cs 5 fr) → w'.heap[k]? = some o

theorem KeptB.refl (w : World) : KeptB w w := fun _ _ h _ => h
theorem KeptB.trans {a b c : World} (h : KeptB a b) (k : KeptB b c) : KeptB a c := fun i o hi hn => k i o (h i o hi hn) hn
theorem KeptB.alloc (w : World) (o : Obj) : KeptB w (w.alloc o) := fun i _ hi _ => (Below.heap_alloc w o i (Array.getElem?_eq_some_iff.1 hi).1).trans hi
theorem KeptB.grown {w w' : World} {n0 : Nat} {v : Value} {n : Nat} {xs : List Value} (hown : w.ownsRow n0 5 1 v n xs) (hg : w.grownBy w' v.ownBlock) : KeptB w w' := fun i o hi hn => by
  refine (hg.block i (Array.getElem?_eq_some_iff.1 hi).1 fun e => ?_).trans hi
  rcases hown.2 with ⟨hv, _⟩ | ⟨g, cap, cur, hv, _, hgb, _⟩
  · rw [hv] at e; cases e
  · rw [hv] at e
    have : i = g := by simpa [Value.ownBlock] using e
    subst this
    rw [hgb] at hi
    exact hn ⟨cur, (0, 0), by cases hi; rfl⟩
theorem KeptB.below {w w' : World} (h : Below w.heap.size w w') : KeptB w w' := fun i _ hi _ => (h.block i (Array.getElem?_eq_some_iff.1 hi).1).trans hi

theorem OwnB.on {n0 : Nat} {w w' : World} {v : Value} {bs : List UInt8} (h : OwnB n0 w v bs) (hb : Below w.heap.size w w') : OwnB n0 w' v bs := own_on h hb

end Go.Proofs.YtinmagodckkedaaGreat

/-
  The contracts of Encode and Size.
-/
namespace Go.Proofs.YtinmagodckkedaaGreat
open Go.RowKit

def encT (t : ByteArray) : List UInt8 := UInt8.ofNat t.size :: t.data.toList
def encF (f : Fld) : List UInt8 := encT f.1 ++ [UInt8.ofNat f.2.length] ++ f.2.flatMap encT
def encL (fs : List Fld) : List UInt8 := UInt8.ofNat fs.length :: fs.flatMap encF

theorem encT_len (t : ByteArray) : (encT t).length = t.size + 1 := by simp [encT]

theorem flat_len {α : Type} (f : α → List UInt8) (c : Nat) (l : List α) (h : ∀ x ∈ l, (f x).length ≤ c) : (l.flatMap f).length ≤ l.length * c := by
  induction l with
  | nil => simp
  | cons x l ih =>
    rw [List.flatMap_cons, List.length_append, List.length_cons, Nat.add_mul]
    have h1 := h x (by simp)
    have h2 := ih fun y hy => h y (by simp [hy])
    omega

theorem fieldB_len {l : List UInt8} (h : fieldB l = true) : l.length ≤ 32 := by
  unfold fieldB spell at h
  cases l with
  | nil => simp
  | cons c r => simp at h; simp; omega

theorem fits_parts {f : Fld} (h : fitsB f = true) : f.1.size ≤ 32 ∧ 0 < f.2.length ∧ f.2.length ≤ 8 ∧ (∀ t ∈ f.2, t.size ≤ 128) ∧ fieldB f.1.data.toList = true := by
  unfold fitsB at h
  simp only [Bool.and_eq_true, Bool.not_eq_true', decide_eq_true_eq] at h
  obtain ⟨⟨⟨h1, h2⟩, h3⟩, h4⟩ := h
  refine ⟨by simpa using fieldB_len h1, ?_, h3, fun t ht => ?_, h1⟩
  · cases hf : f.2 with
    | nil => rw [hf] at h2; simp at h2
    | cons _ _ => simp
  · rw [List.any_eq_false] at h4
    have := h4 t ht
    unfold longB at this
    simpa using this

theorem fits_texts {f : Fld} (h : fitsB f = true) (j : Nat) : ((f.2.take j).flatMap encT).length ≤ 1032 := by
  obtain ⟨_, _, h3, h4, _⟩ := fits_parts h
  have := flat_len encT 129 (f.2.take j) (fun t ht => by rw [encT_len]; have := h4 t (List.mem_of_mem_take ht); omega)
  rw [List.length_take] at this
  have h5 : min j f.2.length * 129 ≤ 8 * 129 := Nat.mul_le_mul_right _ (by omega)
  omega

theorem encF_len {f : Fld} (h : fitsB f = true) : (encF f).length ≤ 1066 := by
  have h1 := (fits_parts h).1
  have h2 := fits_texts h f.2.length
  rw [List.take_length] at h2
  unfold encF
  rw [List.length_append, List.length_append, encT_len]
  simp only [List.length_cons, List.length_nil]
  omega

theorem may_parts {fs : List Fld} (h : mayB fs = true) : fs.length ≤ 16 ∧ ∀ i, i < fs.length → stepOk fs i = true := by
  unfold mayB at h
  rw [Bool.and_eq_true, decide_eq_true_eq, List.all_eq_true] at h
  exact ⟨h.1, fun i hi => h.2 i (List.mem_range.2 hi)⟩

theorem may_fits {fs : List Fld} (h : mayB fs = true) : ∀ f ∈ fs, fitsB f = true := by
  intro f hf
  obtain ⟨i, hi, rfl⟩ := List.mem_iff_getElem.1 hf
  have := (may_parts h).2 i hi
  unfold stepOk at this
  rw [Bool.and_eq_true, List.getD_eq_getElem?_getD, List.getElem?_eq_getElem hi] at this
  exact this.1

theorem enc_ahead {fs : List Fld} (h : mayB fs = true) (i : Nat) : ((fs.take i).flatMap encF).length ≤ 17056 := by
  have := flat_len encF 1066 (fs.take i) (fun f hf => encF_len (may_fits h f (List.mem_of_mem_take hf)))
  rw [List.length_take] at this
  have h5 : min i fs.length * 1066 ≤ 16 * 1066 := Nat.mul_le_mul_right _ (by have := (may_parts h).1; omega)
  omega

/-- A field's box is no row of bytes. -/
theorem box_kept {w w' : World} {F : Nat} {cs : Array Value} {fr : Nat × Nat} (hk : KeptB w w') (h : w.heap[F]? = some (.cells cs 40 fr)) : w'.heap[F]? = some (.cells cs 40 fr) :=
  hk F _ h (by rintro ⟨cs', fr', e⟩; injection e with _ e; exact absurd e (by decide))

theorem box_cells {w w' : World} {u v : Value} (hk : KeptB (w.alloc (.cells #[u, v] 40)) w') :
    w'.cell? ⟨w.heap.size, 0, none⟩ = some u ∧ w'.cell? ⟨w.heap.size, 1, none⟩ = some v := by
  have hbx := box_kept hk (heap_alloc_new w _)
  exact ⟨by rw [Lib.cell_of_heap hbx]; rfl, by rw [Lib.cell_of_heap hbx]; rfl⟩

def encV (w' : World) (n0 : Nat) (fs : List Fld) (e : Ending) : Prop :=
  if mayB fs = true then ∃ v, e = .returned (.tuple #[v, .int .i64 0]) ∧ OwnB n0 w' v (encL fs) else e = .returned (.tuple #[.slice none 0 0, .int .i64 3])

end Go.Proofs.YtinmagodckkedaaGreat

/-
  What joins of fields in order are: each name once, in order, with all its texts.
-/
namespace Go.Proofs.YtinmagodckkedaaGreat
open Go.RowKit Go.Sort Go.Lib

/-- All texts of a name, one after the other. -/
def txtOf (fs : List Fld) (c : ByteArray) : List ByteArray := (fs.filter fun x => decide (x.1 = c)).flatMap (·.2)

def Rising (l : List Fld) : Prop := l.Pairwise fun x y => ltB x.1 y.1 = true

theorem txtOf_snoc (l : List Fld) (f : Fld) (c : ByteArray) : txtOf (l ++ [f]) c = txtOf l c ++ if f.1 = c then f.2 else [] := by
  unfold txtOf
  rw [List.filter_append, List.flatMap_append]
  by_cases e : f.1 = c
  · rw [if_pos e, List.filter_cons_of_pos (by simp [e])]; simp
  · rw [if_neg e, List.filter_cons_of_neg (by simp [e])]; simp

theorem txtOf_none {l : List Fld} {c : ByteArray} (h : ∀ f ∈ l, f.1 ≠ c) : txtOf l c = [] := by
  unfold txtOf
  rw [List.filter_eq_nil_iff.2 (fun x hx => by simpa using h x hx)]
  rfl

structure Groups (l o : List Fld) : Prop where
  rising : Rising o
  names : ∀ c, (∃ f ∈ o, f.1 = c) ↔ ∃ f ∈ l, f.1 = c
  texts : ∀ f ∈ o, f.2 = txtOf l f.1

theorem ltB_ne {a b : ByteArray} (h : ltB a b = true) : a ≠ b := by
  rintro rfl
  rw [ltB_irrefl] at h
  cases h

theorem ltB_lt_le {a b c : ByteArray} (h : ltB a b = true) (k : ltB c b = false) : ltB a c = true := by
  rcases ltB_cases b c with h1 | rfl | h1
  · exact ltB_trans h h1
  · exact h
  · rw [k] at h1; cases h1

theorem Groups.step {l o : List Fld} {f : Fld} (h : Groups l o) (hf : ∀ x ∈ l, ltB f.1 x.1 = false) : Groups (l ++ [f]) (joinStep o f) := by
  obtain ⟨h1, h2, h3⟩ := h
  have hfo : ∀ x ∈ o, ltB f.1 x.1 = false := fun x hx => by
    obtain ⟨y, hy, e⟩ := (h2 x.1).1 ⟨x, hx, rfl⟩
    rw [← e]; exact hf y hy
  rcases List.eq_nil_or_concat o with rfl | ⟨o', g, rfl⟩
  · have hl : l = [] := by
      cases l with
      | nil => rfl
      | cons y l =>
        obtain ⟨z, hz, _⟩ := (h2 y.1).2 ⟨y, by simp, rfl⟩
        simp at hz
    subst hl
    rw [joinStep_nil]
    refine ⟨List.pairwise_singleton _ _, fun c => by simp, fun x hx => ?_⟩
    rw [List.mem_singleton] at hx
    subst hx
    simp [txtOf]
  · rw [List.concat_eq_append] at *
    have hr := List.pairwise_append.1 h1
    have ho' : ∀ x ∈ o', ltB x.1 g.1 = true := fun x hx => hr.2.2 x hx g (by simp)
    have hgf := hfo g (by simp)
    by_cases e : g.1 = f.1
    · rw [joinStep_same _ _ _ e]
      refine ⟨?_, fun c => ?_, fun x hx => ?_⟩
      · refine List.pairwise_append.2 ⟨hr.1, List.pairwise_singleton _ _, fun a ha b hb => ?_⟩
        rw [List.mem_singleton] at hb
        subst hb
        exact ho' a ha
      · have := h2 c
        constructor
        · rintro ⟨x, hx, rfl⟩
          rw [List.mem_append, List.mem_singleton] at hx
          rcases hx with hx | rfl
          · obtain ⟨y, hy, ey⟩ := (h2 x.1).1 ⟨x, by simp [hx], rfl⟩
            exact ⟨y, by simp [hy], ey⟩
          · exact ⟨f, by simp, e.symm⟩
        · rintro ⟨y, hy, rfl⟩
          rw [List.mem_append, List.mem_singleton] at hy
          rcases hy with hy | rfl
          · obtain ⟨x, hx, ex⟩ := this.2 ⟨y, hy, rfl⟩
            rw [List.mem_append, List.mem_singleton] at hx
            rcases hx with hx | rfl
            · exact ⟨x, by simp [hx], ex⟩
            · exact ⟨_, List.mem_append_right _ (List.mem_singleton.2 rfl), ex⟩
          · exact ⟨_, List.mem_append_right _ (List.mem_singleton.2 rfl), e⟩
      · rw [List.mem_append, List.mem_singleton] at hx
        rcases hx with hx | rfl
        · rw [txtOf_snoc, if_neg (fun k => ltB_ne (ho' x hx) (k.symm.trans e.symm)), List.append_nil]
          exact h3 x (by simp [hx])
        · show g.2 ++ f.2 = txtOf (l ++ [f]) g.1
          rw [txtOf_snoc, if_pos e.symm, ← h3 g (by simp)]
    · rw [joinStep_other _ _ _ e]
      have hgf' : ltB g.1 f.1 = true := by
        rcases ltB_cases g.1 f.1 with k | k | k
        · exact k
        · exact absurd k e
        · rw [hgf] at k; cases k
      have hlt : ∀ x ∈ o' ++ [g], ltB x.1 f.1 = true := fun x hx => by
        rw [List.mem_append, List.mem_singleton] at hx
        rcases hx with hx | rfl
        · exact ltB_trans (ho' x hx) hgf'
        · exact hgf'
      refine ⟨?_, fun c => ?_, fun x hx => ?_⟩
      · refine List.pairwise_append.2 ⟨h1, List.pairwise_singleton _ _, fun a ha b hb => ?_⟩
        rw [List.mem_singleton] at hb
        subst hb
        exact hlt a ha
      · constructor
        · rintro ⟨x, hx, rfl⟩
          rw [List.mem_append, List.mem_singleton] at hx
          rcases hx with hx | rfl
          · obtain ⟨y, hy, ey⟩ := (h2 x.1).1 ⟨x, hx, rfl⟩
            exact ⟨y, List.mem_append_left _ hy, ey⟩
          · exact ⟨x, by simp, rfl⟩
        · rintro ⟨y, hy, rfl⟩
          rw [List.mem_append, List.mem_singleton] at hy
          rcases hy with hy | rfl
          · obtain ⟨x, hx, ex⟩ := (h2 y.1).2 ⟨y, hy, rfl⟩
            exact ⟨x, List.mem_append_left _ hx, ex⟩
          · exact ⟨y, by simp, rfl⟩
      · rw [List.mem_append, List.mem_singleton] at hx
        rcases hx with hx | rfl
        · rw [txtOf_snoc, if_neg (fun k => ltB_ne (hlt x hx) k.symm), List.append_nil]
          exact h3 x hx
        · rw [txtOf_snoc, if_pos rfl, txtOf_none, List.nil_append]
          intro y hy k
          obtain ⟨z, hz, ez⟩ := (h2 y.1).2 ⟨y, hy, rfl⟩
          exact ltB_ne (hlt z hz) (ez.trans k)

theorem joinS_groups (l : List Fld) (h : InOrder l) : Groups l (joinS l) := by
  have : ∀ k, k ≤ l.length → Groups (l.take k) (joinS (l.take k)) := by
    intro k
    induction k with
    | zero => intro _; exact ⟨List.Pairwise.nil, fun c => by simp [joinS], fun f hf => by simp [joinS] at hf⟩
    | succ k ih =>
      intro hk
      rw [List.take_succ_eq_append_getElem hk, joinS_snoc]
      refine (ih (by omega)).step fun x hx => ?_
      have h1 : InOrder (l.take (k + 1)) := h.sublist (List.take_sublist _ _)
      rw [List.take_succ_eq_append_getElem hk] at h1
      exact (List.pairwise_append.1 h1).2.2 x hx _ (by simp)
  have := this l.length (Nat.le_refl _)
  rwa [List.take_length] at this

theorem normF_groups (fs : List Fld) : Groups fs (normF fs) := by
  obtain ⟨h1, h2⟩ := sortS_spec fs
  obtain ⟨g1, g2, g3⟩ := joinS_groups _ h1
  have hm : ∀ c, (∃ f ∈ sortS fs, f.1 = c) ↔ ∃ f ∈ fs, f.1 = c := fun c => by
    have e := h2 c
    constructor
    · rintro ⟨f, hf, rfl⟩
      have : f ∈ fs.filter (fun x => decide (x.1 = f.1)) := by rw [← e]; exact List.mem_filter.2 ⟨hf, by simp⟩
      exact ⟨f, (List.mem_filter.1 this).1, rfl⟩
    · rintro ⟨f, hf, rfl⟩
      have : f ∈ (sortS fs).filter (fun x => decide (x.1 = f.1)) := by rw [e]; exact List.mem_filter.2 ⟨hf, by simp⟩
      exact ⟨f, (List.mem_filter.1 this).1, rfl⟩
  refine ⟨g1, fun c => (g2 c).trans (hm c), fun f hf => ?_⟩
  rw [g3 f hf]
  unfold txtOf
  rw [h2]

/-- Groups are one. -/
theorem groups_unique {l o p : List Fld} (h : Groups l o) (k : Groups l p) : o = p := by
  refine order_unique o p (h.rising.imp fun hxy => ltB_asymm hxy) (k.rising.imp fun hxy => ltB_asymm hxy) fun c => ?_
  have one : ∀ {q : List Fld}, Groups l q → q.filter (fun x => decide (x.1 = c)) = if ∃ f ∈ l, f.1 = c then [(c, txtOf l c)] else [] := by
    intro q hq
    split
    · rename_i hex
      obtain ⟨f, hf, rfl⟩ := (hq.names c).2 hex
      obtain ⟨a, b, rfl⟩ := List.append_of_mem hf
      have hr := List.pairwise_append.1 hq.rising
      have hr2 := List.pairwise_cons.1 hr.2.1
      have ha : a.filter (fun x => decide (x.1 = f.1)) = [] := List.filter_eq_nil_iff.2 fun x hx e => ltB_ne (hr.2.2 x hx f (by simp)) (by simpa using e)
      have hb : b.filter (fun x => decide (x.1 = f.1)) = [] := List.filter_eq_nil_iff.2 fun x hx e => ltB_ne (hr2.1 x hx) (Eq.symm (of_decide_eq_true e))
      rw [List.filter_append, ha, List.filter_cons_of_pos (by simp), hb, List.nil_append, ← hq.texts f (by simp)]
    · rename_i hex
      refine List.filter_eq_nil_iff.2 fun x hx e => hex ((hq.names c).1 ⟨x, hx, by simpa using e⟩)
  rw [one h, one k]

/-- The least name above the last one, of these; none: the empty one. -/
def scanStep (last nx : ByteArray) (f : Fld) : ByteArray := if ltB last f.1 && (decide (nx.size = 0) || ltB f.1 nx) then f.1 else nx
def scanN (last : ByteArray) (fs : List Fld) : ByteArray := fs.foldl (scanStep last) ⟨#[]⟩

theorem scanN_snoc (last : ByteArray) (l : List Fld) (f : Fld) : scanN last (l ++ [f]) = scanStep last (scanN last l) f := by simp [scanN]

theorem scan_spec (last : ByteArray) (fs : List Fld) (hne : ∀ f ∈ fs, f.1.size ≠ 0) :
    (scanN last fs = ⟨#[]⟩ ∧ ∀ f ∈ fs, ltB last f.1 = false) ∨ ((scanN last fs).size ≠ 0 ∧ (∃ f ∈ fs, f.1 = scanN last fs) ∧ ltB last (scanN last fs) = true ∧ ∀ g ∈ fs, ltB last g.1 = true → ltB g.1 (scanN last fs) = false) := by
  have : ∀ k, k ≤ fs.length → (scanN last (fs.take k) = ⟨#[]⟩ ∧ ∀ f ∈ fs.take k, ltB last f.1 = false) ∨ ((scanN last (fs.take k)).size ≠ 0 ∧ (∃ f ∈ fs.take k, f.1 = scanN last (fs.take k)) ∧ ltB last (scanN last (fs.take k)) = true ∧ ∀ g ∈ fs.take k, ltB last g.1 = true → ltB g.1 (scanN last (fs.take k)) = false) := by
    intro k
    induction k with
    | zero => intro _; left; exact ⟨rfl, fun f hf => by simp at hf⟩
    | succ k ih =>
      intro hk
      have ih := ih (by omega)
      rw [List.take_succ_eq_append_getElem hk, scanN_snoc]
      have hnf : (fs[k]).1.size ≠ 0 := hne _ (List.getElem_mem hk)
      generalize fs[k] = f at hnf ⊢
      generalize fs.take k = l at ih ⊢
      generalize scanN last l = r at ih ⊢
      unfold scanStep
      cases c1 : ltB last f.1 with
      | false =>
        rw [Bool.false_and, if_neg (by simp)]
        rcases ih with ⟨i1, i2⟩ | ⟨i1, ⟨x, hx, ex⟩, i3, i4⟩
        · left
          refine ⟨i1, fun x hx => ?_⟩
          rw [List.mem_append, List.mem_singleton] at hx
          rcases hx with hx | rfl
          · exact i2 x hx
          · exact c1
        · right
          refine ⟨i1, ⟨x, by simp [hx], ex⟩, i3, fun g hg hl => ?_⟩
          rw [List.mem_append, List.mem_singleton] at hg
          rcases hg with hg | rfl
          · exact i4 g hg hl
          · rw [c1] at hl; cases hl
      | true =>
        rcases ih with ⟨i1, i2⟩ | ⟨i1, ⟨x, hx, ex⟩, i3, i4⟩
        · have : decide (r.size = 0) = true := by rw [i1]; rfl
          rw [this, if_pos (by simp)]
          right
          refine ⟨hnf, ⟨f, by simp, rfl⟩, c1, fun g hg hl => ?_⟩
          rw [List.mem_append, List.mem_singleton] at hg
          rcases hg with hg | rfl
          · rw [i2 g hg] at hl; cases hl
          · exact ltB_irrefl _
        · rw [decide_eq_false i1, Bool.false_or, Bool.true_and]
          right
          cases c2 : ltB f.1 r with
          | true =>
            rw [if_pos rfl]
            refine ⟨hnf, ⟨f, by simp, rfl⟩, c1, fun g hg hl => ?_⟩
            rw [List.mem_append, List.mem_singleton] at hg
            rcases hg with hg | rfl
            · have := i4 g hg hl
              cases c3 : ltB g.1 f.1 with
              | false => rfl
              | true => rw [ltB_trans c3 c2] at this; cases this
            · exact ltB_irrefl _
          | false =>
            rw [if_neg (by simp)]
            refine ⟨i1, ⟨x, by simp [hx], ex⟩, i3, fun g hg hl => ?_⟩
            rw [List.mem_append, List.mem_singleton] at hg
            rcases hg with hg | rfl
            · exact i4 g hg hl
            · exact c2
  have h := this fs.length (Nat.le_refl _)
  rwa [List.take_length] at h

theorem ltB_nil {c : ByteArray} (h : c.size ≠ 0) : ltB ⟨#[]⟩ c = true := by
  rcases ltB_cases ⟨#[]⟩ c with k | k | k
  · exact k
  · rw [← k] at h; exact absurd rfl h
  · unfold ltB at k
    rw [decide_eq_true_iff] at k
    exfalso
    have e : (ByteArray.mk #[]).data.toList = [] := rfl
    rw [e] at k
    cases hc : c.data.toList with
    | nil => rw [hc] at k; simp [Lib.compareBytes] at k
    | cons x l => rw [hc] at k; simp [Lib.compareBytes] at k

/-- The name of the group behind the first k of them. -/
def lastOf (o : List Fld) (k : Nat) : ByteArray := if k = 0 then ⟨#[]⟩ else (o.getD (k - 1) default).1

theorem Rising.get {o : List Fld} (h : Rising o) {i j : Nat} (hij : i < j) (hj : j < o.length) : ltB (o[i]'(by omega)).1 (o[j]).1 = true := by
  exact List.pairwise_iff_getElem.1 h i j (by omega) hj hij

theorem scan_next {fs o : List Fld} (h : Groups fs o) (hne : ∀ f ∈ fs, f.1.size ≠ 0) (k : Nat) (hk : k ≤ o.length) : scanN (lastOf o k) fs = if hlt : k < o.length then (o[k]).1 else ⟨#[]⟩ := by
  have hno : ∀ f ∈ o, f.1.size ≠ 0 := fun f hf => by
    obtain ⟨g, hg, e⟩ := (h.names f.1).1 ⟨f, hf, rfl⟩
    rw [← e]; exact hne g hg
  have hge : ∀ j, (hj : j < o.length) → k ≤ j → ltB (lastOf o k) (o[j]).1 = true := fun j hj hkj => by
    unfold lastOf
    split
    · exact ltB_nil (hno _ (List.getElem_mem hj))
    · rw [List.getD_eq_getElem?_getD, List.getElem?_eq_getElem (show k - 1 < o.length by omega)]
      exact h.rising.get (by omega) hj
  have hlt : ∀ j, (hj : j < o.length) → j < k → ltB (lastOf o k) (o[j]).1 = false := fun j hj hkj => by
    unfold lastOf
    rw [if_neg (by omega), List.getD_eq_getElem?_getD, List.getElem?_eq_getElem (show k - 1 < o.length by omega)]
    show ltB (o[k - 1]).1 (o[j]).1 = false
    by_cases e : j = k - 1
    · subst e; exact ltB_irrefl _
    · exact ltB_asymm (h.rising.get (show j < k - 1 by omega) (by omega))
  rcases scan_spec (lastOf o k) fs hne with ⟨s1, s2⟩ | ⟨s1, ⟨x, hx, ex⟩, s3, s4⟩
  · rw [s1, dif_neg]
    intro hk'
    obtain ⟨y, hy, ey⟩ := (h.names (o[k]).1).1 ⟨_, List.getElem_mem hk', rfl⟩
    have h1 := s2 y hy
    rw [ey, hge k hk' (Nat.le_refl _)] at h1
    cases h1
  · obtain ⟨z, hz, ez⟩ := (h.names x.1).2 ⟨x, hx, rfl⟩
    obtain ⟨j, hj, rfl⟩ := List.mem_iff_getElem.1 hz
    have hjk : k ≤ j := by
      refine Nat.le_of_not_lt fun hjk => ?_
      have h1 := hlt j hj hjk
      rw [ez, ex, s3] at h1
      cases h1
    have hk' : k < o.length := by omega
    rw [dif_pos hk', ← ex, ← ez]
    have h2 : ¬ k < j := fun hkj => by
      obtain ⟨y, hy, ey⟩ := (h.names (o[k]).1).1 ⟨_, List.getElem_mem hk', rfl⟩
      have h1 := s4 y hy (by rw [ey]; exact hge k hk' (Nat.le_refl _))
      rw [ey, ← ex, ← ez, h.rising.get hkj hj] at h1
      cases h1
    obtain rfl : k = j := by omega
    rfl

theorem scan_size {fs o : List Fld} (h : Groups fs o) (hne : ∀ f ∈ fs, f.1.size ≠ 0) {k : Nat} (hk : k < o.length) : (o[k]).1.size ≠ 0 := by
  obtain ⟨g, hg, e⟩ := (h.names (o[k]).1).1 ⟨_, List.getElem_mem hk, rfl⟩
  rw [← e]; exact hne g hg

/-- A group's texts, nine of them at most. -/
def capF (f : Fld) : Fld := (f.1, f.2.take 9)

theorem cap_getD (o : List Fld) (i : Nat) : ((o.map capF).getD i default).1 = (o.getD i default).1 := by
  rw [List.getD_eq_getElem?_getD, List.getD_eq_getElem?_getD, List.getElem?_map]
  cases o[i]? with
  | none => rfl
  | some _ => rfl

theorem cap_id {f : Fld} (h : f.2.length ≤ 8) : capF f = f := by
  unfold capF
  rw [List.take_of_length_le (by omega)]

theorem cap_map {o : List Fld} (h : ∀ f ∈ o, f.2.length ≤ 8) : o.map capF = o := by
  induction o with
  | nil => rfl
  | cons f o ih => rw [List.map_cons, cap_id (h f (by simp)), ih (fun g hg => h g (by simp [hg]))]

theorem cap_may (o : List Fld) : mayB (o.map capF) = mayB o := by
  by_cases hs : ∀ f ∈ o, f.2.length ≤ 8
  · rw [cap_map hs]
  · have hno : ∃ f ∈ o, ¬ f.2.length ≤ 8 := by
      refine Classical.byContradiction fun hc => hs fun f hf => Classical.byContradiction fun hl => hc ⟨f, hf, hl⟩
    obtain ⟨f, hf, hl⟩ := hno
    have e1 : mayB o = false := by
      cases hm : mayB o with
      | false => rfl
      | true => have := (fits_parts (may_fits hm f hf)).2.2.1; omega
    have e2 : mayB (o.map capF) = false := by
      cases hm : mayB (o.map capF) with
      | false => rfl
      | true =>
        have := (fits_parts (may_fits hm (capF f) (List.mem_map.2 ⟨f, hf, rfl⟩))).2.2.1
        simp only [capF, List.length_take] at this
        omega
    rw [e1, e2]

/-- What the reference asks at its end. -/
theorem cap_end (o : List Fld) : (decide (16 < o.length) || !mayB ((o.take 17).map capF)) = !mayB o := by
  by_cases h : 16 < o.length
  · rw [decide_eq_true h, may_long h]; rfl
  · rw [decide_eq_false h, Bool.false_or, List.take_of_length_le (by omega), cap_may]

theorem cap_same {o : List Fld} (h : mayB o = true) : (o.take 17).map capF = o := by
  have := (may_parts h).1
  rw [List.take_of_length_le (by omega), cap_map fun f hf => (fits_parts (may_fits h f hf)).2.2.1]

end Go.Proofs.YtinmagodckkedaaGreat

/-
  The contract of the reference's May.
-/
namespace Go.Proofs.YtinmagodckkedaaGreat
open Go.RowKit

theorem step_of {fs : List Fld} {i : Nat} {f : Fld} (h : fs.getD i default = f) (h1 : fieldB f.1.data.toList = true) (h2 : 0 < f.2.length) (h3 : f.2.length ≤ 8) (h4 : ∀ t ∈ f.2, t.size ≤ 128) (h5 : i = 0 ∨ ltN (fs.getD (i - 1) default).1 f.1 = true) : stepOk fs i = true := by
  unfold stepOk fitsB
  rw [h, h1, decide_eq_true h3]
  have e1 : f.2.isEmpty = false := by
    cases hf : f.2 with
    | nil => rw [hf] at h2; simp at h2
    | cons _ _ => rfl
  have e2 : f.2.any longB = false := by
    rw [List.any_eq_false]
    intro t ht
    have := h4 t ht
    unfold longB
    simpa using this
  rw [e1, e2]
  rcases h5 with h5 | h5
  · rw [decide_eq_true h5]; rfl
  · rw [h5]; simp

theorem step_not {fs : List Fld} {i : Nat} {f : Fld} (h : fs.getD i default = f) (hn : fieldB f.1.data.toList = false ∨ f.2.length = 0 ∨ 8 < f.2.length ∨ (∃ t ∈ f.2, 128 < t.size) ∨ (i ≠ 0 ∧ ltN (fs.getD (i - 1) default).1 f.1 = false)) : stepOk fs i = false := by
  unfold stepOk fitsB
  rw [h]
  rcases hn with hn | hn | hn | ⟨t, ht, hn⟩ | ⟨hn, hm⟩
  · rw [hn]; rfl
  · rw [List.length_eq_zero_iff] at hn
    rw [hn]; simp
  · rw [decide_eq_false (by omega)]; simp
  · have : f.2.any longB = true := by
      rw [List.any_eq_true]
      exact ⟨t, ht, by unfold longB; simpa using hn⟩
    rw [this]; simp
  · rw [decide_eq_false hn, hm]; simp

end Go.Proofs.YtinmagodckkedaaGreat

/-
  The contract of Write.
-/
namespace Go.Proofs.YtinmagodckkedaaGreat
open Go.RowKit

theorem room1 {l : List Value} {a : Value} {n : Nat} (h : l.length + 3 ≤ n) : (l ++ [a]).length + 1 ≤ n := by rw [List.length_append]; simp; omega
theorem room2 {l : List Value} {a b : Value} {n : Nat} (h : l.length + 3 ≤ n) : (l ++ [a] ++ [b]).length + 1 ≤ n := by rw [List.length_append, List.length_append]; simp; omega

end Go.Proofs.YtinmagodckkedaaGreat

/-
  The contract of Print.
-/
namespace Go.Proofs.YtinmagodckkedaaGreat
open Go.RowKit

def wordOf (n t : ByteArray) : ByteArray := n ++ ⟨#[61]⟩ ++ ⟨(writeL t.data.toList).toArray⟩
def wordsF (f : Fld) : List ByteArray := f.2.map (wordOf f.1)
def wordsL (fs : List Fld) : List ByteArray := fs.flatMap wordsF
def lineOf (fs : List Fld) : ByteArray := ⟨(Lib.join ((wordsL fs).map (·.data.toList)) [32]).toArray⟩

theorem wordsL_len {fs : List Fld} (h : ∀ f ∈ fs, fitsB f = true) (hl : fs.length ≤ 16) : (wordsL fs).length ≤ 128 := by
  have : ∀ l : List Fld, (∀ f ∈ l, fitsB f = true) → (wordsL l).length ≤ l.length * 8 := by
    intro l
    induction l with
    | nil => intro _; simp [wordsL]
    | cons f l ih =>
      intro hf
      have h1 := ih fun g hg => hf g (by simp [hg])
      have h2 := (fits_parts (hf f (by simp))).2.2.1
      have e : wordsL (f :: l) = wordsF f ++ wordsL l := rfl
      rw [e, List.length_append, List.length_cons, Nat.add_mul]
      have e2 : (wordsF f).length = f.2.length := by simp [wordsF]
      omega
  have := this fs h
  omega

theorem word_len {f : Fld} {t : ByteArray} (h : fitsB f = true) (ht : t ∈ f.2) : (wordOf f.1 t).size ≤ 417 := by
  obtain ⟨h1, _, _, h4, _⟩ := fits_parts h
  have h5 := h4 t ht
  have h6 := writeL_len t.data.toList
  have e : t.data.toList.length = t.size := by simp
  have e2 : (wordOf f.1 t).size = f.1.size + 1 + (writeL t.data.toList).length := by
    unfold wordOf
    rw [ByteArray.size_append, ByteArray.size_append]
    rfl
  omega

theorem words_len {fs : List Fld} (h : ∀ f ∈ fs, fitsB f = true) : ∀ x ∈ wordsL fs, x.size ≤ 417 := by
  intro x hx
  obtain ⟨f, hf, hx⟩ := List.mem_flatMap.1 hx
  obtain ⟨t, ht, rfl⟩ := List.mem_map.1 hx
  exact word_len (h f hf) ht

theorem join_two (l m : List UInt8) (ls : List (List UInt8)) : Lib.join (l :: m :: ls) [32] = l ++ 32 :: Lib.join (m :: ls) [32] := by simp [Lib.join, List.intercalate]

theorem join_len (ls : List (List UInt8)) (c : Nat) (h : ∀ l ∈ ls, l.length ≤ c) : (Lib.join ls [32]).length ≤ ls.length * (c + 1) := by
  induction ls with
  | nil => simp [Lib.join]
  | cons l ls ih =>
    have h1 := h l (by simp)
    have h2 := ih fun m hm => h m (by simp [hm])
    cases ls with
    | nil => simp [Lib.join]; omega
    | cons m ls =>
      rw [join_two, List.length_append, List.length_cons, List.length_cons, Nat.add_mul]
      omega

end Go.Proofs.YtinmagodckkedaaGreat

/-
  The contract of Size.
-/
namespace Go.Proofs.YtinmagodckkedaaGreat
open Go.RowKit

def sizeN (fs : List Fld) : Nat := if mayB fs = true then (encL fs).length else 0

end Go.Proofs.YtinmagodckkedaaGreat

/-
  The chapter's examples: the plain answers.
-/
namespace Go.Proofs.YtinmagodckkedaaGreat
open Go.RowKit Go.Sort Go.Lib

def fixA : List Fld := [(⟨#[98]⟩, [⟨#[120]⟩]), (⟨#[97]⟩, [⟨#[121]⟩]), (⟨#[98]⟩, [⟨#[122]⟩])]
def fixN : List Fld := [(⟨#[97]⟩, [⟨#[121]⟩]), (⟨#[98]⟩, [⟨#[120]⟩, ⟨#[122]⟩])]
def fixE : List Fld := [(⟨#[97]⟩, [⟨#[120]⟩, ⟨#[]⟩])]
def fixP : List Fld := [(⟨#[98]⟩, [⟨#[49]⟩]), (⟨#[97]⟩, [⟨#[50]⟩])]
def fixQ : List Fld := [(⟨#[97]⟩, [⟨#[50]⟩]), (⟨#[98]⟩, [⟨#[49]⟩])]

theorem ltN_eq (a b : ByteArray) : ltN a b = ltB a b := by
  unfold ltN ltB
  rw [Lib.toList_data, Lib.toList_data, cb_less]

theorem mayB_eq (fs : List Fld) : mayB fs = (decide (fs.length ≤ 16) && (List.range fs.length).all fun i => fitsB (fs.getD i default) && (decide (i = 0) || ltB (fs.getD (i - 1) default).1 (fs.getD i default).1)) := by
  unfold mayB stepOk
  simp only [ltN_eq]

theorem fixA_mis : fixA.any misB = false := by decide
theorem fixA_norm : normF fixA = fixN := by decide
theorem fixN_bare : fixN.any bareB = false := by decide
theorem fixN_may : mayB fixN = true := by rw [mayB_eq]; decide
theorem fixN_line : lineOf fixN = ⟨#[97, 61, 121, 32, 98, 61, 120, 32, 98, 61, 122]⟩ := by decide
theorem fixE_may : mayB fixE = true := by decide
theorem fixE_enc : encL fixE = [1, 1, 97, 2, 1, 120, 0] := by decide
theorem fixE_dec : decodeO [1, 1, 97, 2, 1, 120, 0] = some fixE := by decide
theorem fixE_size : sizeN fixE = 7 := by decide
theorem fixP_mis : fixP.any misB = false := by decide
theorem fixP_norm : normF fixP = fixQ := by decide
theorem fixQ_bare : fixQ.any bareB = false := by decide
theorem fixQ_may : mayB fixQ = true := by rw [mayB_eq]; decide
theorem fix_write : writeL [97, 32, 98] = [97, 37, 50, 48, 98] := by decide
theorem fix_texts : textsOf fixN ⟨#[98]⟩ = [⟨#[120]⟩, ⟨#[122]⟩] := by decide
theorem fix_read : readL [97, 37, 50, 48, 98] = some [97, 32, 98] := by
  rw [readL_some (c := 97) (n := 1) (by decide)]
  show (readL [37, 50, 48, 98]).map _ = _
  rw [readL_some (c := 32) (n := 3) (by decide)]
  show ((readL [98]).map _).map _ = _
  rw [readL_some (c := 98) (n := 1) (by decide)]
  show (((readL []).map _).map _).map _ = _
  rw [readL_nil]
  rfl
theorem fix_split : splitL [98, 61, 49, 32, 97, 61, 50] = [[98, 61, 49], [97, 61, 50]] := by
  rw [splitL_yes (i := 3) (by decide)]
  show [98, 61, 49] :: splitL [97, 61, 50] = _
  rw [splitL_no (by decide)]
theorem fix_one (c : UInt8) (h : firstP [c] = some (c, 1)) : readL [c] = some [c] := by
  rw [readL_some h]
  show (readL []).map _ = _
  rw [readL_nil]
  rfl
theorem fix_words : fieldsW (splitL [98, 61, 49, 32, 97, 61, 50]) = some fixP := by
  rw [fix_split]
  have h1 : wordO [98, 61, 49] = some ([98], [49]) := by
    unfold wordO
    rw [if_neg (by decide), show (Lib.indexByte [98, 61, 49] 61).toNat = 1 by decide]
    show (readL [49]).map _ = _
    rw [fix_one 49 (by decide)]; rfl
  have h2 : wordO [97, 61, 50] = some ([97], [50]) := by
    unfold wordO
    rw [if_neg (by decide), show (Lib.indexByte [97, 61, 50] 61).toNat = 1 by decide]
    show (readL [50]).map _ = _
    rw [fix_one 50 (by decide)]; rfl
  simp only [fieldsW, h1, h2]
  rfl

end Go.Proofs.YtinmagodckkedaaGreat

/-
  The contract of the reference's Norm.
-/
namespace Go.Proofs.YtinmagodckkedaaGreat
open Go.RowKit Go.Lib

def RnSt (w : World) (G : List Fld) (k : Nat) (v : Value) (wr : World) : Prop :=
  ∃ dr, OwnXs w.heap.size wr v dr ∧ dr.map Fx.fld = (G.take (min k 17)).map capF ∧ Below w.heap.size w wr

def RnAns (N : Nat) (fs : List Fld) (e : Ending) (w' : World) : Prop :=
  (fs.any misB = true ∧ e = .returned (.tuple #[.slice none 0 0, .int .i64 2])) ∨
    (fs.any misB = false ∧
     (((normF fs).any bareB = true ∧ e = .returned (.tuple #[.slice none 0 0, .int .i64 3])) ∨
      ((normF fs).any bareB = false ∧ mayB (normF fs) = false ∧ e = .returned (.tuple #[.slice none 0 0, .int .i64 5])) ∨
      ((normF fs).any bareB = false ∧ mayB (normF fs) = true ∧ ∃ u o, e = .returned (.tuple #[u, .int .i64 0]) ∧ OwnXs N w' u o ∧ o.map Fx.fld = normF fs)))
def RnPost (w : World) (fs : List Fld) (e : Ending) (w' : World) : Prop := RnAns w.heap.size fs e w' ∧ Below w.heap.size w w'

theorem mem_txtOf {fs : List Fld} {c t : ByteArray} (h : t ∈ txtOf fs c) : ∃ f ∈ fs, t ∈ f.2 := by
  unfold txtOf at h
  obtain ⟨f, hf, ht⟩ := List.mem_flatMap.1 h
  exact ⟨f, (List.mem_filter.1 hf).1, ht⟩

theorem txtOf_len (fs : List Fld) (c : ByteArray) : (txtOf fs c).length ≤ totF fs := by
  unfold txtOf totF
  induction fs with
  | nil => simp
  | cons f fs ih =>
    rw [List.map_cons, List.sum_cons]
    by_cases e : f.1 = c
    · rw [List.filter_cons_of_pos (by simp [e]), List.flatMap_cons, List.length_append]; omega
    · rw [List.filter_cons_of_neg (by simp [e])]; omega

theorem totF_take (fs : List Fld) (i : Nat) : totF (fs.take i) ≤ totF fs := by
  conv => rhs; rw [← List.take_append_drop i fs, totF_append]
  omega

theorem txtOf_step {d : List Fx} {i : Nat} (h : i < d.length) (c : ByteArray) : txtOf ((d.map Fx.fld).take (i + 1)) c = txtOf ((d.map Fx.fld).take i) c ++ if (d[i]).name = c then (d[i]).txt else [] := by
  rw [List.take_succ_eq_append_getElem (by simpa using h), txtOf_snoc]
  simp [Fx.fld]

theorem scanN_step {d : List Fx} {i : Nat} (h : i < d.length) (last : ByteArray) : scanN last ((d.map Fx.fld).take (i + 1)) =
    if ltB last (d[i]).name && (decide ((scanN last ((d.map Fx.fld).take i)).size = 0) || ltB (d[i]).name (scanN last ((d.map Fx.fld).take i))) then (d[i]).name else scanN last ((d.map Fx.fld).take i) := by
  rw [List.take_succ_eq_append_getElem (by simpa using h), scanN_snoc]
  simp [scanStep, Fx.fld]

theorem mis_all {d : List Fx} (h : ∀ j, (h : j < d.length) → fieldB (d[j]).name.data.toList = true) : (d.map Fx.fld).any misB = false := by
  rw [List.any_eq_false]
  intro f hf
  obtain ⟨x, hx, rfl⟩ := List.mem_map.1 hf
  obtain ⟨j, hj, rfl⟩ := List.mem_iff_getElem.1 hx
  have := h j hj
  simp [misB, Fx.fld, this]

theorem field_ne {l : ByteArray} (h : fieldB l.data.toList = true) : l.size ≠ 0 := by
  intro e
  have : l.data.toList = [] := List.length_eq_zero_iff.1 (by simpa using e)
  rw [this] at h
  revert h
  decide

theorem take9_more {T a b : List ByteArray} (h : 9 ≤ (T ++ a).length) : (T ++ (a ++ b)).take 9 = (T ++ a).take 9 := by
  rw [← List.append_assoc, List.take_append_of_le_length h]

theorem any_snoc {G : List Fld} {k : Nat} (h : k < G.length) : (G.take (k + 1)).any bareB = ((G.take k).any bareB || bareB G[k]) := by
  rw [List.take_succ_eq_append_getElem h, List.any_append]
  simp

theorem cap_snoc {G : List Fld} {k : Nat} (h : k < G.length) (hk : k < 17) : (G.take (min (k + 1) 17)).map capF = (G.take (min k 17)).map capF ++ [capF G[k]] := by
  rw [Nat.min_eq_left (by omega), Nat.min_eq_left (by omega), List.take_succ_eq_append_getElem h, List.map_append]
  rfl

theorem lastOf_succ {G : List Fld} {k : Nat} (h : k < G.length) : lastOf G (k + 1) = (G[k]).1 := by
  unfold lastOf
  rw [if_neg (by omega), Nat.add_sub_cancel, List.getD_eq_getElem?_getD, List.getElem?_eq_getElem h]
  rfl

/-- What the reference holds at its end is small. -/
theorem rn_fit {d dr : List Fx} {k : Nat} (hf : FitX d) (h : dr.map Fx.fld = ((normF (d.map Fx.fld)).take (min k 17)).map capF) : FitX dr := by
  have hg := normF_groups (d.map Fx.fld)
  have hl : dr.length ≤ 17 := by
    have := congrArg List.length h
    rw [List.length_map, List.length_map, List.length_take] at this
    omega
  refine ⟨by unfold maxLen; omega, fun x hx => ?_⟩
  have hm : x.fld ∈ ((normF (d.map Fx.fld)).take (min k 17)).map capF := by rw [← h]; exact List.mem_map.2 ⟨x, hx, rfl⟩
  obtain ⟨g, hgm, e⟩ := List.mem_map.1 hm
  have hgm := List.mem_of_mem_take hgm
  have e1 : x.name = g.1 := (congrArg Prod.fst e).symm
  have e2 : x.txt = g.2.take 9 := (congrArg Prod.snd e).symm
  obtain ⟨f, hfm, ef⟩ := (hg.names g.1).1 ⟨g, hgm, rfl⟩
  obtain ⟨y, hy, rfl⟩ := List.mem_map.1 hfm
  refine ⟨?_, ?_, fun t ht => ?_⟩
  · show x.name.size ≤ maxLen
    rw [e1, ← ef]; exact (hf.2 y hy).1
  · show x.txt.length ≤ maxLen
    rw [e2, List.length_take]; unfold maxLen; omega
  · have ht : t ∈ x.txt := ht
    rw [e2] at ht
    have ht := List.mem_of_mem_take ht
    rw [hg.texts g hgm] at ht
    obtain ⟨f', hf', ht'⟩ := mem_txtOf ht
    obtain ⟨z, hz, rfl⟩ := List.mem_map.1 hf'
    exact (hf.2 z hz).2.2 t ht'

end Go.Proofs.YtinmagodckkedaaGreat

/-
  The contract of the reference's Norm: the walk.
-/
namespace Go.Proofs.YtinmagodckkedaaGreat
open Go.RowKit Go.Lib

theorem less_of {a b : ByteArray} {c : Bool} (h : ltB a b = c) : Op.bytesLess a.toList b.toList = c := by
  rw [← h, ← ltN_eq]; rfl

theorem eq_false {a b : ByteArray} (h : a ≠ b) : (a.toList == b.toList) = false := by
  rw [Lib.toList_data, Lib.toList_data, beq_eq_false_iff_ne]
  exact fun e => h (ba_eq e)
theorem eq_true {a b : ByteArray} (h : a = b) : (a.toList == b.toList) = true := by rw [h]; simp

theorem empty_of {a : ByteArray} (h : a.size = 0) : a.toList.isEmpty = true := by
  rw [Lib.toList_data]
  have : a.data.toList = [] := List.length_eq_zero_iff.1 (by simpa using h)
  rw [this]; rfl
theorem nonempty_of {a : ByteArray} (h : a.size ≠ 0) : a.toList.isEmpty = false := by
  rw [Lib.toList_data]
  cases e : a.data.toList with
  | nil => exact absurd (by simpa using congrArg List.length e) h
  | cons _ _ => rfl

end Go.Proofs.YtinmagodckkedaaGreat

/-
  The contracts of SameTexts, SameFields and Same of the reference.
-/
namespace Go.Proofs.YtinmagodckkedaaGreat
open Go.RowKit

theorem str_ne {s t : ByteArray} (h : ¬ s = t) : (s.toList == t.toList) = false := by
  rw [Lib.toList_data, Lib.toList_data, beq_eq_false_iff_ne]
  intro e
  apply h
  obtain ⟨⟨s⟩⟩ := s
  obtain ⟨⟨t⟩⟩ := t
  simp at e
  rw [e]

set_option maxHeartbeats 1000000 in
set_option maxRecDepth 100000 in
theorem sameT_any (p q : Option Addr) (cap cap' : Nat) (ts us : List ByteArray) (w : World) (h1 : TxtAt w p ts) (h2 : TxtAt w q us) (hl1 : ts.length ≤ maxLen) :
    Calls Tryz.prog 8 #[.slice p ts.length cap, .slice q us.length cap'] w fun e w' => e = .returned (.bool (decide (ts = us))) ∧ ∃ n, w' = w.drewN n := by
  unfold maxLen at hl1
  obtain ⟨r, hr⟩ : ∃ r, decide (ts = us) = r := ⟨_, rfl⟩
  rw [hr]
  have HR := hid hr
  have H1 := hid h1
  have H2 := hid h2
  clear hr h1 h2
  by_cases hl : ts.length = us.length
  · have hb : ((ts.length : Int) != (us.length : Int)) = false := by simp [hl]
    have HL := hid hl
    clear hl
    go_enter Tryz.func8, Tryz.ntmps8
    go_wp2_with fail
    go_loopg [5] ts.length (fun g vi wr => ∃ i m : Nat, vi = .int .i64 i ∧ i ≤ ts.length ∧ ts.length - i ≤ g ∧ wr = w.drewN m ∧ Hid (∀ j, j < i → ts[j]? = us[j]?))
    case atStart => exact ⟨0, 0, rfl, by omega, by omega, rfl, fun j h => by omega⟩
    case round =>
      obtain ⟨i, m, rfl, hi, hg, rfl, HJ⟩ := hrel
      by_cases hlt : i < ts.length
      · have hlt2 : i < us.length := by rw [← HL.out]; exact hlt
        have i1 : (0 : Int) ≤ ↑i := by omega
        have i2 : (↑i : Int) < ↑ts.length := by omega
        have i3 : (↑i : Int) < ↑us.length := by omega
        rcases H1.out with hn | ⟨b1, o1, rfl, k1⟩
        · rw [hn] at hlt; simp at hlt
        rcases H2.out with hn | ⟨b2, o2, rfl, k2⟩
        · rw [hn] at hlt2; simp at hlt2
        have e1 := k1 i hlt
        have e2 := k2 i hlt2
        have g1 : ts[i]? = some ts[i] := List.getElem?_eq_getElem hlt
        have g2 : us[i]? = some us[i] := List.getElem?_eq_getElem hlt2
        clear k1 k2
        obtain ⟨s, hs⟩ : ∃ s, ts[i] = s := ⟨_, rfl⟩
        obtain ⟨t, ht⟩ : ∃ t, us[i] = t := ⟨_, rfl⟩
        rw [hs] at e1 g1
        rw [ht] at e2 g2
        have G1 := hid g1
        have G2 := hid g2
        clear hs ht g1 g2
        by_cases hst : s = t
        · subst hst
          go_wp2_with fail
          go_quiet (fail)
          go_wp2_with fail
          go_roundg (ts.length - (i + 1))
          case measure => omega
          refine ⟨i + 1, _, by go_num, by omega, by omega, rfl, fun j hj => ?_⟩
          by_cases e : j = i
          · subst e; rw [G1.out, G2.out]
          · exact HJ.out j (by omega)
        · have hne := str_ne hst
          have H0 : Hid (r = false) := HR.out.symm.trans (decide_eq_false fun e => hst (by
            have := G1.out
            rw [e, G2.out] at this
            exact (Option.some.inj this).symm))
          go_wp2_with fail
          go_quiet (fail)
          go_wp2_with fail
          go_ret
          exact ⟨ret_bool H0.out.symm, _, by rw [World.drewN_drewN]⟩
      · have hltz : ¬ (i : Int) < (ts.length : Int) := by omega
        have H0 : Hid (r = true) := HR.out.symm.trans (decide_eq_true (List.ext_getElem? fun j => by
          by_cases hj : j < ts.length
          · exact HJ.out j (by omega)
          · rw [List.getElem?_eq_none (by omega), List.getElem?_eq_none (by have := HL.out; omega)]))
        go_wp2_with fail
        go_ret
        exact ⟨ret_bool H0.out.symm, _, rfl⟩
  · have hb : ((ts.length : Int) != (us.length : Int)) = true := by simp; omega
    have H0 : Hid (r = false) := HR.out.symm.trans (decide_eq_false fun e => hl (by rw [e]))
    go_enter Tryz.func8, Tryz.ntmps8
    go_wp2_with fail
    go_ret
    exact ⟨ret_bool H0.out.symm, 0, rfl⟩

theorem TxtAt.draws {w : World} {p : Option Addr} {ts : List ByteArray} (h : TxtAt w p ts) (n : Nat) : TxtAt (w.drewN n) p ts := h

end Go.Proofs.YtinmagodckkedaaGreat

/-
  fixed answers true.
-/
namespace Go.Proofs.YtinmagodckkedaaGreat
open Go.RowKit Go.Sort Go.Lib

theorem fitF_small (fs : List Fld) (h : fs.all (fun f => decide (f.1.size ≤ 100) && decide (f.2.length ≤ 100) && f.2.all fun t => decide (t.size ≤ 100)) = true) : ∀ f ∈ fs, FitF f := by
  intro f hf
  rw [List.all_eq_true] at h
  have := h f hf
  simp only [Bool.and_eq_true, decide_eq_true_eq, List.all_eq_true] at this
  exact ⟨Nat.le_trans this.1.1 (by decide), Nat.le_trans this.1.2 (by decide), fun t ht => Nat.le_trans (this.2 t ht) (by decide)⟩

theorem fitFx {d : List Fx} {fs : List Fld} (h : d.map Fx.fld = fs) (hl : fs.length ≤ 100) (hf : ∀ f ∈ fs, FitF f) : FitX d := by
  subst h
  rw [List.length_map] at hl
  exact ⟨Nat.le_trans hl (by decide), fun x hx => hf _ (List.mem_map.2 ⟨x, hx, rfl⟩)⟩

theorem fixA_fit : ∀ f ∈ fixA, FitF f := fitF_small _ (by decide)
theorem fixN_fit : ∀ f ∈ fixN, FitF f := fitF_small _ (by decide)
theorem fixE_fit : ∀ f ∈ fixE, FitF f := fitF_small _ (by decide)
theorem fixQ_fit : ∀ f ∈ fixQ, FitF f := fitF_small _ (by decide)

/-- What an answer of Norm or Parse is known by. -/
def OwnAns (w : World) (fs : List Fld) (n : Nat) (e : Ending) (w' : World) : Prop :=
  ∃ p c d, e = .returned (.tuple #[.slice p n c, .int .i64 0]) ∧ OwnXs w.heap.size w' (.slice p n c) d ∧ d.map Fx.fld = fs ∧ Below w.heap.size w w'

theorem own_len {n0 : Nat} {w : World} {u : Value} {d : List Fx} (h : OwnXs n0 w u d) : ∃ p c, u = .slice p d.length c := by
  rcases h.1.2 with ⟨rfl, h0⟩ | ⟨g, cap, cur, rfl, _⟩
  · exact ⟨none, 0, by rw [h0]⟩
  · exact ⟨_, _, rfl⟩

theorem ownAns_of {w w' : World} {u : Value} {d : List Fx} {fs : List Fld} {n : Nat} (hn : fs.length = n) (ho : OwnXs w.heap.size w' u d) (hm : d.map Fx.fld = fs) (hb : Below w.heap.size w w') : OwnAns w fs n (.returned (.tuple #[u, .int .i64 0])) w' := by
  obtain ⟨p, c, rfl⟩ := own_len ho
  have e : d.length = n := by rw [← hn, ← hm, List.length_map]
  rw [e] at ho ⊢
  exact ⟨p, c, d, rfl, ho, hm, hb⟩

theorem own_rest {n0 : Nat} {w : World} {g c : Nat} {l : List UInt8} (h : OwnB n0 w (.slice (some ⟨g, 0, none⟩) l.length c) l) : RestAt w.heap.size w (.slice (some ⟨g, 0, none⟩) l.length c) l := by
  rcases h.2 with ⟨hv, _⟩ | ⟨g', cap, cur, hv, _, hg, hc, hcm, hsz, htk⟩
  · cases hv
  · cases hv
    refine ⟨_, _, rfl, by omega, by omega, Or.inr ⟨g, 0, rfl, (Array.getElem?_eq_some_iff.1 hg).1, fun i hi => ?_⟩⟩
    rw [Nat.zero_add, cell_of_row w g i cur _ _ hg]
    have : (Lib.byteCells l)[i]? = cur.toList[i]? := by
      rw [← htk, List.getElem?_take, if_pos (by omega)]
    rw [← Array.getElem?_toList, ← this]
    simp [Lib.byteCells, hi]

theorem lit_row {w : World} {b : Nat} {cs : Array Value} {T : TypeId} {d : List Fx} {n cap : Nat} (h : w.heap[b]? = some (.cells cs T (0, 0))) (hcs : cs.toList = cellsX d) (hn : n = d.length) (ht : ∀ x ∈ d, x.at w) : IsXs w (.slice (some ⟨b, 0, none⟩) n cap) d := by
  subst hn
  refine ⟨_, _, rfl, Or.inr ⟨b, 0, rfl, fun i hi => ?_⟩, ht⟩
  obtain ⟨c0, c1⟩ := cellsX_get d i hi
  rw [Nat.zero_add, cell_of_row w b _ cs _ _ h, cell_of_row w b _ cs _ _ h, ← Array.getElem?_toList, ← Array.getElem?_toList, hcs]
  exact ⟨c0, c1⟩

theorem lit_txt {w : World} {b : Nat} {cs : Array Value} {T : TypeId} {ts : List ByteArray} (h : w.heap[b]? = some (.cells cs T (0, 0))) (hcs : cs.toList = ts.map Value.string) : TxtAt w (some ⟨b, 0, none⟩) ts := by
  refine Or.inr ⟨b, 0, rfl, fun i hi => ?_⟩
  rw [Nat.zero_add, cell_of_row w b i cs _ _ h, ← Array.getElem?_toList, hcs]
  simp [hi]

end Go.Proofs.YtinmagodckkedaaGreat

/-
  What Norm answers, by the fields alone: the program's and the reference's.
-/
namespace Go.Proofs.YtinmagodckkedaaGreat
open Go.RowKit Go.Lib

/-- What Norm answers: the number, and the fields. -/
def codeF (fs : List Fld) : Int := if fs.any misB then 2 else if (normF fs).any bareB then 3 else if mayB (normF fs) then 0 else 5
def ansF (fs : List Fld) : List Fld := if codeF fs = 0 then normF fs else []

theorem codeF_zero {fs : List Fld} (h : codeF fs = 0) : fs.any misB = false ∧ (normF fs).any bareB = false ∧ mayB (normF fs) = true := by
  unfold codeF at h
  cases h1 : fs.any misB with
  | true => rw [h1] at h; simp at h
  | false =>
    cases h2 : (normF fs).any bareB with
    | true => rw [h1, h2] at h; simp at h
    | false =>
      cases h3 : mayB (normF fs) with
      | true => exact ⟨rfl, rfl, rfl⟩
      | false => rw [h1, h2, h3] at h; simp at h

theorem may_fit {d : List Fx} {fs : List Fld} (hmay : mayB fs = true) (hm : d.map Fx.fld = fs) : FitX d := by
  have hl := (may_parts hmay).1
  refine ⟨?_, fun x hx => ?_⟩
  · rw [← hm, List.length_map] at hl
    unfold maxLen; omega
  · have hx' : x.fld ∈ fs := by rw [← hm]; exact List.mem_map.2 ⟨x, hx, rfl⟩
    obtain ⟨h1, _, h3, h4, _⟩ := fits_parts (may_fits hmay _ hx')
    refine ⟨?_, ?_, fun t ht => ?_⟩
    · unfold maxLen; omega
    · unfold maxLen; omega
    · have := h4 t ht; unfold maxLen; omega

theorem ans_fit {d : List Fx} {fs : List Fld} (hm : d.map Fx.fld = ansF fs) : FitX d := by
  unfold ansF at hm
  split at hm
  · rename_i h
    exact may_fit (codeF_zero h).2.2 hm
  · rw [List.map_eq_nil_iff] at hm
    subst hm
    exact ⟨by unfold maxLen; simp, fun x hx => by simp at hx⟩

def NPost (w : World) (fs : List Fld) (e : Ending) (w' : World) : Prop :=
  (∃ u o, e = .returned (.tuple #[u, .int .i64 (codeF fs)]) ∧ OwnXs w.heap.size w' u o ∧ o.map Fx.fld = ansF fs) ∧ Below w.heap.size w w'

theorem own_none (N : Nat) (w : World) : OwnXs N w (.slice none 0 0) [] := ⟨World.ownsRow_nil _ _ _ _, fun x hx => by simp at hx⟩

theorem ansPlain {N : Nat} {fs : List Fld} {e : Ending} {w' : World}
    (h : (fs.any misB = true ∧ e = .returned (.tuple #[.slice none 0 0, .int .i64 2])) ∨
    (fs.any misB = false ∧
     (((normF fs).any bareB = true ∧ e = .returned (.tuple #[.slice none 0 0, .int .i64 3])) ∨
      ((normF fs).any bareB = false ∧ mayB (normF fs) = false ∧ e = .returned (.tuple #[.slice none 0 0, .int .i64 5])) ∨
      ((normF fs).any bareB = false ∧ mayB (normF fs) = true ∧ ∃ u o, e = .returned (.tuple #[u, .int .i64 0]) ∧ OwnXs N w' u o ∧ o.map Fx.fld = normF fs)))) :
    ∃ u o, e = .returned (.tuple #[u, .int .i64 (codeF fs)]) ∧ OwnXs N w' u o ∧ o.map Fx.fld = ansF fs := by
  rcases h with ⟨h1, rfl⟩ | ⟨h1, ⟨h2, rfl⟩ | ⟨h2, h3, rfl⟩ | ⟨h2, h3, u, o, rfl, ho, hm⟩⟩
  · have hc : codeF fs = 2 := by unfold codeF; rw [h1]; rfl
    exact ⟨_, [], by rw [hc], own_none _ _, by unfold ansF; rw [hc]; rfl⟩
  · have hc : codeF fs = 3 := by unfold codeF; rw [h1, h2]; rfl
    exact ⟨_, [], by rw [hc], own_none _ _, by unfold ansF; rw [hc]; rfl⟩
  · have hc : codeF fs = 5 := by unfold codeF; rw [h1, h2, h3]; rfl
    exact ⟨_, [], by rw [hc], own_none _ _, by unfold ansF; rw [hc]; rfl⟩
  · have hc : codeF fs = 0 := by unfold codeF; rw [h1, h2, h3]; rfl
    exact ⟨u, o, by rw [hc], ho, by unfold ansF; rw [hc]; exact hm⟩

end Go.Proofs.YtinmagodckkedaaGreat

/-
  An append of a row that came in, whatever its length; a row of fields whose texts lie elsewhere.
-/
namespace Go.Proofs.YtinmagodckkedaaGreat
open Go.RowKit Go.Lib

theorem grownBy_refl (w : World) (g : Option Nat) : w.grownBy w g := ⟨rfl, rfl, rfl, Nat.le_refl _, fun _ _ _ => rfl⟩

theorem wpList_append_rows {ops : Array Oper} {rest : List Oper} {o : Oper} {a : Act} {Q : Exit → Act → World → Prop} (w : World) (hgd : o.guard = none) (s x : Operand) (t : TypeId)
    (ho : o.op = .call { callee := .builtin .append, args := #[s, x], argTypes := #[t, t] })
    (base : Nat) (e : TypeId) (i : TypeInfo) (z : Value) (size bytes : Nat) (ht : Tryz.prog.underlying t = some (.slice e)) (hi : Tryz.prog.info? e = some i) (hz : i.zero = some z)
    (hsize : i.size = size) (hby : i.bytes = bytes) (hzs : z.cells.size = size) (hsz : 0 < size)
    (v : Value) (n : Nat) (xs : List Value) (hs : a.eval s = v) (hown : w.ownsRow base e size v n xs)
    (p : Option Addr) (m c : Nat) (news : List Value) (hx : a.eval x = .slice p m c) (hl : news.length = m * size)
    (hsrc : m = 0 ∨ ∃ ad, p = some ad ∧ ∀ j u, news[j]? = some u → w.cell? (ad.add j) = some u) (h1 : ∀ u ∈ news, u.oneCell' = true)
    (h63 : n + m ≤ maxLen) (hbytes : (n + m) * bytes ≤ 140737488355328) (hbase : base ≤ w.heap.size)
    (h : ∀ v' w', w'.ownsRow base e size v' (n + m) (xs ++ news) → w.grownBy w' v.ownBlock → wpList Tryz.prog ops Q rest (a.put o.dst v') w') :
    wpList Tryz.prog ops Q (o :: rest) a w := by
  rcases hsrc with rfl | ⟨ad, rfl, hc⟩
  · have hn : news = [] := List.length_eq_zero_iff.1 (by simpa using hl)
    subst hn
    obtain ⟨q, cap, hv, hcap, hq⟩ : ∃ q cap, v = .slice q n cap ∧ n ≤ cap ∧ (q = none → n = 0 ∧ cap = 0) := by
      rcases hown.2 with ⟨hv, h0⟩ | ⟨g, cap, cur, hv, _, _, hc, _⟩
      · exact ⟨none, 0, by rw [hv, h0], by omega, fun _ => ⟨h0, rfl⟩⟩
      · exact ⟨_, cap, hv, hc, fun h => by cases h⟩
    have hrun : (Builtin.append_ #[t, t] o.type #[.slice q n cap, .slice p 0 c]).run Tryz.prog w = .ok (.slice q n cap) w := by
      cases q with
      | none =>
        obtain ⟨rfl, rfl⟩ := hq rfl
        cases p <;> simp [Builtin.append_, run_underlying ht, Builtin.lenOf, Builtin.firstCells, sizeOf, typeInfo, hi, loadCells, loadCellsFrom]
      | some q =>
        cases p <;> simp [Builtin.append_, run_underlying ht, Builtin.lenOf, Builtin.firstCells, sizeOf, typeInfo, hi, storeCells, loadCells, loadCellsFrom, hcap]
    rw [hv] at hs
    refine wpList_plain hgd fun K hK' => ?_
    unfold Oper.wp
    simp [execOp, ho, resolve, invoke, builtin, hs, hx, hrun, Result.andThen]
    refine hK' _ _ (h _ _ ?_ (grownBy_refl _ _))
    rw [← hv, List.append_nil]
    exact hown
  · exact wpList_append_own _ hgd s x t ho base e i z size bytes ht hi hz hsize hby hzs hsz v n xs hs hown ad m c news hx hl hc h1 h63 hbytes hbase (fun v' w' h2 h3 _ => h v' w' h2 h3)

/-- v owns a row of the fields d, in a block at or behind n0; their texts lie anywhere. -/
def RowX (n0 : Nat) (w : World) (v : Value) (d : List Fx) : Prop := w.ownsRow n0 40 2 v d.length (cellsX d)

theorem RowX.is {n0 : Nat} {w : World} {v : Value} {d : List Fx} (h1 : RowX n0 w v d) (h2 : ∀ x ∈ d, x.at w) : IsXs w v d := by
  rcases h1.2 with ⟨rfl, h0⟩ | ⟨g, c, cur, rfl, _, hg, _, _, hsz, htk⟩
  · obtain rfl := List.length_eq_zero_iff.1 h0
    exact ⟨none, 0, rfl, Or.inl rfl, fun x hx => by simp at hx⟩
  · refine ⟨_, c, rfl, Or.inr ⟨g, 0, rfl, fun i hi => ?_⟩, h2⟩
    obtain ⟨c0, c1⟩ := cellsX_get d i hi
    have e : ∀ j, j < d.length * 2 → (cellsX d)[j]? = cur[j]? := fun j hj => by
      rw [← htk, List.getElem?_take, if_pos hj, Array.getElem?_toList]
    rw [Nat.zero_add, cell_of_row w g _ cur _ _ hg, cell_of_row w g _ cur _ _ hg, ← e _ (by omega), ← e _ (by omega)]
    exact ⟨c0, c1⟩

/-- What a slice of fields gives an append. -/
theorem src_xs {w : World} {p : Option Addr} {d : List Fx} (h : d = [] ∨ ∃ b off, p = some ⟨b, off, none⟩ ∧ XsAt w b off d) :
    d.length = 0 ∨ ∃ ad, p = some ad ∧ ∀ j u, (cellsX d)[j]? = some u → w.cell? (ad.add j) = some u := by
  rcases h with rfl | ⟨b, off, rfl, hx⟩
  · exact Or.inl rfl
  · refine Or.inr ⟨_, rfl, fun j u hu => ?_⟩
    have hj : j < d.length * 2 := by
      have := (List.getElem?_eq_some_iff.1 hu).1
      rwa [cellsX_len] at this
    have hk : j / 2 < d.length := by omega
    obtain ⟨c0, c1⟩ := cellsX_get d (j / 2) hk
    obtain ⟨m0, m1⟩ := hx (j / 2) hk
    rw [addr_add]
    by_cases e : j % 2 = 0
    · have ej : j = j / 2 * 2 := by omega
      rw [ej] at hu ⊢
      rw [c0] at hu
      rw [m0]; exact hu
    · have ej : j = j / 2 * 2 + 1 := by omega
      rw [ej] at hu ⊢
      rw [c1] at hu
      rw [← Nat.add_assoc, m1]; exact hu

/-- What a slice of texts gives an append. -/
theorem src_ts {w : World} {p : Option Addr} {ts : List ByteArray} (h : TxtAt w p ts) :
    ts.length = 0 ∨ ∃ ad, p = some ad ∧ ∀ j u, (ts.map Value.string)[j]? = some u → w.cell? (ad.add j) = some u := by
  rcases h with rfl | ⟨b, off, rfl, hx⟩
  · exact Or.inl rfl
  · refine Or.inr ⟨_, rfl, fun j u hu => ?_⟩
    have hj : j < ts.length := by simpa using (List.getElem?_eq_some_iff.1 hu).1
    rw [addr_add, hx j hj]
    rw [List.getElem?_map, List.getElem?_eq_getElem hj] at hu
    exact hu

theorem txts_one (ts : List ByteArray) : ∀ u ∈ ts.map Value.string, u.oneCell' = true := by
  intro u hu
  obtain ⟨t, _, rfl⟩ := List.mem_map.1 hu
  rfl

/-- What the reference's Texts answers. -/
def RtPost (w : World) (ts : List ByteArray) (e : Ending) (w' : World) : Prop := (∃ p c, e = .returned (.slice p ts.length c) ∧ TxtAt w p ts) ∧ w' = w

end Go.Proofs.YtinmagodckkedaaGreat

/-
  How long a value's bytes are, and how many blanks its line has.
-/
namespace Go.Proofs.YtinmagodckkedaaGreat
open Go.RowKit Go.Lib

/-- What ValueSizes counts. -/
def cntF (f : Fld) : Nat := 2 + f.1.size + (f.2.map fun t => 1 + t.size).sum
def cntB (fs : List Fld) : Nat := 1 + (fs.map cntF).sum

theorem encTs_len (ts : List ByteArray) : (ts.flatMap encT).length = (ts.map fun t => 1 + t.size).sum := by
  induction ts with
  | nil => rfl
  | cons t ts ih =>
    rw [List.flatMap_cons, List.length_append, encT_len, ih, List.map_cons, List.sum_cons]
    omega

theorem encF_cnt (f : Fld) : (encF f).length = cntF f := by
  unfold encF cntF
  rw [List.length_append, List.length_append, encT_len, encTs_len]
  simp only [List.length_cons, List.length_nil]
  omega

theorem encL_cnt (fs : List Fld) : (encL fs).length = cntB fs := by
  unfold encL cntB
  rw [List.length_cons]
  have : (fs.flatMap encF).length = (fs.map cntF).sum := by
    induction fs with
    | nil => rfl
    | cons f fs ih => rw [List.flatMap_cons, List.length_append, encF_cnt, ih, List.map_cons, List.sum_cons]
  omega

/-- The blanks of a text. -/
def blanks (l : List UInt8) : Nat := l.countP fun c => c == 32

theorem blanks_append (a b : List UInt8) : blanks (a ++ b) = blanks a + blanks b := List.countP_append ..

theorem blanks_join : ∀ ws : List (List UInt8), (∀ w ∈ ws, blanks w = 0) → blanks (Lib.join ws [32]) = ws.length - 1
  | [], _ => rfl
  | [w], h => by
    have := h w (by simp)
    simpa [Lib.join] using this
  | w :: v :: ws, h => by
    have h1 := h w (by simp)
    have ih := blanks_join (v :: ws) (fun x hx => h x (by simp [hx]))
    have e : Lib.join (w :: v :: ws) [32] = w ++ [32] ++ Lib.join (v :: ws) [32] := by simp [Lib.join]
    rw [e, blanks_append, blanks_append, h1, ih]
    simp [blanks]
    omega

theorem field_noblank {l : List UInt8} (h : fieldB l = true) : blanks l = 0 := by
  unfold blanks
  rw [List.countP_eq_zero]
  intro c hc
  unfold fieldB spell at h
  cases l with
  | nil => simp at hc
  | cons x r =>
    simp only [Bool.and_eq_true, List.all_eq_true] at h
    have key : lodB (c.toNat : Int) = true ∨ smallB (c.toNat : Int) = true := by
      rcases List.mem_cons.1 hc with rfl | hc
      · exact Or.inr h.1.2
      · exact Or.inl (h.2 c hc)
    intro e
    have e : c = 32 := by simpa using e
    subst e
    rcases key with k | k
    · revert k; decide
    · revert k; decide

theorem hexd_noblank (k : Nat) (h : k < 16) : (hexd k == 32) = false := by
  have t : ((List.range 16).all fun k => !(hexd k == 32)) = true := by decide
  have := List.all_eq_true.1 t k (List.mem_range.2 h)
  simpa using this

theorem write_noblank (l : List UInt8) : blanks (writeL l) = 0 := by
  induction l with
  | nil => rfl
  | cons c l ih =>
    rw [writeL_cons, blanks_append, ih]
    unfold writeC
    cases hp : plainB (c.toNat : Int) with
    | true =>
      have : (c == 32) = false := by
        rw [beq_eq_false_iff_ne]
        intro e
        subst e
        revert hp; decide
      simp [blanks, this]
    | false =>
      have hc := c.toNat_lt
      simp [blanks, hexd_noblank (c.toNat / 16) (by omega), hexd_noblank (c.toNat % 16) (by omega)]

theorem word_data (n t : ByteArray) : (wordOf n t).data.toList = n.data.toList ++ [61] ++ writeL t.data.toList := by
  unfold wordOf
  obtain ⟨⟨n⟩⟩ := n
  simp

theorem word_noblank {n t : ByteArray} (h : fieldB n.data.toList = true) : blanks (wordOf n t).data.toList = 0 := by
  rw [word_data, blanks_append, blanks_append, field_noblank h, write_noblank]
  rfl

theorem words_cnt (fs : List Fld) : (wordsL fs).length = totF fs := by
  unfold wordsL totF
  induction fs with
  | nil => rfl
  | cons f fs ih => rw [List.flatMap_cons, List.length_append, ih]; simp [wordsF]

theorem line_blanks {fs : List Fld} (h : mayB fs = true) : blanks (lineOf fs).data.toList = totF fs - 1 := by
  unfold lineOf
  show blanks (Lib.join ((wordsL fs).map (·.data.toList)) [32]).toArray.toList = _
  rw [List.toList_toArray, blanks_join, List.length_map, words_cnt]
  intro w hw
  obtain ⟨x, hx, rfl⟩ := List.mem_map.1 hw
  obtain ⟨f, hf, hx⟩ := List.mem_flatMap.1 hx
  obtain ⟨t, _, rfl⟩ := List.mem_map.1 hx
  exact word_noblank (fits_parts (may_fits h f hf)).2.2.2.2

theorem line_empty (fs : List Fld) : (lineOf fs).size = 0 ↔ totF fs = 0 := by
  have e : (lineOf fs).size = (Lib.join ((wordsL fs).map (·.data.toList)) [32]).length := by
    show (Lib.join ((wordsL fs).map (·.data.toList)) [32]).toArray.size = _
    simp
  rw [e, ← words_cnt]
  cases hw : wordsL fs with
  | nil => simp [Lib.join, List.intercalate]
  | cons x r =>
    have hx : x ∈ wordsL fs := by rw [hw]; simp
    obtain ⟨f, hf, hx⟩ := List.mem_flatMap.1 hx
    obtain ⟨t, _, rfl⟩ := List.mem_map.1 hx
    have hl : 0 < (wordOf f.1 t).data.toList.length := by rw [word_data]; simp; omega
    constructor
    · intro h
      exfalso
      cases r with
      | nil =>
        rw [List.map_cons, List.map_nil, Lib.join_one] at h
        omega
      | cons y r =>
        have : Lib.join ((wordOf f.1 t :: y :: r).map (·.data.toList)) [32] = (wordOf f.1 t).data.toList ++ [32] ++ Lib.join ((y :: r).map (·.data.toList)) [32] := by simp [Lib.join]
        rw [this] at h
        simp at h
    · intro h; simp at h

theorem join_size (c : Nat) : ∀ ws : List (List UInt8), (∀ w ∈ ws, w.length ≤ c) → (Lib.join ws [32]).length ≤ ws.length * (c + 1)
  | [], _ => by simp [Lib.join, List.intercalate]
  | [w], h => by
    have := h w (by simp)
    rw [Lib.join_one]
    simp
    omega
  | w :: v :: ws, h => by
    have h1 := h w (by simp)
    have ih := join_size c (v :: ws) (fun x hx => h x (by simp [hx]))
    have e : Lib.join (w :: v :: ws) [32] = w ++ [32] ++ Lib.join (v :: ws) [32] := by simp [Lib.join]
    have e2 : (w :: v :: ws).length * (c + 1) = (v :: ws).length * (c + 1) + (c + 1) := by rw [List.length_cons, Nat.add_mul, Nat.one_mul]
    have e3 : ([32] : List UInt8).length = 1 := rfl
    rw [e, List.length_append, List.length_append, e2, e3]
    omega

theorem line_size {fs : List Fld} (h : mayB fs = true) : (lineOf fs).size ≤ 53504 := by
  have e : (lineOf fs).size = (Lib.join ((wordsL fs).map (·.data.toList)) [32]).length := by
    show (Lib.join ((wordsL fs).map (·.data.toList)) [32]).toArray.size = _
    simp
  have h1 := join_size 417 ((wordsL fs).map (·.data.toList)) (fun w hw => by
    obtain ⟨x, hx, rfl⟩ := List.mem_map.1 hw
    obtain ⟨f, hf, hx⟩ := List.mem_flatMap.1 hx
    obtain ⟨t, ht, rfl⟩ := List.mem_map.1 hx
    simpa using word_len (may_fits h f hf) ht)
  have h2 := wordsL_len (fun f hf => may_fits h f hf) (may_parts h).1
  rw [List.length_map] at h1
  have h3 : (wordsL fs).length * (417 + 1) ≤ 128 * (417 + 1) := Nat.mul_le_mul_right _ h2
  omega

theorem cnt_small {fs : List Fld} (h : mayB fs = true) (i : Nat) : 1 + ((fs.take i).map cntF).sum ≤ 17057 := by
  have h1 : ((fs.take i).map cntF).sum = ((fs.take i).flatMap encF).length := by
    generalize fs.take i = gs
    induction gs with
    | nil => rfl
    | cons f gs ih => rw [List.flatMap_cons, List.length_append, encF_cnt, ← ih, List.map_cons, List.sum_cons]
  have := enc_ahead h i
  omega

theorem tot_small {fs : List Fld} (h : mayB fs = true) (i : Nat) : totF (fs.take i) ≤ 128 := by
  rw [← words_cnt]
  refine wordsL_len (fun f hf => may_fits h f (List.mem_of_mem_take hf)) ?_
  have := (may_parts h).1
  rw [List.length_take]
  omega

end Go.Proofs.YtinmagodckkedaaGreat

/-
  What ValueKeeps makes and writes: rows with spare room, and fields that are written over.
-/
namespace Go.Proofs.YtinmagodckkedaaGreat
open Go.RowKit Go.Lib

theorem Tryz.infoTs : (Tryz.prog.info? 28).map (fun i => (i.zero, i.size, i.bytes)) = some (some (.slice none 0 0), 1, 24) := by kernel_rfl

def markA : ByteArray := ⟨#[109, 97, 114, 107]⟩

/-- The texts of x lie in a block of their own at or behind N, with two cells of spare room: the mark, and nothing. -/
def RoomAt (N : Nat) (W : World) (x : Fx) : Prop :=
  ∃ g, x.p = some ⟨g, 0, none⟩ ∧ x.cap = x.txt.length + 2 ∧ N ≤ g ∧ W.heap[g]? = some (.cells (x.txt.map Value.string ++ [Value.string markA, Value.string ⟨#[]⟩]).toArray 9 (0, 0))

theorem RoomAt.on {N : Nat} {W W' : World} {x : Fx} (h : RoomAt N W x) (hb : Below W.heap.size W W') : RoomAt N W' x := by
  obtain ⟨g, h1, h2, h3, h4⟩ := h
  exact ⟨g, h1, h2, h3, (hb.block g (Array.getElem?_eq_some_iff.1 h4).1).trans h4⟩

theorem RoomAt.else {N m0 : Nat} {W W' : World} {x : Fx} {e : TypeId} {size : Nat} {u : Value} {m : Nat} {ys : List Value} (h : RoomAt N W x) (hu : W.ownsRow m0 e size u m ys) (hne : e ≠ 9) (hg : W.grownBy W' u.ownBlock) : RoomAt N W' x := by
  obtain ⟨g, h1, h2, h3, h4⟩ := h
  refine ⟨g, h1, h2, h3, (hg.block g (Array.getElem?_eq_some_iff.1 h4).1 fun e2 => ?_).trans h4⟩
  obtain ⟨cs', h5⟩ := own_type hu e2.symm
  rw [h4] at h5
  injection h5 with h5
  injection h5 with _ h5
  exact hne h5.symm

theorem RoomAt.at {N : Nat} {W : World} {x : Fx} (h : RoomAt N W x) : x.at W := by
  obtain ⟨g, h1, _, _, h4⟩ := h
  refine Or.inr ⟨g, 0, h1, fun i hi => ?_⟩
  rw [Nat.zero_add, cell_of_row W g i _ _ _ h4]
  simp [List.getElem?_append, hi]

theorem RoomAt.mark {N : Nat} {W : World} {x : Fx} (h : RoomAt N W x) : ∃ g, x.p = some ⟨g, 0, none⟩ ∧ x.cap = x.txt.length + 2 ∧ W.cell? ⟨g, x.txt.length, none⟩ = some (.string markA) := by
  obtain ⟨g, h1, h2, _, h4⟩ := h
  refine ⟨g, h1, h2, ?_⟩
  rw [cell_of_row W g _ _ _ _ h4]
  simp

/-- What the first loop has made. -/
structure Ins (w : World) (e : List Fx) (vi vr : Value) (W : World) : Prop where
  row : RowX w.heap.size W vi e
  rooms : W.ownsRow w.heap.size 28 1 vr e.length (e.map Fx.sl)
  each : ∀ x ∈ e, RoomAt w.heap.size W x
  bel : Below w.heap.size w W

theorem Ins.on {w W W' : World} {e : List Fx} {vi vr : Value} (h : Ins w e vi vr W) (hb : Below W.heap.size W W') : Ins w e vi vr W' :=
  ⟨own_on h.row hb, own_on h.rooms hb, fun x hx => (h.each x hx).on hb, h.bel.trans (hb.mono h.bel.size)⟩

theorem Ins.is {w W : World} {e : List Fx} {vi vr : Value} (h : Ins w e vi vr W) : IsXs W vi e := h.row.is fun x hx => (h.each x hx).at

/-- The cells of a new room, the texts copied and the mark set. -/
theorem room_cells (ts : List ByteArray) : ((splice (List.replicate (ts.length + 2) (Value.string ⟨#[]⟩)) 0 (ts.map Value.string)).toArray.setIfInBounds ts.length (.string markA)) = (ts.map Value.string ++ [Value.string markA, Value.string ⟨#[]⟩]).toArray := by
  apply Array.toList_inj.1
  rw [Array.toList_setIfInBounds]
  simp only [splice, List.take_zero, List.nil_append, List.length_map, Nat.zero_add, List.drop_replicate]
  rw [show ts.length + 2 - ts.length = 2 by omega, List.set_append_right _ _ (by simp)]
  simp

theorem made_strs (n : Nat) : madeCells (Value.string ⟨#[]⟩).cells ((n + 2) * 1) = (List.replicate (n + 2) (Value.string ⟨#[]⟩)).toArray := by
  apply Array.toList_inj.1
  apply List.ext_getElem
  · simp [madeCells]
  · intro i h1 h2
    simp [madeCells, Value.cells]
    rw [Nat.mod_one]
    rfl

theorem own_same {w w' : World} {n0 : Nat} {e : TypeId} {size : Nat} {v : Value} {n : Nat} {xs : List Value} (h : w.ownsRow n0 e size v n xs) (hk : ∀ k, v.ownBlock = some k → w'.heap[k]? = w.heap[k]?) : w'.ownsRow n0 e size v n xs := by
  refine ⟨h.1, ?_⟩
  rcases h.2 with h2 | ⟨g, cap, cur, hv, h3, h4, h5⟩
  · exact Or.inl h2
  · exact Or.inr ⟨g, cap, cur, hv, h3, (hk g (by rw [hv]; rfl)).trans h4, h5⟩

/-- Blocks ahead of A, and from B up to C, are as they were. -/
structure KeptZ (A B C : Nat) (we W : World) : Prop where
  os : W.os = we.os
  tape : W.tape = we.tape
  output : W.output = we.output
  size : C ≤ W.heap.size
  block : ∀ k, k < C → (k < A ∨ B ≤ k) → W.heap[k]? = we.heap[k]?

def ZoneV (B C : Nat) (v : Value) : Prop := ∀ k, v.ownBlock = some k → k < B ∨ C ≤ k

theorem KeptZ.grown {A B C : Nat} {we W W' : World} {ob : Option Nat} (h : KeptZ A B C we W) (hg : W.grownBy W' ob) (hz : ∀ k, ob = some k → A ≤ k ∧ (k < B ∨ C ≤ k)) : KeptZ A B C we W' :=
  ⟨hg.os.trans h.os, hg.tape.trans h.tape, hg.output.trans h.output, Nat.le_trans h.size hg.size, fun k hk hz2 => (hg.block k (Nat.lt_of_lt_of_le hk h.size) fun e => by
    have := hz k e.symm
    omega).trans (h.block k hk hz2)⟩

theorem grown_alloc (w : World) (o : Obj) : w.grownBy (w.alloc o) none := by
  have := (Below.refl w.heap.size w).alloc (Nat.le_refl _) o
  exact ⟨this.os, this.tape, this.output, this.size, fun k hk _ => this.block k hk⟩

theorem KeptZ.below {A B C : Nat} {we W : World} (h : KeptZ A B C we W) (hAC : A ≤ C) (hC : we.heap.size ≤ C) : Below A we W :=
  ⟨h.os, h.tape, h.output, Nat.le_trans hC h.size, fun k hk => h.block k (by omega) (Or.inl hk)⟩

/-- The fields o, written over in place. -/
structure XSt (A B C : Nat) (we : World) (u : Value) (o : List Fx) (W : World) : Prop where
  own : OwnJ A W u o
  zu : ZoneV B C u
  zo : ∀ x ∈ o, ZoneV B C x.sl
  kept : KeptZ A B C we W

theorem cellsX_set (o : List Fx) (i : Nat) (h : i < o.length) (x : Fx) : cellsX (o.set i x) = ((cellsX o).set (i * 2) (.string x.name)).set (i * 2 + 1) x.sl := by
  induction o generalizing i with
  | nil => simp at h
  | cons y o ih =>
    have e : ∀ z l, cellsX (z :: l) = .string z.name :: z.sl :: cellsX l := fun _ _ => rfl
    cases i with
    | zero => rw [List.set_cons_zero, e, e]; rfl
    | succ i =>
      rw [List.set_cons_succ, e, e, ih i (by simpa using h), show (i + 1) * 2 = i * 2 + 1 + 1 by omega]
      rfl

theorem apart_ne {o : List Fx} (h : Apart o) {i j : Nat} (hi : i < o.length) (hj : j < o.length) (hne : i ≠ j) : (o[i]).sl.ownBlock = none ∨ (o[i]).sl.ownBlock ≠ (o[j]).sl.ownBlock := by
  have hp := List.pairwise_iff_getElem.1 h
  rcases Nat.lt_or_gt_of_ne hne with hl | hl
  · exact hp i j hi hj hl
  · rcases hp j i hj hi hl with h1 | h1
    · rcases hb : (o[i]).sl.ownBlock with _ | k
      · exact Or.inl rfl
      · right; rw [h1]; simp
    · exact Or.inr (Ne.symm h1)

theorem apart_set {o : List Fx} (h : Apart o) {i : Nat} (_hi : i < o.length) {x : Fx} (hx : ∀ j, (hj : j < o.length) → j ≠ i → (o[j]).sl.ownBlock = none ∨ (o[j]).sl.ownBlock ≠ x.sl.ownBlock) : Apart (o.set i x) := by
  have hp := List.pairwise_iff_getElem.1 h
  refine List.pairwise_iff_getElem.2 fun a b ha hb hab => ?_
  rw [List.length_set] at ha hb
  rw [List.getElem_set, List.getElem_set]
  by_cases h1 : i = a
  · subst h1
    rw [if_pos rfl, if_neg (by omega)]
    rcases hx b hb (by omega) with h2 | h2
    · rcases hq : x.sl.ownBlock with _ | k
      · exact Or.inl rfl
      · right; rw [h2]; simp
    · exact Or.inr (Ne.symm h2)
  · rw [if_neg h1]
    by_cases h2 : i = b
    · subst h2
      rw [if_pos rfl]
      exact hx a ha (by omega)
    · rw [if_neg h2]
      exact hp a b ha hb hab

/-- The row of fields u has its block. -/
theorem XSt.shape {A B C : Nat} {we W : World} {u : Value} {o : List Fx} (h : XSt A B C we u o W) (hpos : 0 < o.length) : ∃ g c, u = .slice (some ⟨g, 0, none⟩) o.length c := by
  rcases h.own.1.1.2 with ⟨_, h0⟩ | ⟨g, c, cur, hv, _⟩
  · omega
  · exact ⟨g, c, hv⟩

/-- What can be read of the field i, and that it can be written. -/
theorem XSt.cells {A B C : Nat} {we W : World} {g c n : Nat} {o : List Fx} (h : XSt A B C we (.slice (some ⟨g, 0, none⟩) n c) o W) (hn : o.length = n) {i : Nat} (hi : i < o.length) :
    W.cell? ⟨g, i * 2, none⟩ = some (.string (o[i]).name) ∧ W.cell? ⟨g, i * 2 + 1, none⟩ = some (o[i]).sl ∧ W.frozen? ⟨g, i * 2, none⟩ = false ∧ W.frozen? ⟨g, i * 2 + 1, none⟩ = false := by
  subst hn
  have hrow := h.own.1.1
  obtain ⟨h1, h2⟩ := cellsX_get o i hi
  exact ⟨by rw [hrow.cellAt _ (by omega)]; exact h1, by rw [hrow.cellAt _ (by omega)]; exact h2, hrow.frozenAt _, hrow.frozenAt _⟩

theorem sl_lt {A : Nat} {W : World} {x : Fx} (h : OwnT A W x.sl x.txt) : ∀ k, x.sl.ownBlock = some k → A ≤ k := fun k hk => (World.ownsRow.lt h k hk).1

/-- One text is written over. -/
theorem XSt.wipe {A B C : Nat} {we W : World} {u : Value} {o : List Fx} (h : XSt A B C we u o W) {i : Nat} (hi : i < o.length) {j gt : Nat} (hp : (o[i]).p = some ⟨gt, 0, none⟩) (t : ByteArray) :
    XSt A B C we u (o.set i ⟨(o[i]).name, (o[i]).p, (o[i]).cap, (o[i]).txt.set j t⟩) (W.setCell ⟨gt, j, none⟩ (.string t)) := by
  have hti := h.own.1.2 _ (List.getElem_mem hi)
  have hbi : (o[i]).sl.ownBlock = some gt := by unfold Fx.sl; rw [hp]; rfl
  have hg : W.grownBy (W.setCell ⟨gt, j, none⟩ (.string t)) (o[i]).sl.ownBlock := by rw [hbi]; exact grown_set W gt j _
  have hsl : (⟨(o[i]).name, (o[i]).p, (o[i]).cap, (o[i]).txt.set j t⟩ : Fx).sl = (o[i]).sl := by unfold Fx.sl; simp
  have hnew : OwnT A (W.setCell ⟨gt, j, none⟩ (.string t)) (o[i]).sl ((o[i]).txt.set j t) := by
    have e : (o[i]).sl = .slice (some ⟨gt, 0, none⟩) (o[i]).txt.length (o[i]).cap := by unfold Fx.sl; rw [hp]
    have h1 : W.ownsRow A 9 1 (.slice (some ⟨gt, 0, none⟩) (o[i]).txt.length (o[i]).cap) (o[i]).txt.length ((o[i]).txt.map Value.string) := by rw [← e]; exact hti
    have h2 := (h1.stored j (.string t)).1
    unfold OwnT
    rw [e, List.length_set, List.map_set]
    exact h2
  refine ⟨⟨⟨?_, fun x hx => ?_⟩, ?_⟩, h.zu, fun x hx => ?_, h.kept.grown hg fun k hk => ⟨sl_lt hti k hk, h.zo _ (List.getElem_mem hi) k hk⟩⟩
  · rw [List.length_set, cellsX_set _ _ hi, hsl]
    obtain ⟨c0, c1⟩ := cellsX_get o i hi
    have e1 : ((cellsX o).set (i * 2) (.string (o[i]).name)).set (i * 2 + 1) (o[i]).sl = cellsX o := by
      apply List.ext_getElem?
      intro q
      rw [List.getElem?_set, List.getElem?_set]
      simp only [List.length_set]
      have hl := cellsX_len o
      split
      · rename_i hq; subst hq; rw [if_pos (by omega)]; exact c1.symm
      · split
        · rename_i hq; subst hq; rw [if_pos (by omega)]; exact c0.symm
        · rfl
    rw [e1]
    exact own_else h.own.1.1 hti (by decide) hg
  · obtain ⟨q, hq, rfl⟩ := List.mem_iff_getElem.1 hx
    rw [List.length_set] at hq
    rw [List.getElem_set]
    by_cases e : i = q
    · rw [if_pos e, hsl]; exact hnew
    · rw [if_neg e]
      exact World.ownsRow.kept (h.own.1.2 _ (List.getElem_mem hq)) hg (apart_ne h.own.2 hq hi (by omega))
  · refine apart_set h.own.2 hi fun q hq hne => ?_
    rw [hsl]
    exact apart_ne h.own.2 hq hi hne
  · obtain ⟨q, hq, rfl⟩ := List.mem_iff_getElem.1 hx
    rw [List.length_set] at hq
    rw [List.getElem_set]
    by_cases e : i = q
    · rw [if_pos e, hsl]; exact h.zo _ (List.getElem_mem hi)
    · rw [if_neg e]; exact h.zo _ (List.getElem_mem hq)

/-- The name is written over. -/
theorem XSt.rename {A B C : Nat} {we W : World} {g c n : Nat} {o : List Fx} (h : XSt A B C we (.slice (some ⟨g, 0, none⟩) n c) o W) (hn : o.length = n) {i : Nat} (hi : i < o.length) (nm : ByteArray) :
    XSt A B C we (.slice (some ⟨g, 0, none⟩) n c) (o.set i ⟨nm, (o[i]).p, (o[i]).cap, (o[i]).txt⟩) (W.setCell ⟨g, i * 2, none⟩ (.string nm)) := by
  subst hn
  have hrow := h.own.1.1
  have hg : W.grownBy (W.setCell ⟨g, i * 2, none⟩ (.string nm)) (Value.slice (some ⟨g, 0, none⟩) o.length c).ownBlock := grown_set W g _ _
  have hsl : (⟨nm, (o[i]).p, (o[i]).cap, (o[i]).txt⟩ : Fx).sl = (o[i]).sl := rfl
  refine ⟨⟨⟨?_, fun x hx => ?_⟩, ?_⟩, h.zu, fun x hx => ?_, h.kept.grown hg fun k hk => ⟨(World.ownsRow.lt hrow k hk).1, h.zu k hk⟩⟩
  · have hst := (hrow.stored (i * 2) (.string nm)).1
    rw [List.length_set, cellsX_set _ _ hi, hsl]
    have e1 : ((cellsX o).set (i * 2) (.string nm)).set (i * 2 + 1) (o[i]).sl = (cellsX o).set (i * 2) (.string nm) := by
      apply List.ext_getElem?
      intro q
      rw [List.getElem?_set]
      split
      · rename_i hq
        subst hq
        rw [if_pos (by rw [List.length_set, cellsX_len]; omega), List.getElem?_set_ne (by omega)]
        exact ((cellsX_get o i hi).2).symm
      · rfl
    rw [e1]
    exact hst
  · obtain ⟨q, hq, rfl⟩ := List.mem_iff_getElem.1 hx
    rw [List.length_set] at hq
    rw [List.getElem_set]
    by_cases e : i = q
    · rw [if_pos e]; exact own_else (show W.ownsRow A 9 1 (o[i]).sl (o[i]).txt.length ((o[i]).txt.map Value.string) from h.own.1.2 _ (List.getElem_mem hi)) hrow (by decide) hg
    · rw [if_neg e]; exact own_else (h.own.1.2 _ (List.getElem_mem hq)) hrow (by decide) hg
  · refine apart_set h.own.2 hi fun q hq hne => ?_
    rw [hsl]
    exact apart_ne h.own.2 hq hi hne
  · obtain ⟨q, hq, rfl⟩ := List.mem_iff_getElem.1 hx
    rw [List.length_set] at hq
    rw [List.getElem_set]
    by_cases e : i = q
    · rw [if_pos e, hsl]; exact h.zo _ (List.getElem_mem hi)
    · rw [if_neg e]; exact h.zo _ (List.getElem_mem hq)

/-- A block more, that nobody owns. -/
theorem XSt.alloc {A B C : Nat} {we W : World} {u : Value} {o : List Fx} (h : XSt A B C we u o W) (ob : Obj) : XSt A B C we u o (W.alloc ob) :=
  ⟨h.own.on ((Below.refl _ _).alloc (Nat.le_refl _) _), h.zu, h.zo, h.kept.grown (grown_alloc W ob) fun k hk => by cases hk⟩

/-- The texts have grown by one, and are stored back. -/
theorem XSt.grow {A B C : Nat} {we W W4 : World} {g c n : Nat} {o : List Fx} (h : XSt A B C we (.slice (some ⟨g, 0, none⟩) n c) o W) (hn : o.length = n) {i : Nat} (hi : i < o.length) {p : Option Addr} {m cap : Nat} {ts : List ByteArray}
    (hm : ts.length = m) (hown : W4.ownsRow A 9 1 (.slice p m cap) m (ts.map Value.string)) (hg : W.grownBy W4 (o[i]).sl.ownBlock) (hat : (Value.slice p m cap).ownBlock = (o[i]).sl.ownBlock ∨ (Value.slice p m cap).ownBlock = some W.heap.size) :
    W4.cell? ⟨g, i * 2 + 1, none⟩ = some (o[i]).sl ∧ W4.frozen? ⟨g, i * 2 + 1, none⟩ = false ∧
      XSt A B C we (.slice (some ⟨g, 0, none⟩) n c) (o.set i ⟨(o[i]).name, p, cap, ts⟩) (W4.setCell ⟨g, i * 2 + 1, none⟩ (.slice p m cap)) := by
  subst hn
  subst hm
  have hrow := h.own.1.1
  have hti := h.own.1.2 _ (List.getElem_mem hi)
  have hrow4 : W4.ownsRow A 40 2 (.slice (some ⟨g, 0, none⟩) o.length c) o.length (cellsX o) := own_else hrow hti (by decide) hg
  have hset : W4.grownBy (W4.setCell ⟨g, i * 2 + 1, none⟩ (.slice p ts.length cap)) (Value.slice (some ⟨g, 0, none⟩) o.length c).ownBlock := grown_set W4 g _ _
  have hk4 : KeptZ A B C we W4 := h.kept.grown hg fun k hk => ⟨sl_lt hti k hk, h.zo _ (List.getElem_mem hi) k hk⟩
  have hzn : ZoneV B C (.slice p ts.length cap) := fun k hk => by
    rcases hat with e | e
    · exact h.zo _ (List.getElem_mem hi) k (by rw [← e]; exact hk)
    · have := h.kept.size
      rw [e] at hk
      have : W.heap.size = k := by simpa using hk
      omega
  refine ⟨by rw [hrow4.cellAt _ (by omega)]; exact (cellsX_get o i hi).2, hrow4.frozenAt _, ⟨⟨⟨?_, fun x hx => ?_⟩, ?_⟩, h.zu, fun x hx => ?_, hk4.grown hset fun k hk => ⟨(World.ownsRow.lt hrow k hk).1, h.zu k hk⟩⟩⟩
  · have hst := (hrow4.stored (i * 2 + 1) (.slice p ts.length cap)).1
    rw [List.length_set, cellsX_set _ _ hi]
    have e1 : (cellsX o).set (i * 2) (.string (o[i]).name) = cellsX o := by
      apply List.ext_getElem?
      intro q
      rw [List.getElem?_set]
      split
      · rename_i hq
        subst hq
        rw [if_pos (by rw [cellsX_len]; omega)]
        exact ((cellsX_get o i hi).1).symm
      · rfl
    rw [e1]
    exact hst
  · obtain ⟨q, hq, rfl⟩ := List.mem_iff_getElem.1 hx
    rw [List.length_set] at hq
    rw [List.getElem_set]
    by_cases e : i = q
    · rw [if_pos e]; exact own_else (show W4.ownsRow A 9 1 (.slice p ts.length cap) ts.length (ts.map Value.string) from hown) hrow4 (by decide) hset
    · rw [if_neg e]
      have hy4 : W4.ownsRow A 9 1 (o[q]).sl (o[q]).txt.length ((o[q]).txt.map Value.string) := World.ownsRow.kept (h.own.1.2 _ (List.getElem_mem hq)) hg (apart_ne h.own.2 hq hi (by omega))
      exact own_else hy4 hrow4 (by decide) hset
  · refine apart_set h.own.2 hi fun q hq hne => ?_
    show (o[q]).sl.ownBlock = none ∨ (o[q]).sl.ownBlock ≠ (Value.slice p ts.length cap).ownBlock
    rcases hat with e | e
    · rw [e]; exact apart_ne h.own.2 hq hi hne
    · rcases hb : (o[q]).sl.ownBlock with _ | k
      · exact Or.inl rfl
      · right
        have := (World.ownsRow.lt (h.own.1.2 _ (List.getElem_mem hq)) k hb).2
        rw [e]
        intro e2
        simp at e2; omega
  · obtain ⟨q, hq, rfl⟩ := List.mem_iff_getElem.1 hx
    rw [List.length_set] at hq
    rw [List.getElem_set]
    by_cases e : i = q
    · rw [if_pos e]; exact hzn
    · rw [if_neg e]; exact h.zo _ (List.getElem_mem hq)

/-- What Norm answers, its rows apart. -/
def NJPost (w : World) (fs : List Fld) (e : Ending) (w' : World) : Prop :=
  (∃ u o, e = .returned (.tuple #[u, .int .i64 (codeF fs)]) ∧ OwnJ w.heap.size w' u o ∧ o.map Fx.fld = ansF fs) ∧ Below w.heap.size w w'

theorem own_noneJ (N : Nat) (w : World) : OwnJ N w (.slice none 0 0) [] := ⟨own_none _ _, List.Pairwise.nil⟩

theorem ans_small {fs : List Fld} : ∀ f ∈ ansF fs, f.2.length ≤ 8 := by
  unfold ansF
  split
  · rename_i h
    exact fun f hf => (fits_parts (may_fits (codeF_zero h).2.2 f hf)).2.2.1
  · intro f hf; simp at hf

end Go.Proofs.YtinmagodckkedaaGreat

/-
  Fields of one's own: a field put in its place, and what stays when others only add to memory.
-/
namespace Go.Proofs.YtinmagodckkedaaGreat
open Go.RowKit

theorem XSt.on {A B C : Nat} {we W W' : World} {u : Value} {o : List Fx} (h : XSt A B C we u o W) (hb : Below W.heap.size W W') : XSt A B C we u o W' :=
  ⟨h.own.on hb, h.zu, h.zo, ⟨hb.os.trans h.kept.os, hb.tape.trans h.kept.tape, hb.output.trans h.kept.output, Nat.le_trans h.kept.size hb.size, fun k hk hz => (hb.block k (by have := h.kept.size; omega)).trans (h.kept.block k hk hz)⟩⟩

theorem XSt.below {N : Nat} {we W : World} {u : Value} {o : List Fx} (h : XSt N N N we u o W) (hN : N = we.heap.size) : Below N we W := h.kept.below (Nat.le_refl _) (by omega)

theorem XSt.put {A B C : Nat} {we W : World} {g c n : Nat} {o : List Fx} (h : XSt A B C we (.slice (some ⟨g, 0, none⟩) n c) o W) (hn : o.length = n) {i : Nat} (hi : i < o.length) (x : Fx) (hx : OwnT A W x.sl x.txt) (hz : ZoneV B C x.sl)
    (hf : ∀ j, (hj : j < o.length) → j ≠ i → (o[j]).sl.ownBlock = none ∨ (o[j]).sl.ownBlock ≠ x.sl.ownBlock) :
    XSt A B C we (.slice (some ⟨g, 0, none⟩) n c) (o.set i x) ((W.setCell ⟨g, i * 2, none⟩ (.string x.name)).setCell ⟨g, i * 2 + 1, none⟩ x.sl) := by
  subst hn
  have hrow := h.own.1.1
  have hg : W.grownBy ((W.setCell ⟨g, i * 2, none⟩ (.string x.name)).setCell ⟨g, i * 2 + 1, none⟩ x.sl) (Value.slice (some ⟨g, 0, none⟩) o.length c).ownBlock := grown_trans (grown_set W g _ _) (grown_set _ g _ _)
  refine ⟨⟨⟨?_, fun y hy => ?_⟩, ?_⟩, h.zu, fun y hy => ?_, h.kept.grown hg fun k hk => ⟨(World.ownsRow.lt hrow k hk).1, h.zu k hk⟩⟩
  · have h1 := (hrow.stored (i * 2) (.string x.name)).1
    have h2 := (h1.stored (i * 2 + 1) x.sl).1
    rw [List.length_set, cellsX_set _ _ hi]
    exact h2
  · obtain ⟨q, hq, rfl⟩ := List.mem_iff_getElem.1 hy
    rw [List.length_set] at hq
    rw [List.getElem_set]
    by_cases e : i = q
    · rw [if_pos e]; exact own_else (show W.ownsRow A 9 1 x.sl x.txt.length (x.txt.map Value.string) from hx) hrow (by decide) hg
    · rw [if_neg e]; exact own_else (h.own.1.2 _ (List.getElem_mem hq)) hrow (by decide) hg
  · exact apart_set h.own.2 hi hf
  · obtain ⟨q, hq, rfl⟩ := List.mem_iff_getElem.1 hy
    rw [List.length_set] at hq
    rw [List.getElem_set]
    by_cases e : i = q
    · rw [if_pos e]; exact hz
    · rw [if_neg e]; exact h.zo _ (List.getElem_mem hq)

/-- What a zero field is. -/
def zeroX : Fx := ⟨⟨#[]⟩, none, 0, []⟩

theorem cellsX_zeros (n : Nat) : cellsX (List.replicate n zeroX) = (List.replicate n [Value.string ⟨#[]⟩, Value.slice none 0 0]).flatten := by
  unfold cellsX
  rw [List.flatMap_replicate]
  rfl

theorem apart_zeros (n : Nat) : Apart (List.replicate n zeroX) := by
  unfold Apart
  rw [List.pairwise_replicate]
  exact Or.inr (Or.inl rfl)

end Go.Proofs.YtinmagodckkedaaGreat

/-
  The contract of changed of package refs: a value of its own, in which each text is what a function makes of it.
-/
namespace Go.Proofs.YtinmagodckkedaaGreat
open Go.RowKit

theorem made_flds (n : Nat) : madeCells (Value.agg #[.string ⟨#[]⟩, .slice none 0 0]).cells (n * 2) = (cellsX (List.replicate n zeroX)).toArray := by
  apply Array.ext
  · rw [size_madeCells]; simp [cellsX_len]
  · intro i h1 h2
    have hi : i < n * 2 := by rw [size_madeCells] at h1; exact h1
    have hg := cellsX_get (List.replicate n zeroX) (i / 2) (by simp; omega)
    simp only [List.getElem_replicate] at hg
    have e : (cellsX (List.replicate n zeroX))[i]? = some ((cellsX (List.replicate n zeroX)).toArray[i]) := by
      rw [List.getElem?_eq_getElem (by simpa using h2)]; simp
    rcases Nat.mod_two_eq_zero_or_one i with hm | hm
    · have e1 : i / 2 * 2 = i := by omega
      rw [e1] at hg
      rw [hg.1] at e
      have : (madeCells (Value.agg #[.string ⟨#[]⟩, .slice none 0 0]).cells (n * 2))[i] = .string ⟨#[]⟩ := by
        simp [madeCells, Value.cells, hm]
      rw [this]
      exact Option.some.inj e
    · have e1 : i / 2 * 2 + 1 = i := by omega
      rw [e1] at hg
      rw [hg.2] at e
      have : (madeCells (Value.agg #[.string ⟨#[]⟩, .slice none 0 0]).cells (n * 2))[i] = .slice none 0 0 := by
        simp [madeCells, Value.cells, hm]
      rw [this]
      exact Option.some.inj e

theorem made_txts (n : Nat) : madeCells (Value.string ⟨#[]⟩).cells (n * 1) = (List.replicate n (Value.string ⟨#[]⟩)).toArray := by
  apply Array.ext
  · rw [size_madeCells]; simp
  · intro i h1 h2
    simp [madeCells, Value.cells, Nat.mod_one]

/-- The texts that have been made, ahead of the first round. -/
theorem own_zeros {N : Nat} {w : World} (hN : N ≤ w.heap.size) (n : Nat) (hn : n ≤ maxLen) (S : Nat) (hS : S = w.heap.size) : OwnT N (w.alloc (.cells (List.replicate n (Value.string ⟨#[]⟩)).toArray 9)) (.slice (some ⟨S, 0, none⟩) n n) (List.replicate n ⟨#[]⟩) := by
  subst hS
  refine ⟨by simp, Or.inr ⟨w.heap.size, n, _, by simp, hN, heap_alloc_new w _, by simp, hn, by simp, ?_⟩⟩
  simp

theorem xst_made (w : World) (n : Nat) (hn : n ≤ maxLen) : XSt w.heap.size w.heap.size w.heap.size w (.slice (some ⟨w.heap.size, 0, none⟩) n n) (List.replicate n zeroX) (w.alloc (.cells (cellsX (List.replicate n zeroX)).toArray 40)) := by
  have hl := cellsX_len (List.replicate n zeroX)
  rw [List.length_replicate] at hl
  refine ⟨⟨⟨?_, fun x hx => ?_⟩, apart_zeros n⟩, fun k hk => ?_, fun x hx k hk => ?_, ?_⟩
  · refine ⟨by rw [cellsX_len], Or.inr ⟨w.heap.size, n, _, by simp, Nat.le_refl _, heap_alloc_new w _, by simp, hn, by simp [hl], ?_⟩⟩
    rw [List.length_replicate, List.take_of_length_le (by simp [hl])]
  · rw [List.eq_of_mem_replicate hx]
    exact World.ownsRow_nil _ _ _ _
  · simp [Value.ownBlock] at hk; omega
  · rw [List.eq_of_mem_replicate hx] at hk; cases hk
  · have hb : Below w.heap.size w (w.alloc (.cells (cellsX (List.replicate n zeroX)).toArray 40)) := (Below.refl _ _).alloc (Nat.le_refl _) _
    exact ⟨hb.os, hb.tape, hb.output, hb.size, fun k hk _ => hb.block k hk⟩

/-- What a field's texts are, when j of them have been made. -/
def partT (g : ByteArray → ByteArray) (ts : List ByteArray) (j : Nat) : List ByteArray := (ts.take j).map g ++ List.replicate (ts.length - j) ⟨#[]⟩
theorem partT_len (g : ByteArray → ByteArray) (ts : List ByteArray) (j : Nat) (h : j ≤ ts.length) : (partT g ts j).length = ts.length := by
  unfold partT; simp; omega
theorem partT_zero (g : ByteArray → ByteArray) (ts : List ByteArray) : partT g ts 0 = List.replicate ts.length ⟨#[]⟩ := by simp [partT]
theorem partT_all (g : ByteArray → ByteArray) (ts : List ByteArray) : partT g ts ts.length = ts.map g := by simp [partT]
theorem partT_step (g : ByteArray → ByteArray) (ts : List ByteArray) (j : Nat) (h : j < ts.length) : (partT g ts j).set j (g ts[j]) = partT g ts (j + 1) := by
  unfold partT
  apply List.ext_getElem?
  intro k
  have hl : ((ts.take j).map g).length = j := by simp; omega
  have hl2 : ((ts.take (j + 1)).map g).length = j + 1 := by simp; omega
  rw [List.getElem?_set]
  by_cases hk : j = k
  · subst hk
    rw [if_pos rfl, if_pos (by simp; omega), List.getElem?_append_left (by omega)]
    simp [h]
  · rw [if_neg hk]
    by_cases hlt : k < j
    · rw [List.getElem?_append_left (by omega), List.getElem?_append_left (by omega)]
      simp [hlt, show k < j + 1 by omega]
    · rw [List.getElem?_append_right (by omega), List.getElem?_append_right (by omega), hl, hl2]
      simp only [List.getElem?_replicate]
      by_cases hb : k < ts.length
      · rw [if_pos (by omega), if_pos (by omega)]
      · rw [if_neg (by omega), if_neg (by omega)]

def ChIn (w : World) (d : List Fx) (g : ByteArray → ByteArray) (i : Nat) (o : List Fx) (W : World) : Prop :=
  o.length = d.length ∧ XSt w.heap.size w.heap.size w.heap.size w (.slice (some ⟨w.heap.size, 0, none⟩) d.length d.length) o W ∧ ∀ k, (h : k < o.length) → (h' : k < d.length) → k < i → (o[k]).fld = ((d[k]).name, (d[k]).txt.map g)

theorem ChIn.on {w : World} {d : List Fx} {g : ByteArray → ByteArray} {i : Nat} {o : List Fx} {W W' : World} (h : ChIn w d g i o W) (hb : Below W.heap.size W W') : ChIn w d g i o W' := ⟨h.1, h.2.1.on hb, h.2.2⟩
theorem ChIn.below {w : World} {d : List Fx} {g : ByteArray → ByteArray} {i : Nat} {o : List Fx} {W : World} (h : ChIn w d g i o W) : Below w.heap.size w W := h.2.1.below rfl

theorem ChIn.done {w : World} {d : List Fx} {g : ByteArray → ByteArray} {o : List Fx} {W : World} (h : ChIn w d g d.length o W) : o.map Fx.fld = mapT g (d.map Fx.fld) := by
  obtain ⟨h1, _, h3⟩ := h
  apply List.ext_getElem
  · simp [mapT, h1]
  · intro k hk hk'
    have hk1 : k < o.length := by simpa using hk
    have := h3 k hk1 (by omega) (by omega)
    rw [List.getElem_map, this]
    simp [mapT, Fx.fld]

/-- A row's cells at i. -/
theorem ChIn.cells {w : World} {d : List Fx} {g : ByteArray → ByteArray} {i : Nat} {o : List Fx} {W : World} (h : ChIn w d g i o W) {k : Nat} (hk : k < o.length) :
    W.cell? ⟨w.heap.size, k * 2, none⟩ = some (.string (o[k]).name) ∧ W.cell? ⟨w.heap.size, k * 2 + 1, none⟩ = some (o[k]).sl ∧ (∀ j, W.frozen? ⟨w.heap.size, j, none⟩ = false) := by
  obtain ⟨h1, h2, _⟩ := h
  obtain ⟨c0, c1⟩ := cellsX_get o k hk
  have hrow := h2.own.1.1
  rw [h1] at hrow
  refine ⟨?_, ?_, fun j => World.ownsRow.frozenAt hrow j⟩
  · rw [World.ownsRow.cellAt hrow (k * 2) (by omega)]; exact c0
  · rw [World.ownsRow.cellAt hrow (k * 2 + 1) (by omega)]; exact c1

theorem ChIn.drew {w : World} {d : List Fx} {g : ByteArray → ByteArray} {i : Nat} {o : List Fx} {W : World} (h : ChIn w d g i o W) (n : Nat) : ChIn w d g i o (W.drewN n) := h.on (bel_drewN (Below.refl _ _) n)

/-- A field's place is taken by its name and texts that are still to be made. -/
theorem ChIn.fresh {w : World} {d : List Fx} {g : ByteArray → ByteArray} {i : Nat} {o : List Fx} {W : World} (h : ChIn w d g i o W) (hi : i < o.length) (nm : ByteArray) (n S : Nat) (hS : S = W.heap.size) (hn : n ≤ maxLen) :
    ChIn w d g i (o.set i ⟨nm, some ⟨S, 0, none⟩, n, List.replicate n ⟨#[]⟩⟩) (((W.alloc (.cells (List.replicate n (Value.string ⟨#[]⟩)).toArray 9)).setCell ⟨w.heap.size, i * 2, none⟩ (.string nm)).setCell ⟨w.heap.size, i * 2 + 1, none⟩ (.slice (some ⟨S, 0, none⟩) n n)).drew := by
  obtain ⟨h1, h2, h3⟩ := h
  have hsz := (h2.below rfl).size
  have hb : Below W.heap.size W (W.alloc (.cells (List.replicate n (Value.string ⟨#[]⟩)).toArray 9)) := (Below.refl _ _).alloc (Nat.le_refl _) _
  have hx := own_zeros (N := w.heap.size) (w := W) hsz n hn S hS
  have hsl : (⟨nm, some ⟨S, 0, none⟩, n, List.replicate n ⟨#[]⟩⟩ : Fx).sl = .slice (some ⟨S, 0, none⟩) n n := by simp [Fx.sl]
  have hp := (h2.on hb).put h1 hi ⟨nm, some ⟨S, 0, none⟩, n, List.replicate n ⟨#[]⟩⟩ (by rw [hsl]; exact hx) (by rw [hsl]; intro k hk; simp [Value.ownBlock] at hk; omega) (fun j hj hne => by
    right
    rw [hsl]
    intro e
    have := (World.ownsRow.lt (show W.ownsRow w.heap.size 9 1 (o[j]).sl (o[j]).txt.length ((o[j]).txt.map Value.string) from h2.own.1.2 _ (List.getElem_mem hj)) S (by rw [e]; rfl)).2
    omega)
  rw [hsl] at hp
  refine ⟨by rw [List.length_set]; exact h1, hp.on (bel_drewN (Below.refl _ _) 1), fun k hk hk' hki => ?_⟩
  rw [List.getElem_set, if_neg (by omega)]
  exact h3 k (by simpa using hk) hk' hki

theorem ChIn.text {w : World} {d : List Fx} {g : ByteArray → ByteArray} {i : Nat} {o : List Fx} {W : World} (h : ChIn w d g i o W) {nm : ByteArray} {T n j : Nat} {ts : List ByteArray} (hn : o[i]? = some ⟨nm, some ⟨T, 0, none⟩, n, partT g ts j⟩) (hj : j < ts.length) :
    ChIn w d g i (o.set i ⟨nm, some ⟨T, 0, none⟩, n, partT g ts (j + 1)⟩) (W.setCell ⟨T, j, none⟩ (.string (g ts[j]))) := by
  obtain ⟨h1, h2, h3⟩ := h
  obtain ⟨hi, he⟩ := List.getElem?_eq_some_iff.1 hn
  have := h2.wipe hi (j := j) (gt := T) (by rw [he]) (g ts[j])
  rw [he] at this
  simp only [partT_step g ts j hj] at this
  refine ⟨by rw [List.length_set]; exact h1, this, fun k hk hk' hki => ?_⟩
  rw [List.getElem_set, if_neg (by omega)]
  exact h3 k (by simpa using hk) hk' hki

theorem ChIn.next {w : World} {d : List Fx} {g : ByteArray → ByteArray} {i : Nat} {o : List Fx} {W : World} (h : ChIn w d g i o W) {nm : ByteArray} {p : Option Addr} {n : Nat} {ts : List ByteArray} (hn : o[i]? = some ⟨nm, p, n, partT g ts ts.length⟩) (hi : i < d.length) {q : Option Addr} {c : Nat} (hd : d[i] = ⟨nm, q, c, ts⟩) : ChIn w d g (i + 1) o W := by
  obtain ⟨h1, h2, h3⟩ := h
  refine ⟨h1, h2, fun k hk hk' hki => ?_⟩
  by_cases e : k = i
  · subst e
    obtain ⟨hi', he⟩ := List.getElem?_eq_some_iff.1 hn
    rw [he, hd]
    simp [Fx.fld, partT_all]
  · exact h3 k hk hk' (by omega)

/-- The texts' own cells at i. -/
theorem ChIn.texts {w : World} {d : List Fx} {g : ByteArray → ByteArray} {i : Nat} {o : List Fx} {W : World} (h : ChIn w d g i o W) {nm : ByteArray} {T n : Nat} {us : List ByteArray} (hn : o[i]? = some ⟨nm, some ⟨T, 0, none⟩, n, us⟩) {j : Nat} (hj : j < us.length) :
    W.cell? ⟨T, j, none⟩ = some (.string us[j]) ∧ W.frozen? ⟨T, j, none⟩ = false ∧ W.cell? ⟨w.heap.size, i * 2 + 1, none⟩ = some (.slice (some ⟨T, 0, none⟩) us.length n) := by
  obtain ⟨hi, he⟩ := List.getElem?_eq_some_iff.1 hn
  have hc := (h.cells hi).2.1
  rw [he] at hc
  have ho := h.2.1.own.1.2 _ (List.getElem_mem hi)
  rw [he] at ho
  have hrow : W.ownsRow w.heap.size 9 1 (.slice (some ⟨T, 0, none⟩) us.length n) us.length (us.map Value.string) := ho
  refine ⟨?_, World.ownsRow.frozenAt hrow j, hc⟩
  rw [World.ownsRow.cellAt hrow j (by omega)]
  simp [hj]

end Go.Proofs.YtinmagodckkedaaGreat

/-
  The walk of changed of package refs.
-/
namespace Go.Proofs.YtinmagodckkedaaGreat
open Go.RowKit

set_option maxHeartbeats 8000000 in
set_option maxRecDepth 100000 in
theorem changed_any (F : Nat) (lb : Array Value) (g : ByteArray → ByteArray) (v : Value) (d : List Fx) (w : World) (hv : IsXs w v d) (hf : FitX d) (hn40 : d.length * 40 ≤ 281474976710656) (hn16 : ∀ x ∈ d, x.txt.length * 16 ≤ 281474976710656)
    (eg : ∀ args w, (callFunc F args).run Tryz.prog w = .ok (.enter F args) w)
    (hg : ∀ t ∈ txtsX d, ∀ W, Below w.heap.size w W → Calls Tryz.prog F (#[.string t] ++ lb) W fun e w' => e = .returned (.string (g t)) ∧ Below W.heap.size W w') :
    Calls Tryz.prog 30 #[v, .func (.func F) #[] lb] w fun e w' => ∃ u o, e = .returned u ∧ OwnJ w.heap.size w' u o ∧ o.map Fx.fld = mapT g (d.map Fx.fld) ∧ Below w.heap.size w w' := by
  obtain ⟨j0, hj0, hy0, hy1, hy2⟩ := info_parts Tryz.infoFld
  obtain ⟨i0, hi0, hz0, hz1, hz2⟩ := info_parts Tryz.infoStr
  obtain ⟨p, cap, rfl, hd, ht⟩ := hv
  have HD := hid hd
  have HX := hid ht
  have HF := hid hf.2
  have hlm := hf.1
  have hl := hf.1
  unfold maxLen at hl
  have HN16 := hid hn16
  have HG := hid hg
  have hmk0 : (Instr.makeSlice 22 (.int .i64 (d.length : Int)) (.int .i64 (d.length : Int))).run Tryz.prog w = .ok (.slice (some ⟨w.heap.size, 0, none⟩) d.length d.length) (w.alloc (.cells (cellsX (List.replicate d.length zeroX)).toArray 40)) := by
    have := run_make (P := Tryz.prog) w 22 40 j0 (.agg #[.string ⟨#[]⟩, .slice none 0 0]) Tryz.underlying22 hj0 hy0 .i64 .i64 (d.length : Int) (d.length : Int) (by omega) (by omega) (by rw [hy2]; omega) (by omega)
    rw [this, hy1, Int.toNat_natCast, made_flds]
  have HMK : Hid (∀ (n : Nat), n * 16 ≤ 281474976710656 → ∀ W : World, (Instr.makeSlice 28 (.int .i64 (n : Int)) (.int .i64 (n : Int))).run Tryz.prog W = .ok (.slice (some ⟨W.heap.size, 0, none⟩) n n) (W.alloc (.cells (List.replicate n (Value.string ⟨#[]⟩)).toArray 9))) := fun n hn W => by
    have := run_make (P := Tryz.prog) W 28 9 i0 (.string ⟨#[]⟩) Tryz.underlying28 hi0 hz0 .i64 .i64 (n : Int) (n : Int) (by omega) (by omega) (by rw [hz2]; omega) (by omega)
    rw [this, hz1, Int.toNat_natCast, made_txts]
  have IN0 : Hid (ChIn w d g 0 (List.replicate d.length zeroX) (w.alloc (.cells (cellsX (List.replicate d.length zeroX)).toArray 40))) := ⟨by simp, xst_made w d.length hlm, fun k _ _ h => by omega⟩
  obtain ⟨L00, hL00⟩ : ∃ L00, (cellsX (List.replicate d.length zeroX)).toArray = L00 := ⟨_, rfl⟩
  rw [hL00] at hmk0 IN0
  clear hd ht hf hn16 hg hj0 hi0 hL00 hlm
  go_enter Tryz.func30, Tryz.ntmps30
  go_wp2_with fail
  clear hmk0
  go_loopg [15] d.length (fun gg vi wr => ∃ (i : Nat) (o : List Fx), vi = .int .i64 i ∧ i ≤ d.length ∧ d.length - i ≤ gg ∧ Hid (ChIn w d g i o wr))
  case atStart => exact ⟨0, _, rfl, by omega, by omega, IN0.out⟩
  case round =>
    clear IN0
    obtain ⟨i, o, rfl, hi, hgk, HC⟩ := hrel
    by_cases hlt : i < d.length
    · have hltz : (i : Int) < (d.length : Int) := by omega
      have hiz : (0 : Int) ≤ i := by omega
      obtain ⟨b, off, rfl, hxs⟩ : ∃ b off, p = some ⟨b, off, none⟩ ∧ XsAt w b off d := by
        rcases HD.out with h | h
        · subst h; simp at hlt
        · exact h
      obtain ⟨c0, c1⟩ := hxs.kept HC.out.below i hlt
      have hxi : (d[i]).at w := HX.out _ (List.getElem_mem hlt)
      have hx16 := HN16.out _ (List.getElem_mem hlt)
      have hmem := List.getElem_mem hlt
      obtain ⟨x, hx⟩ : ∃ x, d[i] = x := ⟨_, rfl⟩
      rw [hx] at c0 c1 hxi hx16 hmem
      have HGX := hid hx
      obtain ⟨nm, p5, c5, ts⟩ := x
      simp only [Fx.at, Fx.sl] at c0 c1 hxi hx16
      have hmk := HMK.out ts.length hx16
      obtain ⟨L0, hL0⟩ : ∃ L0, (List.replicate ts.length (Value.string ⟨#[]⟩)).toArray = L0 := ⟨_, rfl⟩
      rw [hL0] at hmk
      have HL0 := hid hL0
      have HXI := hid hxi
      have HME := hid hmem
      have HGT : Hid (∀ j, (h : j < ts.length) → ∀ W, Below w.heap.size w W → Calls Tryz.prog F (#[.string ts[j]] ++ lb) W fun e w' => e = .returned (.string (g ts[j])) ∧ Below W.heap.size W w') := fun j h W hW => HG.out _ (txtsX_mem.2 ⟨_, hmem, List.getElem_mem h⟩) W hW
      have hol := HC.out.1
      have hio : i < o.length := by omega
      clear hxs hxi hx hmem hL0
      obtain ⟨W1, hW1⟩ : ∃ W1, wr.alloc (.cells #[.string nm, .slice p5 ts.length c5] 40) = W1 := ⟨_, rfl⟩
      obtain ⟨S, hS⟩ : ∃ S, wr.heap.size = S := ⟨_, rfl⟩
      have hb1 : Below wr.heap.size wr W1 := by rw [← hW1]; exact (Below.refl _ _).alloc (Nat.le_refl _) _
      have hs1 : W1.heap.size = S + 1 := by rw [← hW1, ← hS]; simp
      have HC1 := hid (HC.out.on hb1)
      have hbox : ∀ W, Below W1.heap.size W1 W → W.cell? ⟨S, 0, none⟩ = some (.string nm) ∧ W.cell? ⟨S, 1, none⟩ = some (.slice p5 ts.length c5) := fun W hW => by
        have h0 : W1.heap[S]? = some (.cells #[.string nm, .slice p5 ts.length c5] 40 (0, 0)) := by rw [← hW1, ← hS]; exact heap_alloc_new wr _
        have h1 := (hW.block S (by omega)).trans h0
        rw [Lib.cell_of_heap h1, Lib.cell_of_heap h1]
        exact ⟨rfl, rfl⟩
      obtain ⟨q0, q1, q2⟩ := HC1.out.cells hio
      obtain ⟨on, hon⟩ : ∃ on, (o[i]).name = on := ⟨_, rfl⟩
      obtain ⟨os, hos⟩ : ∃ os, (o[i]).sl = os := ⟨_, rfl⟩
      rw [hon] at q0
      rw [hos] at q1
      obtain ⟨b0, b1⟩ := hbox W1 (Below.refl _ _)
      have HBOX := hid hbox
      have r0 : ∀ ob, (W1.alloc ob).cell? ⟨w.heap.size, i * 2, none⟩ = some (.string on) := fun ob => kept_new ob q0
      have r1 : ∀ ob, (W1.alloc ob).cell? ⟨w.heap.size, i * 2 + 1, none⟩ = some os := fun ob => kept_new ob q1
      have hNlt : w.heap.size < W1.heap.size := cell_lt q0
      have r2 : ∀ ob j, (W1.alloc ob).frozen? ⟨w.heap.size, j, none⟩ = false := fun ob j => by
        rw [← q2 j]; exact ((Below.refl _ W1).alloc (Nat.le_refl _) ob).frozen (p := ⟨w.heap.size, j, none⟩) hNlt
      have HS := hid hS
      clear hon hos hbox hb1
      go_upto_region 5 with fail
      try rw [hS]
      try rw [hW1]
      clear hW1 hS
      go_region
      have HJ0 := hid (HC1.out.fresh hio nm ts.length (S + 1) hs1.symm (by unfold maxLen; omega))
      rw [HL0.out] at HJ0
      obtain ⟨W2, hW2⟩ : ∃ W2, (((W1.alloc (.cells L0 9)).setCell ⟨w.heap.size, i * 2, none⟩ (.string nm)).setCell ⟨w.heap.size, i * 2 + 1, none⟩ (.slice (some ⟨S + 1, 0, none⟩) ts.length ts.length)).drew = W2 := ⟨_, rfl⟩
      rw [hW2] at HJ0 ⊢
      have hNS : w.heap.size < S := by
        have := HC.out.2.1.own.1.1
        have h2 := (World.ownsRow.lt this w.heap.size (by rfl)).2
        rw [HS.out] at h2
        exact h2
      have hbx2 : W2.cell? ⟨S, 0, none⟩ = some (.string nm) ∧ W2.cell? ⟨S, 1, none⟩ = some (.slice p5 ts.length c5) := by
        have h0 := HBOX.out (W1.alloc (.cells L0 9)) ((Below.refl _ _).alloc (Nat.le_refl _) _)
        have hg2 : (W1.alloc (.cells L0 9)).grownBy W2 (some w.heap.size) := by
          rw [← hW2]
          have h2 := grown_set ((W1.alloc (.cells L0 9)).setCell ⟨w.heap.size, i * 2, none⟩ (.string nm)) w.heap.size (i * 2 + 1) (.slice (some ⟨S + 1, 0, none⟩) ts.length ts.length)
          exact grown_trans (grown_set _ w.heap.size (i * 2) (.string nm)) ⟨h2.os, h2.tape, h2.output, h2.size, h2.block⟩
        refine ⟨?_, ?_⟩
        · rw [hg2.cell_far ⟨S, 0, none⟩ (by simp; omega) (by simp; omega)]; exact h0.1
        · rw [hg2.cell_far ⟨S, 1, none⟩ (by simp; omega) (by simp; omega)]; exact h0.2
      obtain ⟨e0, e1⟩ := hbx2
      have HO0 : Hid ((o.set i ⟨nm, some ⟨S + 1, 0, none⟩, ts.length, List.replicate ts.length ⟨#[]⟩⟩)[i]? = some ⟨nm, some ⟨S + 1, 0, none⟩, ts.length, partT g ts 0⟩) := by
        show _ = _
        rw [List.getElem?_set_self hio, partT_zero]
      clear hW2 q0 q1 q2 r0 r1 r2 b0 b1 c0 c1 hmk HC HC1
      go_wp2_with fail
      go_loopg [33] ts.length (fun gg vj wr2 => ∃ (j : Nat) (o2 : List Fx), vj = .int .i64 j ∧ j ≤ ts.length ∧ ts.length - j ≤ gg ∧ Hid (ChIn w d g i o2 wr2) ∧ Hid (o2[i]? = some ⟨nm, some ⟨S + 1, 0, none⟩, ts.length, partT g ts j⟩))
      case atStart => exact ⟨0, _, rfl, by omega, by omega, HJ0.out, HO0.out⟩
      case round =>
        clear HJ0 HO0 e0 e1
        obtain ⟨j, o2, rfl, hj, hgj, HCJ, HOJ⟩ := hrel
        by_cases hlj : j < ts.length
        · have hljz : (j : Int) < (ts.length : Int) := by omega
          have hjz : (0 : Int) ≤ j := by omega
          obtain ⟨b2, of2, rfl, ht2⟩ : ∃ b o, p5 = some ⟨b, o, none⟩ ∧ ∀ i, (h : i < ts.length) → w.cell? ⟨b, o + i, none⟩ = some (.string ts[i]) := by
            rcases HXI.out with h | h
            · rw [h] at hlj; simp at hlj
            · exact h
          have hbel := HCJ.out.below
          have t0 : wr.cell? ⟨b2, of2 + j, none⟩ = some (.string ts[j]) := (hbel.cell (p := ⟨b2, of2 + j, none⟩) (cell_block (ht2 j hlj))).trans (ht2 j hlj)
          have hpl := partT_len g ts j hj
          obtain ⟨k0, k1, k2⟩ := HCJ.out.texts HOJ.out (j := j) (by omega)
          rw [hpl] at k2
          have KS : Hid (∀ W, Below wr.heap.size wr W → W.cell? ⟨w.heap.size, i * 2 + 1, none⟩ = some (.slice (some ⟨S + 1, 0, none⟩) ts.length ts.length) ∧ (∃ u, W.cell? ⟨S + 1, j, none⟩ = some u) ∧ W.frozen? ⟨S + 1, j, none⟩ = false) := fun W hW => by
            obtain ⟨a0, a1, a2⟩ := (HCJ.out.on hW).texts HOJ.out (j := j) (by omega)
            rw [hpl] at a2
            exact ⟨a2, ⟨_, a0⟩, a1⟩
          have HCALL := hid (fun W hW => HGT.out j hlj W hW)
          have HSTEP := hid (fun W hW => (HCJ.out.on (W' := W) hW).text HOJ.out hlj)
          have HSET : Hid (i < o2.length) := (List.getElem?_eq_some_iff.1 HOJ.out).1
          obtain ⟨t, hte⟩ : ∃ t, ts[j] = t := ⟨_, rfl⟩
          obtain ⟨r, hr⟩ : ∃ r, g t = r := ⟨_, rfl⟩
          rw [hte] at t0 HCALL HSTEP
          rw [hr] at HCALL HSTEP
          have HBEL := hid hbel
          have hd0 := KS.out wr.drew (bel_drewN (Below.refl _ _) 1)
          clear ht2 hte hr hpl hbel k0 k1 k2
          go_upto_region 9 with fail
          go_region_held3 (fun w' => w'.cell? ⟨w.heap.size, i * 2 + 1, none⟩ = some (.slice (some ⟨S + 1, 0, none⟩) ts.length ts.length))
            (first | exact hd0.1 | exact hd2.1 | exact hd3 _)
            (first | (go_at_fn F; refine (HCALL.out _ (bel_drewN HBEL.out 1)).mono ?_; rintro e w2 ⟨rfl, hb2⟩; have hb2' := bel_then (bel_drewN (Below.refl wr.heap.size wr) 1) (Nat.le_refl _) hb2; have hd2 := KS.out w2 hb2'; obtain ⟨hd21, ⟨u2, hd22⟩, hd23⟩ := id hd2; have hd3 := (fun u => ((grown_set w2 (S + 1) j u).cell_far ⟨w.heap.size, i * 2 + 1, none⟩ (cell_lt hd21) (by simp; omega)).trans hd21)))
          go_wp2_with fail
          go_roundg (ts.length - (j + 1))
          case measure => omega
          refine ⟨j + 1, _, by go_num, by omega, by omega, HSTEP.out w2 hb2', ?_⟩
          show _ = _
          rw [List.getElem?_set_self HSET.out]
        · have hljz : ¬ (j : Int) < (ts.length : Int) := by omega
          have hje : j = ts.length := by omega
          subst hje
          have HN := hid (HCJ.out.next HOJ.out hlt HGX.out)
          clear HCJ
          go_wp2_with fail
          go_roundg (d.length - (i + 1))
          case measure => omega
          exact ⟨i + 1, o2, by go_num, by omega, by omega, HN.out⟩
    · have hltz : ¬ (i : Int) < (d.length : Int) := by omega
      have hie : i = d.length := by omega
      subst hie
      go_wp2_with fail
      go_ret
      exact ⟨_, rfl, o, HC.out.2.1.own, HC.out.done, HC.out.below⟩

end Go.Proofs.YtinmagodckkedaaGreat

/-
  The contract of Points of package refs.
-/
namespace Go.Proofs.YtinmagodckkedaaGreat
open Go.RowKit

def pointsB (fs : List Fld) (k : Ky) : Bool := fs.any fun f => f.2.any fun t => decide (namedT t = some k)
theorem pointsB_iff {fs : List Fld} {k : Ky} : pointsB fs k = true ↔ pointsF fs k := by
  unfold pointsB pointsF
  simp only [List.any_eq_true, decide_eq_true_eq]

theorem named_iff {k : Ky} (hk : keyOK k = true) (t : ByteArray) : namedT t = some k ↔ t = refT k := by
  constructor
  · intro h; exact (namedT_some h).1
  · rintro rfl; exact namedT_ref hk

theorem points_no {fs : List Fld} {k : Ky} (hk : keyOK k = false) : pointsB fs k = false := by
  cases h : pointsB fs k with
  | false => rfl
  | true =>
    obtain ⟨f, _, t, _, e⟩ := pointsB_iff.1 h
    rw [(namedT_some e).2] at hk
    cases hk

theorem contains_any (ts : List ByteArray) (r : ByteArray) : Lib.containsS ts r = ts.any fun t => decide (t = r) := by
  rw [Bool.eq_iff_iff, Lib.containsS_iff, List.any_eq_true]
  constructor
  · intro h; exact ⟨r, h, by simp⟩
  · rintro ⟨t, ht, e⟩; rw [← of_decide_eq_true e]; exact ht

theorem attach_list {α : Type} {P : α → Prop} : ∀ d : List α, (∀ x ∈ d, P x) → ∃ zs : List { x : α // P x }, zs.map (·.1) = d
  | [], _ => ⟨[], rfl⟩
  | x :: d, h => by
    obtain ⟨zs, hz⟩ := attach_list d fun y hy => h y (List.mem_cons_of_mem _ hy)
    exact ⟨⟨x, h x (by simp)⟩ :: zs, by simp [hz]⟩

theorem containsT_any (p : Option Addr) (c : Nat) (ts : List ByteArray) (r : ByteArray) (w : World) (h : TxtAt w p ts) (hl : ts.length ≤ maxLen) :
    Calls Tryz.prog 28 #[.slice p ts.length c, .string r] w fun e w' => e = .returned (.bool (ts.any fun t => decide (t = r))) ∧ w' = w := by
  rcases h with rfl | ⟨b, off, rfl, hc⟩
  · exact Tryz.slices_Contains_string_empty p c r w
  · unfold maxLen at hl
    refine (Tryz.slices_Contains_string b off ts.length c ts r w (Nat.le_refl _) (by omega) (fun j hj => ?_)).mono ?_
    · rw [hc j hj, List.getD_eq_getElem?_getD, List.getElem?_eq_getElem hj]
      rfl
    · rintro e w' ⟨rfl, rfl⟩
      exact ⟨ret_bool (by rw [List.take_length, contains_any]), rfl⟩

set_option maxHeartbeats 1000000 in
theorem points1_any (B : Nat) (r : ByteArray) (x : Fx) (W : World) (hB : W.cell? ⟨B, 0, none⟩ = some (.string r)) (hx : x.at W) (hl : x.txt.length ≤ maxLen) :
    Calls Tryz.prog 27 (#[.agg (encX x).toArray] ++ #[.pointer (some ⟨B, 0, none⟩)]) W fun e w' => e = .returned (.bool (x.txt.any fun t => decide (t = r))) ∧ Below W.heap.size W w' := by
  obtain ⟨nm, p, c, ts⟩ := x
  simp only [encX, Fx.sl]
  have hb := (Below.refl W.heap.size W).alloc (Nat.le_refl _) (.cells #[.string nm, .slice p ts.length c] 40)
  have HC := hid (containsT_any p c ts r _ (TxtAt.kept hx hb) hl)
  have hB2 : (W.alloc (.cells #[.string nm, .slice p ts.length c] 40)).cell? ⟨B, 0, none⟩ = some (.string r) := kept_new _ hB
  obtain ⟨q, hq⟩ : ∃ q, (ts.any fun t => decide (t = r)) = q := ⟨_, rfl⟩
  rw [hq] at HC ⊢
  clear hx hB hq
  show Calls Tryz.prog 27 #[.agg #[.string nm, .slice p ts.length c], .pointer (some ⟨B, 0, none⟩)] W _
  go_enter Tryz.func27, Tryz.ntmps27
  go_wp2_with (first | (go_at_call 28; refine HC.out.mono ?_; rintro e w1 ⟨rfl, rfl⟩))
  go_ret
  exact ⟨rfl, hb⟩

def AtX (w : World) : Type := { x : Fx // x.at w ∧ x.txt.length ≤ maxLen }
instance (w : World) : Inhabited (AtX w) := ⟨⟨zeroX, Or.inl rfl, Nat.zero_le _⟩⟩
def encA {w : World} (x : AtX w) : List Value := encX x.1

theorem enters_points1 : ∀ args w, (callFunc 27 args).run Tryz.prog w = .ok (.enter 27 args) w := enters_of Tryz.func27 (by kernel_rfl) rfl

set_option maxHeartbeats 1000000 in
theorem hasPt_none (p : Option Addr) (cap : Nat) (fv : Value) (w : World) : Calls Tryz.prog 26 #[.slice p 0 cap, fv] w fun e w' => e = .returned (.bool false) ∧ w' = w := by
  have hi : ∀ W, Calls Tryz.prog 46 #[.slice p 0 cap, fv] W fun e w' => e = .returned (.int .i64 (-1)) ∧ w' = W := fun W => by
    go_enter Tryz.func46, Tryz.ntmps46
    go_wp2_with fail
    refine wp_loop_rounds 1 ?_
    rw [rounds_succ]
    go_wp2_with fail
    go_ret
    exact ⟨rfl, rfl⟩
  have HI := hid hi
  clear hi
  go_enter Tryz.func26, Tryz.ntmps26
  go_wp2_with (first | (go_at_call 46; refine (HI.out _).mono ?_; rintro e w1 ⟨rfl, rfl⟩))
  go_ret
  exact ⟨rfl, rfl⟩

theorem hasPt_any (B : Nat) (r : ByteArray) (p : Option Addr) (cap : Nat) (d : List Fx) (w : World) (hB : w.cell? ⟨B, 0, none⟩ = some (.string r)) (hd : d = [] ∨ ∃ b off, p = some ⟨b, off, none⟩ ∧ XsAt w b off d) (ht : ∀ x ∈ d, x.at w) (hf : FitX d) :
    Calls Tryz.prog 26 #[.slice p d.length cap, .func (.func 27) #[] #[.pointer (some ⟨B, 0, none⟩)]] w fun e w' => e = .returned (.bool (d.any fun x => x.txt.any fun t => decide (t = r))) ∧ Below w.heap.size w w' := by
  rcases hd with rfl | ⟨b, off, rfl, hxs⟩
  · exact (hasPt_none _ _ _ w).mono fun e w' ⟨h1, h2⟩ => ⟨h1, by rw [h2]; exact Below.refl _ _⟩
  · have hlt : d ≠ [] → b < w.heap.size := fun hne => cell_block (hxs 0 (List.length_pos_iff.2 hne)).1
    by_cases hne : d = []
    · subst hne
      exact (hasPt_none _ _ _ w).mono fun e w' ⟨h1, h2⟩ => ⟨h1, by rw [h2]; exact Below.refl _ _⟩
    · have hall : ∀ x ∈ d, x.at w ∧ x.txt.length ≤ maxLen := fun x hx => ⟨ht x hx, (hf.2 x hx).2.1⟩
      obtain ⟨zs, hzs⟩ : ∃ zs : List (AtX w), zs.map (·.1) = d := attach_list d hall
      have hlen : zs.length = d.length := by rw [← hzs, List.length_map]
      have hl := hf.1
      unfold maxLen at hl
      have hc := AnyQ.slices_ContainsFunc (α := AtX w) Tryz.hasFld 2 Tryz.isAgg40 Tryz.sizeOf40 encA (fun _ => rfl) (fun x => x.1.txt.any fun t => decide (t = r)) 27 #[.pointer (some ⟨B, 0, none⟩)] enters_points1 b off d.length cap zs w
        (fun W x hW => (points1_any B r x.1 W ((hW.cell (p := ⟨B, 0, none⟩) (cell_block hB)).trans hB) (TxtAt.kept x.2.1 hW) x.2.2).mono fun e w' ⟨h1, h2⟩ => ⟨h1, bel_then hW hW.size h2⟩)
        (by omega) (by omega) (hlt hne)
        (fun j hj i v hv => by
          have hj' : j < d.length := by omega
          have e : (zs[j]!).1 = d[j] := by
            rw [getElem!_pos zs j hj]
            have : (zs.map (·.1))[j]'(by simpa using hj) = d[j] := by simp [hzs]
            simpa using this
          have hv' : (encX d[j])[i]? = some v := by rw [← e]; exact hv
          obtain ⟨c0, c1⟩ := hxs j hj'
          match i, hv' with
          | 0, hv' => simp [encX] at hv'; subst hv'; exact c0
          | 1, hv' => simp [encX] at hv'; subst hv'; exact c1
          | i + 2, hv' => simp [encX] at hv')
      change Calls Tryz.prog 26 _ _ _ at hc
      refine hc.mono ?_
      rintro e w' ⟨rfl, hb⟩
      refine ⟨ret_bool ?_, hb⟩
      rw [List.take_of_length_le (by omega), ← hzs, List.any_map]
      rfl

set_option maxHeartbeats 2000000 in
theorem points_any (v : Value) (d : List Fx) (k : Ky) (w : World) (hv : IsXs w v d) (hf : FitX d) (h1 : k.1.size ≤ maxLen) (h2 : k.2.size ≤ maxLen) :
    Calls Tryz.prog 13 #[v, .agg #[.string k.1, .string k.2]] w fun e w' => e = .returned (.bool (pointsB (d.map Fx.fld) k)) ∧ Below w.heap.size w w' := by
  obtain ⟨p, cap, rfl, hd, ht⟩ := hv
  cases hk : keyOK k with
  | false =>
    have HT := hid (fun W => text_no k W h1 h2 hk)
    have HN := hid (points_no (fs := d.map Fx.fld) hk)
    obtain ⟨a, b⟩ := k
    simp only at HT HN ⊢
    clear hd ht hk
    go_enter Tryz.func13, Tryz.ntmps13
    go_wp2_with (first | (go_at_call 11; refine (HT.out _).mono ?_; rintro e w1 ⟨rfl, hb1⟩))
    go_ret
    refine ⟨ret_bool HN.out.symm, ?_⟩
    have hb0 := (Below.refl w.heap.size w).alloc (Nat.le_refl _) (.cells #[.string a, .string b] 31)
    exact (bel_then hb0 hb0.size hb1).alloc (bel_then hb0 hb0.size hb1).size _
  | true =>
    have HT := hid (fun W => text_yes k W hk)
    have HE : Hid ((d.any fun x => x.txt.any fun t => decide (t = refT k)) = pointsB (d.map Fx.fld) k) := by
      show _ = _
      unfold pointsB
      rw [List.any_map]
      congr 1
      funext x
      show _ = x.txt.any _
      congr 1
      funext t
      rw [decide_eq_decide]
      exact (named_iff hk t).symm
    have HH : Hid (∀ (B : Nat) W, Below w.heap.size w W → W.cell? ⟨B, 0, none⟩ = some (.string (refT k)) → Calls Tryz.prog 26 #[.slice p d.length cap, .func (.func 27) #[] #[.pointer (some ⟨B, 0, none⟩)]] W fun e w' => e = .returned (.bool (d.any fun x => x.txt.any fun t => decide (t = refT k))) ∧ Below W.heap.size W w') := fun B W hW hB =>
      hasPt_any B (refT k) p cap d W hB (by
        rcases hd with h | ⟨b, off, hp, hx⟩
        · exact Or.inl h
        · exact Or.inr ⟨b, off, hp, hx.kept hW⟩) (fun x hx => TxtAt.kept (ht x hx) hW) hf
    rw [HE.out] at HH
    obtain ⟨q, hq⟩ : ∃ q, pointsB (d.map Fx.fld) k = q := ⟨_, rfl⟩
    obtain ⟨s, hs⟩ : ∃ s, refT k = s := ⟨_, rfl⟩
    rw [hq] at HH ⊢
    rw [hs] at HT HH
    obtain ⟨a, b⟩ := k
    simp only at HT ⊢
    clear hd ht hk hs hq HE
    go_enter Tryz.func13, Tryz.ntmps13
    go_wp2_with (first
      | (go_at_call 11; refine (HT.out _).mono ?_; rintro e w1 ⟨rfl, hb1⟩; have hb0 := (Below.refl w.heap.size w).alloc (Nat.le_refl _) (.cells #[.string a, .string b] 31); have HB1 := hid ((bel_then hb0 hb0.size hb1).alloc (bel_then hb0 hb0.size hb1).size (.cells #[.string s] 9)); clear hb0 hb1)
      | (go_at_call 26; refine (HH.out _ _ HB1.out (by simp [go_sem])).mono ?_; rintro e w2 ⟨rfl, hb2⟩))
    go_ret
    exact ⟨rfl, bel_then HB1.out HB1.out.size hb2⟩

end Go.Proofs.YtinmagodckkedaaGreat

/-
  The contract of bound of package refs: the map of binds.
-/
namespace Go.Proofs.YtinmagodckkedaaGreat
open Go.RowKit Go.Lib Go.Maps Go.MapKept Go.ChangeMaps

/-- Binds that a machine can hold. -/
def FitBd (bs : List Bd) : Prop := bs.length ≤ 2000000 ∧ ∀ b ∈ bs, b.1.size ≤ maxLen ∧ b.2.1.size ≤ maxLen ∧ b.2.2.size ≤ maxLen
theorem FitBd.fitB {bs : List Bd} (h : FitBd bs) : FitB bs := fun b hb => (h.2 b hb).1

def BdPost (w : World) (bs : List Bd) (e : Ending) (w' : World) : Prop :=
  Below w.heap.size w w' ∧ ((bs.all bindOK = false ∧ e = .returned (.tuple #[.map none, .int .i64 2])) ∨
    (bs.all bindOK = true ∧ ¬ (bs.map (·.1)).Nodup ∧ e = .returned (.tuple #[.map none, .int .i64 16])) ∨
    (bs.all bindOK = true ∧ (bs.map (·.1)).Nodup ∧ ∃ b, e = .returned (.tuple #[.map (some b), .int .i64 0]) ∧ w.heap.size ≤ b ∧ MapB w' b bs))

theorem box3 {w w2 : World} {T : TypeId} {x y z : Value} (hb : Below (w.alloc (.cells #[x, y, z] T)).heap.size (w.alloc (.cells #[x, y, z] T)) w2) :
    w2.cell? ⟨w.heap.size, 0, none⟩ = some x ∧ w2.cell? ⟨w.heap.size, 1, none⟩ = some y ∧ w2.cell? ⟨w.heap.size, 2, none⟩ = some z := by
  have h0 : (w.alloc (.cells #[x, y, z] T)).heap[w.heap.size]? = some (.cells #[x, y, z] T (0, 0)) := heap_alloc_new w _
  have h1 := (hb.block _ (Array.getElem?_eq_some_iff.1 h0).1).trans h0
  rw [Lib.cell_of_heap h1, Lib.cell_of_heap h1, Lib.cell_of_heap h1]
  exact ⟨rfl, rfl, rfl⟩

theorem MapB.lt {W : World} {b : Nat} {bs : List Bd} (h : MapB W b bs) : b < W.heap.size := World.ownsMap.lt h

theorem run_makeMapH (n : Int) (W : World) : (Instr.makeMap 59 (some (.int .i64 n))).run Tryz.prog W = .ok (.map (some W.heap.size)) (W.alloc (.map #[] 0)) := by
  simp [Instr.makeMap, run_underlying Tryz.underlying59, asInt]
  rfl

set_option maxHeartbeats 4000000 in
set_option maxRecDepth 100000 in
theorem bound_is (v : Value) (bs : List Bd) (w : World) (hv : KB.Is w v bs) (hf : FitBd bs) :
    Calls Tryz.prog 29 #[v] w fun e w' => BdPost w bs e w' := by
  obtain ⟨p, cap, rfl, hd⟩ := hv
  have HD := hid hd
  have HF := hid hf
  have hl := hf.1
  clear hd hf
  have HM0 : Hid (MapB (w.alloc (.map #[] 0)) w.heap.size []) := mapB_made w
  have hmm := run_makeMapH
  go_enter Tryz.func29, Tryz.ntmps29
  go_wp2_with fail
  go_loopg [12] bs.length (fun g vi wr => ∃ i : Nat, vi = .int .i64 i ∧ i ≤ bs.length ∧ bs.length - i ≤ g ∧ Hid (Below w.heap.size w wr) ∧ Hid (MapB wr w.heap.size (bs.take i)) ∧ Hid ((bs.take i).all bindOK = true))
  case atStart => exact ⟨0, rfl, by omega, by omega, (Below.refl _ _).alloc (Nat.le_refl _) _, HM0.out, rfl⟩
  case round =>
    obtain ⟨i, rfl, hi, hgk, HB, HM, HA⟩ := hrel
    by_cases hlt : i < bs.length
    · have hltz : (i : Int) < (bs.length : Int) := by omega
      have hiz : (0 : Int) ≤ i := by omega
      obtain ⟨b, off, rfl, hat⟩ : ∃ b off, p = some ⟨b, off, none⟩ ∧ KB.At w b off bs := by
        rcases HD.out with h | h
        · subst h; simp at hlt
        · exact h
      obtain ⟨c0, c1, c2⟩ := kb_at (Kind.at_kept hat HB.out) i hlt
      obtain ⟨f0, f1, f2⟩ := HF.out.2 _ (List.getElem_mem hlt)
      have hmem := List.getElem_mem hlt
      have htk : bs.take (i + 1) = bs.take i ++ [bs[i]] := List.take_succ_eq_append_getElem hlt
      have hL : (bs.take i).length = i := by rw [List.length_take]; omega
      obtain ⟨x, hx⟩ : ∃ x, bs[i] = x := ⟨_, rfl⟩
      rw [hx] at c0 c1 c2 f0 f1 f2 hmem htk
      obtain ⟨nm, ka, kb⟩ := x
      simp only at c0 c1 c2 f0 f1 f2
      have HT := hid (fun W => temp_any nm W f0)
      have HK := hid (fun W => key_any ka kb W f1 f2)
      have hbd : bindOK (nm, ka, kb) = (tempB nm.data.toList && keyB ka kb) := rfl
      have HBD := hid hbd
      have HTK := hid htk
      have HME := hid hmem
      have HF0 := hid f0
      have hsz := HB.out.size
      have HB1 := hid (HB.out.alloc hsz (.cells #[.string nm, .string ka, .string kb] 44))
      have HM1 := hid (HM.out.on ((Below.refl _ wr).alloc (Nat.le_refl _) (.cells #[.string nm, .string ka, .string kb] 44)))
      obtain ⟨G, hG⟩ : ∃ G, bs.take i = G := ⟨_, rfl⟩
      rw [hG] at HM1 HTK HA hL
      clear hat hx hmem htk hbd HM f0 f1 f2 hG
      cases hT : tempB nm.data.toList with
      | false =>
        rw [hT] at HT
        have HX : Hid (bs.all bindOK = false) := by
          show _ = _
          rw [List.all_eq_false]
          exact ⟨_, HME.out, by rw [HBD.out, hT]; simp⟩
        go_wp2_with (first | (go_at_call 40; refine (HT.out _).mono ?_; rintro e w1 ⟨rfl, rfl⟩))
        go_ret2
        exact ⟨HB1.out, Or.inl ⟨HX.out, rfl⟩⟩
      | true =>
        rw [hT] at HT
        cases hK : keyB ka kb with
        | false =>
          rw [hK] at HK
          have HX : Hid (bs.all bindOK = false) := by
            show _ = _
            rw [List.all_eq_false]
            exact ⟨_, HME.out, by rw [HBD.out, hT, hK]; simp⟩
          go_wp2_with (first | (go_at_call 40; refine (HT.out _).mono ?_; rintro e w1 ⟨rfl, rfl⟩) | (go_at_call 44; refine (HK.out _).mono ?_; rintro e w2 ⟨rfl, hb2⟩))
          go_ret2
          exact ⟨bel_then HB1.out HB1.out.size hb2, Or.inl ⟨HX.out, rfl⟩⟩
        | true =>
          rw [hK] at HK
          have HX : Hid (bindOK (nm, ka, kb) = true) := by show _ = _; rw [HBD.out, hT, hK]; rfl
          go_wp2_with (first
            | (go_at_call 40; refine (HT.out _).mono ?_; rintro e w1 ⟨rfl, rfl⟩)
            | (go_at_call 44; refine (HK.out _).mono ?_; rintro e w2 ⟨rfl, hb2⟩; obtain ⟨d0, d1, d2⟩ := box3 hb2; have HM2 := hid (HM1.out.on hb2); have HB2 := hid (bel_then HB1.out HB1.out.size hb2); clear hb2)
            | (at_mapUpdate; refine wpList_mapUpdate_own _ rfl _ _ _ 59 rfl 9 31 keyedStr Tryz.underlying59 keyElem w.heap.size G.length (mapD G) rfl HM2.out (by unfold maxLen; omega) _ _ (nameL nm) rfl rfl (name_key HF0.out) (keyD (ka, kb)) [] rfl ?_; intro w3 hown3 hg3; have HO3 := hid hown3; have HG3 := hid hg3; clear hown3 hg3))
          go_roundg (bs.length - (i + 1))
          case measure => omega
          refine ⟨i + 1, by go_num, by omega, by omega, ?_, ?_, ?_⟩
          · exact HB2.out.grown HG3.out HB2.out.size (fun k hk => by cases hk; exact Nat.le_refl _)
          · rw [HTK.out]
            show MapB _ _ _
            unfold MapB
            rw [mapD_snoc, List.length_append]
            exact HO3.out
          · rw [HTK.out]
            show _ = _
            rw [List.all_append, HA.out]
            simpa using HX.out
    · have hltz : ¬ (i : Int) < (bs.length : Int) := by omega
      have hti : bs.take i = bs := List.take_of_length_le (by omega)
      rw [hti] at HM HA
      have hlen := fun ty => mapB_len HM.out ty
      obtain ⟨s1, s2⟩ := mapD_size bs HF.out.fitB
      have S2 := hid s2
      obtain ⟨M, hM⟩ : ∃ M, size (mapD bs) = M := ⟨_, rfl⟩
      rw [hM] at hlen s1 S2
      clear hti hM s2
      by_cases hlt2 : M < bs.length
      · have hz2 : (M : Int) < (bs.length : Int) := by omega
        have HN : Hid (¬ (bs.map (·.1)).Nodup) := fun h => by have := S2.out.2 h; omega
        go_wp2_with fail
        go_ret2
        exact ⟨HB.out, Or.inr (Or.inl ⟨HA.out, HN.out, rfl⟩)⟩
      · have hz2 : ¬ (M : Int) < (bs.length : Int) := by omega
        have HN : Hid ((bs.map (·.1)).Nodup) := S2.out.1 (by omega)
        go_wp2_with fail
        go_ret2
        exact ⟨HB.out, Or.inr (Or.inr ⟨HA.out, HN.out, _, rfl, Nat.le_refl _, HM.out⟩)⟩

end Go.Proofs.YtinmagodckkedaaGreat

/-
  The contracts of Rename and Resolve of package refs.
-/
namespace Go.Proofs.YtinmagodckkedaaGreat
open Go.RowKit Go.Lib Go.Maps

set_option maxHeartbeats 1000000 in
theorem rename1_any (A B : Nat) (s r t : ByteArray) (w : World) (h1 : w.cell? ⟨A, 0, none⟩ = some (.string s)) (h2 : w.cell? ⟨B, 0, none⟩ = some (.string r)) :
    Calls Tryz.prog 32 #[.string t, .pointer (some ⟨A, 0, none⟩), .pointer (some ⟨B, 0, none⟩)] w fun e w' => e = .returned (.string (if t = s then r else t)) ∧ w' = w := by
  by_cases h : t = s
  · rw [if_pos h]
    have hb := seq_true h
    clear h
    go_enter Tryz.func32, Tryz.ntmps32
    go_wp2_with fail
    go_ret
    exact ⟨rfl, rfl⟩
  · rw [if_neg h]
    have hb := seq_false h
    clear h
    go_enter Tryz.func32, Tryz.ntmps32
    go_wp2_with fail
    go_ret
    exact ⟨rfl, rfl⟩

theorem enters_rename1 : ∀ args w, (callFunc 32 args).run Tryz.prog w = .ok (.enter 32 args) w := enters_of Tryz.func32 (by kernel_rfl) rfl
theorem enters_resolve1 : ∀ args w, (callFunc 31 args).run Tryz.prog w = .ok (.enter 31 args) w := enters_of Tryz.func31 (by kernel_rfl) rfl

theorem ren_text {a b : Ky} (ha : keyOK a = true) (t : ByteArray) : (if t = refT a then refT b else t) = renT a b t := by
  unfold renT
  by_cases h : t = refT a
  · rw [if_pos h, if_pos ((named_iff ha t).2 h)]
  · rw [if_neg h, if_neg fun k => h ((named_iff ha t).1 k)]

/-- What Rename answers. -/
def renCode (a b : Ky) : Int := if keyOK a = true ∧ keyOK b = true then 0 else 2
def renAns (a b : Ky) (fs : List Fld) : List Fld := if keyOK a = true ∧ keyOK b = true then mapT (renT a b) fs else []

def AnsJ (w : World) (fs : List Fld) (c : Int) (e : Ending) (w' : World) : Prop := ∃ u o, e = .returned (.tuple #[u, .int .i64 c]) ∧ OwnJ w.heap.size w' u o ∧ o.map Fx.fld = fs ∧ Below w.heap.size w w'

theorem own_noneX (N : Nat) (w : World) : OwnJ N w (.slice none 0 0) [] := ⟨⟨World.ownsRow_nil _ _ _ _, fun x hx => by simp at hx⟩, List.Pairwise.nil⟩

/-- Sizes that allow a copy. -/
def CopyX (d : List Fx) : Prop := d.length * 40 ≤ 140737488355328 ∧ ∀ x ∈ d, x.txt.length * 16 ≤ 140737488355328

theorem own_weakJ {N M : Nat} {w : World} {u : Value} {o : List Fx} (h : OwnJ N w u o) (hm : M ≤ N) : OwnJ M w u o := ⟨⟨own_weak h.1.1 hm, fun x hx => own_weak (h.1.2 x hx) hm⟩, h.2⟩

set_option maxHeartbeats 4000000 in
set_option maxRecDepth 100000 in
theorem rename_any (v : Value) (d : List Fx) (a b : Ky) (w : World) (hv : IsXs w v d) (hf : FitX d) (hc : CopyX d) (ha1 : a.1.size ≤ maxLen) (ha2 : a.2.size ≤ maxLen) (hb1 : b.1.size ≤ maxLen) (hb2 : b.2.size ≤ maxLen) :
    Calls Tryz.prog 15 #[v, .agg #[.string a.1, .string a.2], .agg #[.string b.1, .string b.2]] w fun e w' => AnsJ w (renAns a b (d.map Fx.fld)) (renCode a b) e w' := by
  have hbx : Below w.heap.size w ((w.alloc (.cells #[.string a.1, .string a.2] 31)).alloc (.cells #[.string b.1, .string b.2] 31)) := ((Below.refl _ _).alloc (Nat.le_refl _) _).alloc (by simp) _
  cases ha : keyOK a with
  | false =>
    have HR : Hid (renCode a b = 2 ∧ renAns a b (d.map Fx.fld) = []) := by
      have : ¬ (keyOK a = true ∧ keyOK b = true) := by rw [ha]; simp
      exact ⟨if_neg this, if_neg this⟩
    rw [HR.out.1, HR.out.2]
    have HT := hid (fun W => text_no a W ha1 ha2 ha)
    have HBX := hid hbx
    obtain ⟨a1, a2⟩ := a
    obtain ⟨b1, b2⟩ := b
    simp only at HT HBX ⊢
    clear hv hf ha HR hbx
    go_enter Tryz.func15, Tryz.ntmps15
    go_wp2_with (first | (go_at_call 11; refine (HT.out _).mono ?_; rintro e w1 ⟨rfl, hq1⟩))
    go_ret2
    refine ⟨_, [], rfl, own_noneX _ _, rfl, ?_⟩
    exact (bel_then HBX.out HBX.out.size hq1).alloc (bel_then HBX.out HBX.out.size hq1).size _
  | true =>
    have HT := hid (fun W => text_yes a W ha)
    cases hb : keyOK b with
    | false =>
      have HR : Hid (renCode a b = 2 ∧ renAns a b (d.map Fx.fld) = []) := by
        have : ¬ (keyOK a = true ∧ keyOK b = true) := by rw [hb]; simp
        exact ⟨if_neg this, if_neg this⟩
      rw [HR.out.1, HR.out.2]
      have HT2 := hid (fun W => text_no b W hb1 hb2 hb)
      have HBX := hid hbx
      obtain ⟨s, hs⟩ : ∃ s, refT a = s := ⟨_, rfl⟩
      rw [hs] at HT
      obtain ⟨a1, a2⟩ := a
      obtain ⟨b1, b2⟩ := b
      simp only at HT HT2 HBX ⊢
      clear hv hf ha hb HR hbx hs
      have kb : ∀ W, Below ((w.alloc (.cells #[.string a1, .string a2] 31)).alloc (.cells #[.string b1, .string b2] 31)).heap.size ((w.alloc (.cells #[.string a1, .string a2] 31)).alloc (.cells #[.string b1, .string b2] 31)) W → ∀ o, (W.alloc o).cell? ⟨w.heap.size + 1, 0, none⟩ = some (.string b1) ∧ (W.alloc o).cell? ⟨w.heap.size + 1, 1, none⟩ = some (.string b2) := fun W hW o => by
        have h0 := heap_alloc_new (w.alloc (.cells #[.string a1, .string a2] 31)) (.cells #[.string b1, .string b2] 31)
        rw [World.size_alloc] at h0
        have hlt := (Array.getElem?_eq_some_iff.1 h0).1
        have h1 := (hW.block _ hlt).trans h0
        have h2 := (Below.heap_alloc W o (w.heap.size + 1) (Nat.lt_of_lt_of_le hlt hW.size)).trans h1
        rw [Lib.cell_of_heap h2, Lib.cell_of_heap h2]
        exact ⟨rfl, rfl⟩
      have KB1 := hid kb
      clear kb
      go_enter Tryz.func15, Tryz.ntmps15
      go_wp2_with fail
      refine (HT.out _).mono ?_
      rintro e w1 ⟨rfl, hq1⟩
      obtain ⟨kc0, kc1⟩ := KB1.out w1 hq1 (.cells #[.string s] 9)
      have HB1 := hid ((bel_then HBX.out HBX.out.size hq1).alloc (bel_then HBX.out HBX.out.size hq1).size (.cells #[.string s] 9))
      clear hq1
      go_wp2_with fail
      refine (HT2.out _).mono ?_
      rintro e w2 ⟨rfl, hq2⟩
      go_wp2_with fail
      go_ret2
      refine ⟨_, [], rfl, own_noneX _ _, rfl, ?_⟩
      exact (bel_then HB1.out HB1.out.size hq2).alloc (bel_then HB1.out HB1.out.size hq2).size _
    | true =>
      have HR : Hid (renCode a b = 0 ∧ renAns a b (d.map Fx.fld) = mapT (renT a b) (d.map Fx.fld)) := by
        have : keyOK a = true ∧ keyOK b = true := ⟨ha, hb⟩
        exact ⟨if_pos this, if_pos this⟩
      rw [HR.out.1, HR.out.2]
      have HT2 := hid (fun W => text_yes b W hb)
      have HBX := hid hbx
      have HCH : Hid (∀ (A B : Nat) W, Below w.heap.size w W → W.cell? ⟨A, 0, none⟩ = some (.string (refT a)) → W.cell? ⟨B, 0, none⟩ = some (.string (refT b)) → Calls Tryz.prog 30 #[v, .func (.func 32) #[] #[.pointer (some ⟨A, 0, none⟩), .pointer (some ⟨B, 0, none⟩)]] W fun e w' => ∃ u o, e = .returned u ∧ OwnJ W.heap.size w' u o ∧ o.map Fx.fld = mapT (renT a b) (d.map Fx.fld) ∧ Below W.heap.size W w') := fun A B W hW h1 h2 =>
        changed_any 32 _ (renT a b) v d W (hv.kept hW) hf (by have := hc.1; omega) (fun x hx => by have := hc.2 x hx; omega) enters_rename1 (fun t _ W' hW' => by
          have := rename1_any A B (refT a) (refT b) t W' ((hW'.cell (p := ⟨A, 0, none⟩) (cell_block h1)).trans h1) ((hW'.cell (p := ⟨B, 0, none⟩) (cell_block h2)).trans h2)
          rw [ren_text ha] at this
          exact this.mono fun e w' ⟨p1, p2⟩ => ⟨p1, by rw [p2]; exact Below.refl _ _⟩)
      obtain ⟨s, hs⟩ : ∃ s, refT a = s := ⟨_, rfl⟩
      obtain ⟨r, hr⟩ : ∃ r, refT b = r := ⟨_, rfl⟩
      rw [hs] at HT HCH
      rw [hr] at HT2 HCH
      obtain ⟨G, hG⟩ : ∃ G, mapT (renT a b) (d.map Fx.fld) = G := ⟨_, rfl⟩
      rw [hG] at HCH ⊢
      obtain ⟨a1, a2⟩ := a
      obtain ⟨b1, b2⟩ := b
      simp only at HT HT2 HBX HCH ⊢
      clear hv hf ha hb HR hbx hs hr hG hc
      have kb : ∀ W, Below ((w.alloc (.cells #[.string a1, .string a2] 31)).alloc (.cells #[.string b1, .string b2] 31)).heap.size ((w.alloc (.cells #[.string a1, .string a2] 31)).alloc (.cells #[.string b1, .string b2] 31)) W → ∀ o, (W.alloc o).cell? ⟨w.heap.size + 1, 0, none⟩ = some (.string b1) ∧ (W.alloc o).cell? ⟨w.heap.size + 1, 1, none⟩ = some (.string b2) := fun W hW o => by
        have h0 := heap_alloc_new (w.alloc (.cells #[.string a1, .string a2] 31)) (.cells #[.string b1, .string b2] 31)
        rw [World.size_alloc] at h0
        have hlt := (Array.getElem?_eq_some_iff.1 h0).1
        have h1 := (hW.block _ hlt).trans h0
        have h2 := (Below.heap_alloc W o (w.heap.size + 1) (Nat.lt_of_lt_of_le hlt hW.size)).trans h1
        rw [Lib.cell_of_heap h2, Lib.cell_of_heap h2]
        exact ⟨rfl, rfl⟩
      have KB1 := hid kb
      clear kb
      have hone : ∀ (W : World) (x : ByteArray), (W.alloc (.cells #[.string x] 9)).cell? ⟨W.heap.size, 0, none⟩ = some (.string x) := fun W x => by rw [Lib.cell_of_heap (heap_alloc_new W _)]; rfl
      have HONE := hid hone
      clear hone
      go_enter Tryz.func15, Tryz.ntmps15
      go_wp2_with fail
      refine (HT.out _).mono ?_
      rintro e w1 ⟨rfl, hq1⟩
      obtain ⟨kc0, kc1⟩ := KB1.out w1 hq1 (.cells #[.string s] 9)
      have HB1 := hid ((bel_then HBX.out HBX.out.size hq1).alloc (bel_then HBX.out HBX.out.size hq1).size (.cells #[.string s] 9))
      clear hq1
      go_wp2_with fail
      refine (HT2.out _).mono ?_
      rintro e w2 ⟨rfl, hq2⟩
      have HB2 := hid ((bel_then HB1.out HB1.out.size hq2).alloc (bel_then HB1.out HB1.out.size hq2).size (.cells #[.string r] 9))
      have HC1 := hid (kept_new (.cells #[.string r] 9) (kept hq2 (HONE.out w1 s)))
      clear hq2
      go_wp2_with fail
      refine (HCH.out w1.heap.size w2.heap.size _ HB2.out HC1.out (HONE.out w2 r)).mono ?_
      rintro e w3 ⟨u3, o3, rfl, hj3, hm3, hq3⟩
      have HJ3 := hid hj3
      have HM3 := hid hm3
      clear hj3 hm3
      go_wp2_with fail
      go_ret2
      exact ⟨_, o3, rfl, own_weakJ HJ3.out HB2.out.size, HM3.out, bel_then HB2.out HB2.out.size hq3⟩

end Go.Proofs.YtinmagodckkedaaGreat

/-
  What each row's proof opens its arguments by (stage 5): fields, binds, keys; and their bulk.
-/
namespace Go.Proofs.YtinmagodckkedaaGreat
open Go.ChangeShapes Go.WideShapes Go.ChangeAt Go.RowKit Go.Lib Go.Deep Go.Joins

theorem Tryz.own : ownKnob Tryz.prog.godebug = none := by kernel_rfl
theorem Tryz.laidOut : laidOutB Tryz.prog = true := by kernel_rfl
theorem Tryz.cellsFld : Tryz.prog.cellsOf 40 = 2 := by kernel_rfl
theorem Tryz.cellsStr : Tryz.prog.cellsOf 9 = 1 := by kernel_rfl
theorem Tryz.cellsStrs : Tryz.prog.cellsOf 28 = 1 := by kernel_rfl
theorem Tryz.cellsKy : Tryz.prog.cellsOf 31 = 2 := by kernel_rfl
theorem Tryz.cellsBd : Tryz.prog.cellsOf 44 = 3 := by kernel_rfl

/-- A slice of texts that came in. -/
theorem open_txt {H : Type} {enc : TypeId × Value → H} {W : World} {f : Nat} {v : Value} {x : DataW H × List MemPlace} (h : DataW.trod enc Tryz.prog W 0 (fun _ => true) true f 28 [v] = some x) :
    ∃ p cap, ∃ ts : List ByteArray, v = .slice p ts.length cap ∧ TxtAt W p ts ∧ FitT ts := by
  rcases open_strings Tryz.underlying28 Tryz.underlying9 Tryz.cellsStr h with ⟨hcs, _⟩ | ⟨a, l, c, ss, hcs, _, hl, hm, hz, _, hcell, hws⟩
  · simp at hcs
    exact ⟨none, 0, [], hcs, Or.inl rfl, by unfold maxLen; simp, fun t ht => by simp at ht⟩
  · simp at hcs
    have hz' : ss.length = c := by simpa using hz
    have hlen : (ss.take l).length = l := by rw [List.length_take]; omega
    refine ⟨some a, c, ss.take l, by rw [hlen]; exact hcs, ?_, by omega, fun t ht => hws t (List.mem_of_mem_take ht)⟩
    by_cases h0 : l = 0
    · subst h0; exact Or.inl rfl
    · right
      have hc0 := hcell 0 (by omega)
      obtain ⟨b, off, spot⟩ := a
      have hspot : spot = none := by simpa [Addr.add] using World.cell?_spot hc0
      subst hspot
      refine ⟨b, off, rfl, fun i hi => ?_⟩
      rw [hlen] at hi
      have := hcell i (by omega)
      rw [addr_add] at this
      rw [this, List.getElem_take, List.getD_eq_getElem?_getD, List.getElem?_eq_getElem (by omega)]
      rfl

set_option maxRecDepth 100000 in
/-- A slice of fields that came in. -/
theorem open_fields {H : Type} {enc : TypeId × Value → H} {W : World} {b0 : Nat} {v : Value} {dd : DataW H} {p : List MemPlace}
    (hv : Value.okWide Tryz.prog W .any b0 22 v) (h : DataW.Trod enc Tryz.prog W 0 (fun _ => true) true 22 v dd p) : ∃ d : List Fx, IsXs W v d ∧ FitX d := by
  obtain ⟨a0, len, cap, rfl⟩ := okWide_slice Tryz.underlying22 hv
  obtain ⟨fuel, hf⟩ := h
  rcases open_slice_pairs Tryz.underlying22 Tryz.underlying40 Tryz.cellsFld rfl rfl Tryz.cellsStr Tryz.cellsStrs hf with ⟨hcs, _⟩ | ⟨a, l, c, m, n, V0, V1, D0, D1, P0, P1, hcs, _, hl, hm, hmm, hdat, hall⟩
  · simp [Value.cells] at hcs
    obtain ⟨rfl, rfl, rfl⟩ := hcs
    exact ⟨[], ⟨none, 0, rfl, Or.inl rfl, fun x hx => by simp at hx⟩, by unfold maxLen; simp, fun x hx => by simp at hx⟩
  · simp [Value.cells] at hcs
    obtain ⟨rfl, rfl, rfl⟩ := hcs
    have hm' : m = cap := by simpa using hmm
    subst hm'
    have each : ∀ i, i < m → ∃ x : Fx, V0 i = .string x.name ∧ V1 i = x.sl ∧ TxtAt W x.p x.txt ∧ FitF x.fld := by
      intro i hi
      obtain ⟨_, _, h3, h4⟩ := hall i hi
      obtain ⟨s, e0, _, hs⟩ := DataW.trod_string Tryz.underlying9 h3
      simp only [List.cons.injEq, and_true] at e0
      obtain ⟨q, cc, ts, e1, ht, hft⟩ := open_txt h4
      exact ⟨⟨s, q, cc, ts⟩, e0, e1, ht, hs, hft⟩
    by_cases h0 : len = 0
    · subst h0
      exact ⟨[], ⟨_, _, rfl, Or.inl rfl, fun x hx => by simp at hx⟩, by unfold maxLen; simp, fun x hx => by simp at hx⟩
    · have hc0 := (hall 0 (by omega)).1
      obtain ⟨b, off, spot⟩ := a
      have hspot : spot = none := by simpa [Addr.add] using World.cell?_spot hc0
      subst hspot
      let f : Nat → Fx := fun i => if h : i < m then (each i h).choose else default
      have fs : ∀ i (h : i < m), V0 i = .string (f i).name ∧ V1 i = (f i).sl ∧ TxtAt W (f i).p (f i).txt ∧ FitF (f i).fld := fun i h => by
        have e : f i = (each i h).choose := dif_pos h
        rw [e]
        exact (each i h).choose_spec
      have hlen : ((List.range len).map f).length = len := by simp
      refine ⟨(List.range len).map f, ⟨_, m, by rw [hlen], Or.inr ⟨b, off, rfl, fun i hi => ?_⟩, fun x hx => ?_⟩, by rw [hlen]; omega, fun x hx => ?_⟩
      · have hi0 : i < len := by simpa using hi
        obtain ⟨h1, h2, _, _⟩ := hall i (by omega)
        obtain ⟨g1, g2, _⟩ := fs i (by omega)
        rw [addr_add] at h1 h2
        have ef : ((List.range len).map f)[i]'hi = f i := by simp
        rw [ef, h1, ← g1]
        refine ⟨rfl, ?_⟩
        rw [Nat.add_assoc, h2, g2]
      · obtain ⟨i, hi, rfl⟩ := List.mem_map.1 hx
        exact (fs i (by have := List.mem_range.1 hi; omega)).2.2.1
      · obtain ⟨i, hi, rfl⟩ := List.mem_map.1 hx
        exact (fs i (by have := List.mem_range.1 hi; omega)).2.2.2

theorem bulk_pos {H : Type} (d : DataW H) : 1 ≤ Rows.uptoBulk d := by
  cases d with
  | lit l => cases l <;> simp [Rows.uptoBulk]
  | nil => simp [Rows.uptoBulk]
  | ptr d => simp [Rows.uptoBulk]
  | slice elems spare => simp [Rows.uptoBulk]
  | agg parts => simp [Rows.uptoBulk]
  | iface t d => simp [Rows.uptoBulk]
  | map entries => simp [Rows.uptoBulk]
  | held h => simp [Rows.uptoBulk]

theorem bulk_sum {H : Type} (l : List (DataW H)) : Rows.uptoBulkAll l = (l.map Rows.uptoBulk).sum := by
  induction l with
  | nil => simp [Rows.uptoBulkAll]
  | cons x r ih => simp [Rows.uptoBulkAll, ih]

theorem bulk_mem {H : Type} {d : DataW H} {l : List (DataW H)} (h : d ∈ l) : Rows.uptoBulk d ≤ Rows.uptoBulkAll l := by
  induction l with
  | nil => cases h
  | cons x r ih =>
    simp only [Rows.uptoBulkAll]
    rcases List.mem_cons.1 h with rfl | h
    · omega
    · have := ih h; omega

theorem bulk_len {H : Type} (l : List (DataW H)) : l.length ≤ Rows.uptoBulkAll l := by
  induction l with
  | nil => simp [Rows.uptoBulkAll]
  | cons x r ih => have := bulk_pos x; simp only [Rows.uptoBulkAll, List.length_cons]; omega

theorem bulk_small {H : Type} {l : List (DataW H)} (hk : Rows.uptoSmall H l = true) : Rows.uptoBulkAll l ≤ 1048576 := of_decide_eq_true hk

/-- A slice of texts that came in, and its bulk. -/
theorem open_txtU {H : Type} {enc : TypeId × Value → H} {W : World} {f : Nat} {v : Value} {x : DataW H × List MemPlace} (h : DataW.trod enc Tryz.prog W 0 (fun _ => true) true f 28 [v] = some x) :
    ∃ p cap, ∃ ts : List ByteArray, v = .slice p ts.length cap ∧ TxtAt W p ts ∧ FitT ts ∧ ts.length + 1 ≤ Rows.uptoBulk x.1 ∧ ∀ t ∈ ts, t.size ≤ Rows.uptoBulk x.1 := by
  rcases open_strings Tryz.underlying28 Tryz.underlying9 Tryz.cellsStr h with ⟨hcs, hx⟩ | ⟨a, l, c, ss, hcs, _, hl, hm, hz, hx, hcell, hws⟩
  · simp at hcs
    exact ⟨none, 0, [], hcs, Or.inl rfl, ⟨by unfold maxLen; simp, fun t ht => by simp at ht⟩, by rw [hx]; simp [Rows.uptoBulk], fun t ht => by simp at ht⟩
  · simp at hcs
    have hz' : ss.length = c := by simpa using hz
    have hlen : (ss.take l).length = l := by rw [List.length_take]; omega
    have hb1 := bulk_len (strs (ss.take l) : List (DataW H))
    have hb2 : (strs (ss.take l) : List (DataW H)).length = l := by rw [show (strs (ss.take l) : List (DataW H)).length = (ss.take l).length by simp [strs], hlen]
    refine ⟨some a, c, ss.take l, by rw [hlen]; exact hcs, ?_, ⟨by omega, fun t ht => hws t (List.mem_of_mem_take ht)⟩, ?_, fun t ht => ?_⟩
    · by_cases h0 : l = 0
      · subst h0; exact Or.inl rfl
      · right
        have hc0 := hcell 0 (by omega)
        obtain ⟨b, off, spot⟩ := a
        have hspot : spot = none := by simpa [Addr.add] using World.cell?_spot hc0
        subst hspot
        refine ⟨b, off, rfl, fun i hi => ?_⟩
        rw [hlen] at hi
        have := hcell i (by omega)
        rw [addr_add] at this
        rw [this, List.getElem_take, List.getD_eq_getElem?_getD, List.getElem?_eq_getElem (by omega)]
        rfl
    · rw [hx, hlen]
      simp only [Rows.uptoBulk]
      omega
    · rw [hx]
      simp only [Rows.uptoBulk]
      have hm' : (DataW.lit (.string t.data.toList) : DataW H) ∈ strs (ss.take l) := by
        unfold strs
        exact List.mem_map.2 ⟨t, ht, rfl⟩
      have := bulk_mem hm'
      simp only [Rows.uptoBulk] at this
      have e : t.data.toList.length = t.size := by simp
      omega

theorem sum_le_of {α : Type} (l : List α) (f g : α → Nat) (h : ∀ i ∈ l, f i ≤ g i) : (l.map f).sum ≤ (l.map g).sum := by
  induction l with
  | nil => simp
  | cons a l ih =>
    have h1 := h a (by simp)
    have h2 := ih fun i hi => h i (by simp [hi])
    simp only [List.map_cons, List.sum_cons]
    omega

theorem sum_add_of {α : Type} (l : List α) (f : α → Nat) : (l.map fun i => 1 + f i).sum = l.length + (l.map f).sum := by
  induction l with
  | nil => simp
  | cons a l ih => simp only [List.map_cons, List.sum_cons, List.length_cons, ih]; omega

set_option maxRecDepth 100000 in
theorem open_fieldsU {H : Type} {enc : TypeId × Value → H} {W : World} {b0 : Nat} {v : Value} {dd : DataW H} {p : List MemPlace}
    (hv : Value.okWide Tryz.prog W .any b0 22 v) (h : DataW.Trod enc Tryz.prog W 0 (fun _ => true) true 22 v dd p) : ∃ d : List Fx, IsXs W v d ∧ FitX d ∧ d.length + totF (d.map Fx.fld) ≤ Rows.uptoBulk dd := by
  obtain ⟨a0, len, cap, rfl⟩ := okWide_slice Tryz.underlying22 hv
  obtain ⟨fuel, hf⟩ := h
  rcases open_slice_pairs Tryz.underlying22 Tryz.underlying40 Tryz.cellsFld rfl rfl Tryz.cellsStr Tryz.cellsStrs hf with ⟨hcs, _⟩ | ⟨a, l, c, m, n, V0, V1, D0, D1, P0, P1, hcs, _, hl, hm, hmm, hdat, hall⟩
  · simp [Value.cells] at hcs
    obtain ⟨rfl, rfl, rfl⟩ := hcs
    exact ⟨[], ⟨none, 0, rfl, Or.inl rfl, fun x hx => by simp at hx⟩, ⟨by unfold maxLen; simp, fun x hx => by simp at hx⟩, by simp [totF]⟩
  · simp [Value.cells] at hcs
    obtain ⟨rfl, rfl, rfl⟩ := hcs
    have hm' : m = cap := by simpa using hmm
    subst hm'
    have each : ∀ i, i < m → ∃ x : Fx, V0 i = .string x.name ∧ V1 i = x.sl ∧ TxtAt W x.p x.txt ∧ FitF x.fld ∧ x.txt.length + 1 ≤ Rows.uptoBulk (D1 i) := by
      intro i hi
      obtain ⟨_, _, h3, h4⟩ := hall i hi
      obtain ⟨s, e0, _, hs⟩ := DataW.trod_string Tryz.underlying9 h3
      simp only [List.cons.injEq, and_true] at e0
      obtain ⟨q, cc, ts, e1, ht, hft, hbk, _⟩ := open_txtU h4
      exact ⟨⟨s, q, cc, ts⟩, e0, e1, ht, ⟨hs, hft⟩, hbk⟩
    have hdd : dd = .slice ((List.range len).map fun i => .agg [D0 i, D1 i]) ((List.range (m - len)).map fun j => .agg [D0 (len + j), D1 (len + j)]) := congrArg Prod.fst hdat
    have hbulk : ((List.range len).map fun i => Rows.uptoBulk (D1 i)).sum ≤ Rows.uptoBulk dd := by
      rw [hdd]
      simp only [Rows.uptoBulk, bulk_sum, List.map_map]
      refine Nat.le_trans (sum_le_of (List.range len) _ (Rows.uptoBulk ∘ fun i => DataW.agg [D0 i, D1 i]) fun i _ => ?_) (by omega)
      simp only [Function.comp, Rows.uptoBulk, Rows.uptoBulkAll]
      omega
    by_cases h0 : len = 0
    · subst h0
      exact ⟨[], ⟨_, _, rfl, Or.inl rfl, fun x hx => by simp at hx⟩, ⟨by unfold maxLen; simp, fun x hx => by simp at hx⟩, by simp [totF]⟩
    · have hc0 := (hall 0 (by omega)).1
      obtain ⟨b, off, spot⟩ := a
      have hspot : spot = none := by simpa [Addr.add] using World.cell?_spot hc0
      subst hspot
      let f : Nat → Fx := fun i => if h : i < m then (each i h).choose else default
      have fs : ∀ i (h : i < m), V0 i = .string (f i).name ∧ V1 i = (f i).sl ∧ TxtAt W (f i).p (f i).txt ∧ FitF (f i).fld ∧ (f i).txt.length + 1 ≤ Rows.uptoBulk (D1 i) := fun i h => by
        have e : f i = (each i h).choose := dif_pos h
        rw [e]
        exact (each i h).choose_spec
      have hlen : ((List.range len).map f).length = len := by simp
      refine ⟨(List.range len).map f, ⟨_, m, by rw [hlen], Or.inr ⟨b, off, rfl, fun i hi => ?_⟩, fun x hx => ?_⟩, ⟨by rw [hlen]; omega, fun x hx => ?_⟩, ?_⟩
      · have hi0 : i < len := by simpa using hi
        obtain ⟨h1, h2, _, _⟩ := hall i (by omega)
        obtain ⟨g1, g2, _⟩ := fs i (by omega)
        rw [addr_add] at h1 h2
        have ef : ((List.range len).map f)[i]'hi = f i := by simp
        rw [ef, h1, ← g1]
        refine ⟨rfl, ?_⟩
        rw [Nat.add_assoc, h2, g2]
      · obtain ⟨i, hi, rfl⟩ := List.mem_map.1 hx
        exact (fs i (by have := List.mem_range.1 hi; omega)).2.2.1
      · obtain ⟨i, hi, rfl⟩ := List.mem_map.1 hx
        exact (fs i (by have := List.mem_range.1 hi; omega)).2.2.2.1
      · refine Nat.le_trans ?_ hbulk
        have e1 : totF (((List.range len).map f).map Fx.fld) = ((List.range len).map fun i => (f i).txt.length).sum := by
          unfold totF
          rw [List.map_map, List.map_map]
          rfl
        have e2 := sum_add_of (List.range len) fun i => (f i).txt.length
        rw [e1, hlen]
        rw [List.length_range] at e2
        rw [← e2]
        refine sum_le_of _ _ _ fun i hi => ?_
        have := (fs i (by have := List.mem_range.1 hi; omega)).2.2.2.2
        omega

set_option maxRecDepth 100000 in
/-- One key, from its two cells. -/
theorem open_ky {H : Type} {enc : TypeId × Value → H} {W : World} {n : Nat} {cs : List Value} {x : DataW H × List MemPlace} (h : DataW.trod enc Tryz.prog W 0 (fun _ => true) true n 31 cs = some x) :
    ∃ k : Ky, cs = encKy k ∧ k.1.size ≤ maxLen ∧ k.2.size ≤ maxLen := by
  obtain ⟨xs, k, _, _, hlen, hxl, hf⟩ := DataW.trod_struct Tryz.underlying31 h
  rw [Tryz.cellsKy] at hlen
  match cs, hlen with
  | [v0, v1], _ =>
    match xs, hxl with
    | [y0, y1], _ =>
      have g0 := hf 0 _ rfl
      have g1 := hf 1 _ rfl
      simp [Tryz.cellsStr] at g0 g1
      obtain ⟨a, ea, _, ha⟩ := DataW.trod_string Tryz.underlying9 g0
      obtain ⟨b, eb, _, hb⟩ := DataW.trod_string Tryz.underlying9 g1
      simp only [List.cons.injEq, and_true] at ea eb
      exact ⟨(a, b), by rw [ea, eb]; rfl, ha, hb⟩

set_option maxRecDepth 100000 in
/-- One bind, from its three cells. -/
theorem open_bind {H : Type} {enc : TypeId × Value → H} {W : World} {n : Nat} {cs : List Value} {x : DataW H × List MemPlace} (h : DataW.trod enc Tryz.prog W 0 (fun _ => true) true n 44 cs = some x) :
    ∃ b : Bd, cs = encBd b ∧ b.1.size ≤ maxLen ∧ b.2.1.size ≤ maxLen ∧ b.2.2.size ≤ maxLen := by
  obtain ⟨xs, k, _, _, hlen, hxl, hf⟩ := DataW.trod_struct Tryz.underlying44 h
  rw [Tryz.cellsBd] at hlen
  match cs, hlen with
  | [v0, v1, v2], _ =>
    match xs, hxl with
    | [y0, y1], _ =>
      have g0 := hf 0 _ rfl
      have g1 := hf 1 _ rfl
      simp [Tryz.cellsStr, Tryz.cellsKy] at g0 g1
      obtain ⟨a, ea, _, ha⟩ := DataW.trod_string Tryz.underlying9 g0
      obtain ⟨⟨k1, k2⟩, eb, hb1, hb2⟩ := open_ky g1
      simp only [List.cons.injEq, and_true, encKy] at ea eb
      exact ⟨(a, k1, k2), by rw [ea, eb.1, eb.2]; rfl, ha, hb1, hb2⟩

set_option maxRecDepth 100000 in
theorem open_binds {H : Type} {enc : TypeId × Value → H} {W : World} {b0 : Nat} {v : Value} {dd : DataW H} {p : List MemPlace}
    (hv : Value.okWide Tryz.prog W .any b0 45 v) (h : DataW.Trod enc Tryz.prog W 0 (fun _ => true) true 45 v dd p) :
    ∃ q : List Bd, KB.Is W v q ∧ (∀ b ∈ q, b.1.size ≤ maxLen ∧ b.2.1.size ≤ maxLen ∧ b.2.2.size ≤ maxLen) ∧ q.length ≤ Rows.uptoBulk dd ∧ ∃ p0 c0, v = .slice p0 q.length c0 ∧ q.length ≤ c0 := by
  obtain ⟨a0, len, cap, rfl⟩ := okWide_slice Tryz.underlying45 hv
  obtain ⟨fuel, hf⟩ := h
  rcases open_slice Tryz.underlying45 hf with ⟨hcs, _⟩ | ⟨a, l, c, m, n, D, Pl, hcs, _, hl, hm, hmm, hdat, hall⟩
  · simp [Value.cells] at hcs
    obtain ⟨rfl, rfl, rfl⟩ := hcs
    exact ⟨[], KB.is_nil W, fun x hx => by simp at hx, Nat.zero_le _, none, 0, rfl, Nat.le_refl _⟩
  · simp [Value.cells] at hcs
    obtain ⟨rfl, rfl, rfl⟩ := hcs
    have hm' : m = cap := by simpa using hmm
    subst hm'
    rw [Tryz.cellsBd] at hall
    have hdd : dd = .slice ((List.range len).map D) ((List.range (m - len)).map fun j => D (len + j)) := congrArg Prod.fst hdat
    have hbk : len ≤ Rows.uptoBulk dd := by
      rw [hdd]
      simp only [Rows.uptoBulk]
      have := bulk_len ((List.range len).map D)
      simp only [List.length_map, List.length_range] at this
      omega
    have each : ∀ i, i < m → ∃ t : Bd, (∀ j u, (encBd t)[j]? = some u → W.cell? (a.add (i * 3 + j)) = some u) ∧ t.1.size ≤ maxLen ∧ t.2.1.size ≤ maxLen ∧ t.2.2.size ≤ maxLen := by
      intro i hi
      obtain ⟨cs', h1, h2⟩ := hall i hi
      obtain ⟨_, hlen, hcell⟩ := World.cells?_some h1
      obtain ⟨t, rfl, ht⟩ := open_bind h2
      refine ⟨t, fun j u hu => ?_, ht⟩
      have hj : j < 3 := by
        have := (List.getElem?_eq_some_iff.1 hu).1
        exact this
      have := hcell j hj
      rw [add_add] at this
      rw [this]; exact hu
    by_cases h0 : len = 0
    · subst h0
      exact ⟨[], ⟨_, _, rfl, Or.inl rfl⟩, fun x hx => by simp at hx, Nat.zero_le _, _, _, rfl, Nat.zero_le _⟩
    · obtain ⟨f, hff⟩ := choose_lt each
      have hc0 := (hff 0 (by omega)).1 0 _ rfl
      obtain ⟨b, off, spot⟩ := a
      have hspot : spot = none := by simpa [Addr.add] using World.cell?_spot hc0
      subst hspot
      have hlen : ((List.range len).map f).length = len := by simp
      refine ⟨(List.range len).map f, ⟨_, m, by rw [hlen], Or.inr ⟨b, off, rfl, fun i hi j u hu => ?_⟩⟩, fun x hx => ?_, by rw [hlen]; exact hbk, _, m, by rw [hlen], by rw [hlen]; omega⟩
      · have hi0 : i < len := by simpa using hi
        have ef : ((List.range len).map f)[i]'hi = f i := by simp
        rw [ef] at hu
        have := (hff i (by omega)).1 j u hu
        rw [addr_add] at this
        rw [Nat.add_assoc]
        exact this
      · obtain ⟨i, hi, rfl⟩ := List.mem_map.1 hx
        exact (hff i (by have := List.mem_range.1 hi; omega)).2

set_option maxRecDepth 100000 in
theorem open_keyA {H : Type} {enc : TypeId × Value → H} {W : World} {b0 : Nat} {v : Value} {d : DataW H} {p : List MemPlace}
    (hv : Value.okWide Tryz.prog W .any b0 31 v) (h : DataW.Trod enc Tryz.prog W 0 (fun _ => true) true 31 v d p) :
    ∃ k : Ky, v = .agg #[.string k.1, .string k.2] ∧ k.1.size ≤ maxLen ∧ k.2.size ≤ maxLen := by
  obtain ⟨c0, c1, y0, y1, m, rfl, _, _, hy0, hy1⟩ := open_agg2 Tryz.underlying31 (by kernel_rfl) Tryz.cellsKy hv h
  obtain ⟨a, e0, _, ha⟩ := DataW.trod_string Tryz.underlying9 hy0
  obtain ⟨b, e1, _, hb⟩ := DataW.trod_string Tryz.underlying9 hy1
  simp only [List.cons.injEq, and_true] at e0 e1
  subst e0 e1
  exact ⟨(a, b), rfl, ha, hb⟩

theorem tot_txts (d : List Fx) : (txtsX d).length = totF (d.map Fx.fld) := by
  unfold txtsX totF
  rw [List.length_flatMap, List.map_map]
  rfl

theorem copy_of (d : List Fx) (h : d.length + totF (d.map Fx.fld) ≤ 1048576) : CopyX d :=
  ⟨by omega, fun x hx => by
    have := totF_mem (List.mem_map.2 ⟨x, hx, rfl⟩ : x.fld ∈ d.map Fx.fld)
    have e : x.fld.2.length = x.txt.length := rfl
    omega⟩

end Go.Proofs.YtinmagodckkedaaGreat
