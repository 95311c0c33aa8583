/-
  Texts of this claim, one behind the other: Edd Rname Re0 Hp0 Hbx Txr Txh Rmay Siz Renc Wri Pri Fix0 Fix Byt Rwr Sze0 Rpr Rnm Rnn Sam Ncd Nms Rrd Txs Lin0 Rwd Edl Hp1 App Hc0 Hpl Tak Tkm.
-/
import Derived.Test.YtelcongbnmfegabGreatDoorPb
import Derived.Test.YtelcongbnmfegabGreatDoorPa
import Derived.Laws.StructEq
import Derived.Deep.CutRange
import Derived.Shelf.SlicesQ.IndexFunc
import Derived.Lib.Join
import Derived.BigQuiet
import Derived.Laws.CopyRow
import Derived.Laws.IdiomCopy
import Derived.Lib.Overlaps
import Derived.Lib.AppendZerosOnto
import Derived.Deep.RegionHeld3
/-
  The plain mathematics of edits: a difference makes the one value of the other; edits in two pieces; what may be of a value by its parts.
-/
namespace Go.Proofs.YtelcongbnmfegabGreatDoor
open Go.RowKit

/-- What makes a field be just what it is. -/
def setsE (f : Fld) : List Ed := match f.2 with
  | [] => []
  | t :: ts => (1, f.1, t) :: ts.map fun u => (2, f.1, u)

/-- The difference of two values, gone through side by side. -/
def diffE : List Fld → List Fld → List Ed
  | [], [] => []
  | a :: ar, [] => (4, a.1, ⟨#[]⟩) :: diffE ar []
  | [], b :: br => setsE b ++ diffE [] br
  | a :: ar, b :: br => if ltB a.1 b.1 then (4, a.1, ⟨#[]⟩) :: diffE ar (b :: br)
      else if a.1 = b.1 then (if a.2 = b.2 then diffE ar br else setsE b ++ diffE ar br)
      else setsE b ++ diffE (a :: ar) br

/-- What Diff answers. -/
def codeDf (a b : List Fld) : Int := if mayB a = false ∨ mayB b = false then 3 else if 16 < (diffE a b).length then 5 else 0
def ansDf (a b : List Fld) : List Ed := if codeDf a b = 0 then diffE a b else []

theorem codeDf_zero {a b : List Fld} (h : codeDf a b = 0) : mayB a = true ∧ mayB b = true ∧ (diffE a b).length ≤ 16 := by
  unfold codeDf at h
  split at h
  · omega
  · rename_i h1
    split at h
    · omega
    · rename_i h2
      rw [not_or] at h1
      exact ⟨by simpa using h1.1, by simpa using h1.2, by omega⟩

theorem ltN_ltB (a b : ByteArray) : ltN a b = ltB a b := by
  unfold ltN
  exact sless_of rfl

/-- A value may be by its parts. -/
theorem mayR {fs : List Fld} (h : mayB fs = true) : fs.length ≤ 16 ∧ (∀ f ∈ fs, fitsB f = true) ∧ Rising fs := by
  have hs := (may_parts h).2
  have step : ∀ i, (hi : i + 1 < fs.length) → ltB (fs[i]).1 (fs[i + 1]).1 = true := fun i hi => by
    have := hs (i + 1) hi
    unfold stepOk at this
    rw [Bool.and_eq_true, Bool.or_eq_true] at this
    rcases this.2 with h | h
    · have := of_decide_eq_true h; omega
    · rw [ltN_ltB, Nat.add_sub_cancel, List.getD_eq_getElem?_getD, List.getD_eq_getElem?_getD, List.getElem?_eq_getElem hi, List.getElem?_eq_getElem (show i < fs.length by omega)] at h
      exact h
  refine ⟨(may_parts h).1, may_fits h, List.pairwise_iff_getElem.2 fun i j hi hj hij => ?_⟩
  induction j with
  | zero => omega
  | succ j ih =>
    by_cases e : i = j
    · subst e; exact step i hj
    · exact ltB_trans (ih (by omega) (by omega)) (step j hj)

theorem mayR_of {fs : List Fld} (h1 : fs.length ≤ 16) (h2 : ∀ f ∈ fs, fitsB f = true) (h3 : Rising fs) : mayB fs = true := by
  refine may_yes h1 fun i hi => ?_
  unfold stepOk
  have e : fs.getD i default = fs[i] := by rw [List.getD_eq_getElem?_getD, List.getElem?_eq_getElem hi]; rfl
  rw [e, h2 _ (List.getElem_mem hi), Bool.true_and, Bool.or_eq_true]
  by_cases h0 : i = 0
  · exact Or.inl (decide_eq_true h0)
  · right
    have e2 : fs.getD (i - 1) default = fs[i - 1] := by rw [List.getD_eq_getElem?_getD, List.getElem?_eq_getElem (show i - 1 < fs.length by omega)]; rfl
    rw [e2, ltN_ltB]
    exact h3.get (by omega) hi

theorem fitsP {f : Fld} (h : fitsB f = true) : fieldB f.1.data.toList = true ∧ f.2 ≠ [] ∧ f.2.length ≤ 8 ∧ ∀ t ∈ f.2, t.size ≤ 128 := by
  unfold fitsB at h
  simp only [Bool.and_eq_true, decide_eq_true_eq, Bool.not_eq_true'] at h
  obtain ⟨⟨⟨h1, h2⟩, h3⟩, h4⟩ := h
  refine ⟨h1, ?_, h3, fun t ht => ?_⟩
  · intro e; rw [e] at h2; simp at h2
  · have := List.any_eq_false.1 h4 t ht
    unfold longB at this
    simp at this
    exact this

theorem fitsO {f : Fld} (h1 : fieldB f.1.data.toList = true) (h2 : f.2 ≠ []) (h3 : f.2.length ≤ 8) (h4 : ∀ t ∈ f.2, t.size ≤ 128) : fitsB f = true := by
  unfold fitsB
  simp only [Bool.and_eq_true, decide_eq_true_eq, Bool.not_eq_true']
  refine ⟨⟨⟨h1, ?_⟩, h3⟩, List.any_eq_false.2 fun t ht => ?_⟩
  · cases hf : f.2 with
    | nil => exact absurd hf h2
    | cons _ _ => rfl
  · have := h4 t ht
    unfold longB
    simp
    exact this

theorem may_nobareE {fs : List Fld} (h : mayB fs = true) : NoBare fs := fun f hf => (fitsP ((mayR h).2.1 f hf)).2.1

theorem okR_may {fs : List Fld} (h : mayB fs = true) : OkR 0 fs where
  rise := (mayR h).2.2
  full := may_nobareE h
  len := (mayR h).1
  each := fun f hf => by
    obtain ⟨a, _, b, c⟩ := fitsP ((mayR h).2.1 f hf)
    exact ⟨a, b, c⟩

/-- Of a value on its way just the numbers may be wrong. -/
theorem okR_mayB {k : Nat} {r : List Fld} (h : OkR k r) : mayB r = (decide (r.length ≤ 16) && r.all fun f => decide (f.2.length ≤ 8)) := by
  rw [Bool.eq_iff_iff, Bool.and_eq_true, decide_eq_true_eq, List.all_eq_true]
  constructor
  · intro hm
    refine ⟨(mayR hm).1, fun f hf => decide_eq_true (fitsP ((mayR hm).2.1 f hf)).2.2.1⟩
  · rintro ⟨h1, h2⟩
    refine mayR_of h1 (fun f hf => ?_) h.rise
    obtain ⟨a, _, c⟩ := h.each f hf
    exact fitsO a (h.full f hf) (of_decide_eq_true (h2 f hf)) c

theorem do_set (r : List Fld) (n t : ByteArray) : doE r (1, n, t) = (0, setF r n [t]) := by unfold doE; simp
theorem do_add (r : List Fld) (n t : ByteArray) : doE r (2, n, t) = (0, setF r n (textsOf r n ++ [t])) := by unfold doE; simp
theorem do_wipe (r : List Fld) (n t : ByteArray) : doE r (4, n, t) = (0, setF r n []) := by unfold doE; simp

theorem run_set (r : List Fld) (n t : ByteArray) (l : List Ed) : runE r ((1, n, t) :: l) = runE (setF r n [t]) l := by
  simp only [runE, do_set, if_true]

theorem run_add {r : List Fld} (hr : Rising r) (n : ByteArray) (cur : List ByteArray) (u : ByteArray) (l : List Ed) : runE (setF r n cur) ((2, n, u) :: l) = runE (setF r n (cur ++ [u])) l := by
  have e : textsOf (setF r n cur) n = cur := by rw [textsOf_set hr, if_pos rfl]
  simp only [runE, do_add, if_true]
  rw [e, setF_set]

theorem run_adds {r : List Fld} (hr : Rising r) (n : ByteArray) (l : List Ed) : ∀ (ts cur : List ByteArray), runE (setF r n cur) ((ts.map fun u => (2, n, u)) ++ l) = runE (setF r n (cur ++ ts)) l
  | [], cur => by simp
  | u :: ts, cur => by
    rw [List.map_cons, List.cons_append, run_add hr, run_adds hr n l ts, List.append_assoc]
    rfl

theorem run_sets {r : List Fld} (hr : Rising r) (f : Fld) (hf : f.2 ≠ []) (l : List Ed) : runE r (setsE f ++ l) = runE (setF r f.1 f.2) l := by
  unfold setsE
  cases h : f.2 with
  | nil => exact absurd h hf
  | cons t ts =>
    simp only [List.cons_append]
    rw [run_set, run_adds hr]
    rfl

theorem run_wipe (r : List Fld) (n : ByteArray) (l : List Ed) : runE r ((4, n, ⟨#[]⟩) :: l) = runE (setF r n []) l := by
  simp only [runE, do_wipe, if_true]

theorem tx_cons_same {a : Fld} {ar : List Fld} : textsOf (a :: ar) a.1 = a.2 := by simp [textsOf]
theorem tx_cons_other {a : Fld} {ar : List Fld} {m : ByteArray} (h : a.1 ≠ m) : textsOf (a :: ar) m = textsOf ar m := by simp [textsOf, h]

open Classical in
/-- What a run of a difference leaves. -/
def DiffSays (A B r : List Fld) : Prop :=
  (runE r (diffE A B)).1 = 0 ∧ Rising (runE r (diffE A B)).2 ∧ NoBare (runE r (diffE A B)).2 ∧
    ∀ m, textsOf (runE r (diffE A B)).2 m = if m ∈ A.map (fun f : Fld => f.1) ∨ m ∈ B.map (fun f : Fld => f.1) then textsOf B m else textsOf r m

theorem ite_iff {α : Type} {p q : Prop} {_ : Decidable p} {_ : Decidable q} {x y : α} (h : p ↔ q) : (if p then x else y) = if q then x else y := by
  by_cases hp : p
  · rw [if_pos hp, if_pos (h.1 hp)]
  · rw [if_neg hp, if_neg fun hq => hp (h.2 hq)]

theorem rise_out {a : Fld} {ar : List Fld} (h : Rising (a :: ar)) : a.1 ∉ ar.map (·.1) := fun hm => by
  obtain ⟨f, hf, e⟩ := List.mem_map.1 hm
  exact ltB_ne ((List.pairwise_cons.1 h).1 f hf) e.symm

theorem rise_below {n : ByteArray} {a : Fld} {ar : List Fld} (h : Rising (a :: ar)) (hn : ltB n a.1 = true) : n ∉ (a :: ar).map (·.1) := fun hm => by
  obtain ⟨f, hf, e⟩ := List.mem_map.1 hm
  rcases List.mem_cons.1 hf with rfl | hf
  · exact ltB_ne hn e.symm
  · exact ltB_ne (ltB_trans hn ((List.pairwise_cons.1 h).1 f hf)) e.symm

theorem out_texts {v : List Fld} {n : ByteArray} (h : n ∉ v.map (·.1)) : textsOf v n = [] := textsOf_out fun f hf e => h (List.mem_map.2 ⟨f, hf, e⟩)

theorem diff_run (A B : List Fld) : Rising A → Rising B → NoBare B → ∀ r : List Fld, Rising r → NoBare r → (∀ m, m ∈ A.map (·.1) ∨ m ∈ B.map (·.1) → textsOf r m = textsOf A m) → DiffSays A B r := by
  induction A, B using diffE.induct with
  | case1 => intro _ _ _ r hr nr _; exact ⟨by simp [diffE, runE], by simpa [diffE, runE] using hr, by simpa [diffE, runE] using nr, fun m => by simp [diffE, runE]⟩
  | case2 a ar ih =>
    intro hA hB nB r hr nr ht
    have ha := rise_out hA
    obtain ⟨i1, i2, i3, i4⟩ := ih (List.pairwise_cons.1 hA).2 hB nB (setF r a.1 []) (setF_rising hr _ _) (setF_nobare nr _ _) (fun m hm => by
      have hm1 : m ∈ ar.map (·.1) := by simpa using hm
      have hne : m ≠ a.1 := fun e => ha (e ▸ hm1)
      rw [textsOf_set hr, if_neg hne, ht m (Or.inl (by simp at hm1 ⊢; exact Or.inr hm1)), tx_cons_other (fun e => hne e.symm)])
    unfold DiffSays
    rw [diffE, run_wipe]
    refine ⟨i1, i2, i3, fun m => ?_⟩
    rw [i4 m, textsOf_set hr]
    by_cases e : m = a.1
    · subst e
      rw [if_pos (by simp : a.1 ∈ (a :: ar).map (·.1) ∨ a.1 ∈ ([] : List Fld).map (·.1)), if_pos rfl]
      have : textsOf ([] : List Fld) a.1 = [] := rfl
      rw [this]
      split <;> rfl
    · have hiff : (m ∈ (a :: ar).map (·.1) ∨ m ∈ ([] : List Fld).map (·.1)) ↔ (m ∈ ar.map (·.1) ∨ m ∈ ([] : List Fld).map (·.1)) := by simp [e]
      rw [if_neg e]
      exact ite_iff hiff.symm
  | case3 b br ih =>
    intro hA hB nB r hr nr ht
    have hb := rise_out hB
    obtain ⟨i1, i2, i3, i4⟩ := ih hA (List.pairwise_cons.1 hB).2 (fun f hf => nB f (by simp [hf])) (setF r b.1 b.2) (setF_rising hr _ _) (setF_nobare nr _ _) (fun m hm => by
      have hm1 : m ∈ br.map (·.1) := by simpa using hm
      have hne : m ≠ b.1 := fun e => hb (e ▸ hm1)
      rw [textsOf_set hr, if_neg hne, ht m (Or.inr (by simp at hm1 ⊢; exact Or.inr hm1))])
    unfold DiffSays
    rw [diffE, run_sets hr b (nB b (by simp))]
    refine ⟨i1, i2, i3, fun m => ?_⟩
    rw [i4 m, textsOf_set hr]
    by_cases e : m = b.1
    · subst e
      rw [if_pos (by simp : b.1 ∈ ([] : List Fld).map (·.1) ∨ b.1 ∈ (b :: br).map (·.1)), if_pos rfl, tx_cons_same, if_neg (by simpa using hb)]
    · have hiff : (m ∈ ([] : List Fld).map (·.1) ∨ m ∈ (b :: br).map (·.1)) ↔ (m ∈ ([] : List Fld).map (·.1) ∨ m ∈ br.map (·.1)) := by simp [e]
      rw [if_neg e, tx_cons_other (fun k => e k.symm)]
      exact ite_iff hiff.symm
  | case4 a ar b br hlt ih =>
    intro hA hB nB r hr nr ht
    have ha := rise_out hA
    have hab := rise_below hB hlt
    obtain ⟨i1, i2, i3, i4⟩ := ih (List.pairwise_cons.1 hA).2 hB nB (setF r a.1 []) (setF_rising hr _ _) (setF_nobare nr _ _) (fun m hm => by
      have hne : m ≠ a.1 := fun e => by
        subst e
        rcases hm with h | h
        · exact ha h
        · exact hab h
      rw [textsOf_set hr, if_neg hne, ht m (by rcases hm with h | h; exact Or.inl (by rw [List.map_cons]; exact List.mem_cons_of_mem _ h); exact Or.inr h), tx_cons_other (fun e => hne e.symm)])
    unfold DiffSays
    rw [diffE, if_pos hlt, run_wipe]
    refine ⟨i1, i2, i3, fun m => ?_⟩
    rw [i4 m, textsOf_set hr]
    by_cases e : m = a.1
    · subst e
      rw [if_pos (by simp : a.1 ∈ (a :: ar).map (·.1) ∨ a.1 ∈ (b :: br).map (·.1)), if_pos rfl, out_texts hab]
      split <;> rfl
    · have hiff : (m ∈ (a :: ar).map (·.1) ∨ m ∈ (b :: br).map (·.1)) ↔ (m ∈ ar.map (·.1) ∨ m ∈ (b :: br).map (·.1)) := by rw [List.map_cons (l := ar), List.mem_cons]; simp [e]
      rw [if_neg e]
      exact ite_iff hiff.symm
  | case5 a ar b br hlt hab heq ih =>
    intro hA hB nB r hr nr ht
    have ha := rise_out hA
    have hb := rise_out hB
    obtain ⟨i1, i2, i3, i4⟩ := ih (List.pairwise_cons.1 hA).2 (List.pairwise_cons.1 hB).2 (fun f hf => nB f (by simp [hf])) r hr nr (fun m hm => by
      have hne : a.1 ≠ m := fun e => by
        subst e
        rcases hm with h | h
        · exact ha h
        · rw [hab] at h; exact hb h
      rw [ht m (by rcases hm with h | h; exact Or.inl (by rw [List.map_cons]; exact List.mem_cons_of_mem _ h); exact Or.inr (by rw [List.map_cons]; exact List.mem_cons_of_mem _ h)), tx_cons_other hne])
    unfold DiffSays
    rw [diffE, if_neg hlt, if_pos hab, if_pos heq]
    refine ⟨i1, i2, i3, fun m => ?_⟩
    rw [i4 m]
    by_cases e : m = a.1
    · subst e
      have hno : ¬ (a.1 ∈ ar.map (·.1) ∨ a.1 ∈ br.map (·.1)) := fun h => by
        rcases h with h | h
        · exact ha h
        · rw [hab] at h; exact hb h
      rw [if_neg hno, if_pos (by simp : a.1 ∈ (a :: ar).map (·.1) ∨ a.1 ∈ (b :: br).map (·.1)), ht a.1 (by simp), tx_cons_same, hab, tx_cons_same, heq]
    · have e2 : m ≠ b.1 := by rw [← hab]; exact e
      have hiff : (m ∈ (a :: ar).map (·.1) ∨ m ∈ (b :: br).map (·.1)) ↔ (m ∈ ar.map (·.1) ∨ m ∈ br.map (·.1)) := by rw [List.map_cons, List.map_cons, List.mem_cons, List.mem_cons]; simp [e, e2]
      rw [tx_cons_other (fun k => e2 k.symm)]
      exact ite_iff hiff.symm
  | case6 a ar b br hlt hab heq ih =>
    intro hA hB nB r hr nr ht
    have ha := rise_out hA
    have hb := rise_out hB
    obtain ⟨i1, i2, i3, i4⟩ := ih (List.pairwise_cons.1 hA).2 (List.pairwise_cons.1 hB).2 (fun f hf => nB f (by simp [hf])) (setF r b.1 b.2) (setF_rising hr _ _) (setF_nobare nr _ _) (fun m hm => by
      have hne : a.1 ≠ m := fun e => by
        subst e
        rcases hm with h | h
        · exact ha h
        · rw [hab] at h; exact hb h
      rw [textsOf_set hr, if_neg (fun e => hne (by rw [hab, e])), ht m (by rcases hm with h | h; exact Or.inl (by rw [List.map_cons]; exact List.mem_cons_of_mem _ h); exact Or.inr (by rw [List.map_cons]; exact List.mem_cons_of_mem _ h)), tx_cons_other hne])
    unfold DiffSays
    rw [diffE, if_neg hlt, if_pos hab, if_neg heq, run_sets hr b (nB b (by simp))]
    refine ⟨i1, i2, i3, fun m => ?_⟩
    rw [i4 m, textsOf_set hr]
    by_cases e : m = b.1
    · subst e
      have hno : ¬ (b.1 ∈ ar.map (·.1) ∨ b.1 ∈ br.map (·.1)) := fun h => by
        rcases h with h | h
        · rw [← hab] at h; exact ha h
        · exact hb h
      rw [if_neg hno, if_pos rfl, if_pos (by simp : b.1 ∈ (a :: ar).map (·.1) ∨ b.1 ∈ (b :: br).map (·.1)), tx_cons_same]
    · have e2 : m ≠ a.1 := by rw [hab]; exact e
      have hiff : (m ∈ (a :: ar).map (·.1) ∨ m ∈ (b :: br).map (·.1)) ↔ (m ∈ ar.map (·.1) ∨ m ∈ br.map (·.1)) := by rw [List.map_cons, List.map_cons, List.mem_cons, List.mem_cons]; simp [e, e2]
      rw [if_neg e, tx_cons_other (fun k => e k.symm)]
      exact ite_iff hiff.symm
  | case7 a ar b br hlt hab ih =>
    intro hA hB nB r hr nr ht
    have hb := rise_out hB
    have hba : ltB b.1 a.1 = true := by
      rcases ltB_cases a.1 b.1 with h | h | h
      · exact absurd h hlt
      · exact absurd h hab
      · exact h
    have hbA := rise_below hA hba
    obtain ⟨i1, i2, i3, i4⟩ := ih hA (List.pairwise_cons.1 hB).2 (fun f hf => nB f (by simp [hf])) (setF r b.1 b.2) (setF_rising hr _ _) (setF_nobare nr _ _) (fun m hm => by
      have hne : m ≠ b.1 := fun e => by
        subst e
        rcases hm with h | h
        · exact hbA h
        · exact hb h
      rw [textsOf_set hr, if_neg hne, ht m (by rcases hm with h | h; exact Or.inl h; exact Or.inr (by rw [List.map_cons]; exact List.mem_cons_of_mem _ h))])
    unfold DiffSays
    rw [diffE, if_neg hlt, if_neg hab, run_sets hr b (nB b (by simp))]
    refine ⟨i1, i2, i3, fun m => ?_⟩
    rw [i4 m, textsOf_set hr]
    by_cases e : m = b.1
    · subst e
      have hno : ¬ (b.1 ∈ (a :: ar).map (·.1) ∨ b.1 ∈ br.map (·.1)) := fun h => by
        rcases h with h | h
        · exact hbA h
        · exact hb h
      rw [if_neg hno, if_pos rfl, if_pos (by simp : b.1 ∈ (a :: ar).map (·.1) ∨ b.1 ∈ (b :: br).map (·.1)), tx_cons_same]
    · have hiff : (m ∈ (a :: ar).map (·.1) ∨ m ∈ (b :: br).map (·.1)) ↔ (m ∈ (a :: ar).map (·.1) ∨ m ∈ br.map (·.1)) := by rw [List.map_cons (l := br), List.mem_cons]; simp [e]
      rw [if_neg e, tx_cons_other (fun k => e k.symm)]
      exact ite_iff hiff.symm

/-- A difference makes the one of the other. -/
theorem diff_makes {a b : List Fld} (ha : mayB a = true) (hb : mayB b = true) : (runE a (diffE a b)).1 = 0 ∧ (runE a (diffE a b)).2 = b := by
  have hA := (mayR ha).2.2
  have hB := (mayR hb).2.2
  obtain ⟨h1, h2, h3, h4⟩ := diff_run a b hA hB (may_nobareE hb) a hA (may_nobareE ha) (fun m _ => rfl)
  refine ⟨h1, value_unique h2 hB h3 (may_nobareE hb) fun m => ?_⟩
  rw [h4 m]
  split
  · rfl
  · rename_i h
    rw [not_or] at h
    rw [out_texts h.1, out_texts h.2]

theorem sets_ok {f : Fld} (h : fitsB f = true) : ∀ x ∈ setsE f, namedE x = true ∧ rightE x = true ∧ shortE x = true := by
  obtain ⟨h1, h2, h3, h4⟩ := fitsP h
  intro x hx
  unfold setsE at hx
  cases hf : f.2 with
  | nil => rw [hf] at hx; cases hx
  | cons t ts =>
    rw [hf] at hx h4
    rcases List.mem_cons.1 hx with rfl | hx
    · exact ⟨h1, by unfold rightE; simp, decide_eq_true (h4 t (by simp))⟩
    · obtain ⟨u, hu, rfl⟩ := List.mem_map.1 hx
      exact ⟨h1, by unfold rightE; simp, decide_eq_true (h4 u (by simp [hu]))⟩

theorem wipe_ok {f : Fld} (h : fitsB f = true) : namedE (4, f.1, ⟨#[]⟩) = true ∧ rightE (4, f.1, ⟨#[]⟩) = true ∧ shortE (4, f.1, ⟨#[]⟩) = true := ⟨(fitsP h).1, rfl, rfl⟩

theorem diff_ok (A B : List Fld) : (∀ f ∈ A, fitsB f = true) → (∀ f ∈ B, fitsB f = true) → ∀ x ∈ diffE A B, namedE x = true ∧ rightE x = true ∧ shortE x = true := by
  induction A, B using diffE.induct with
  | case1 => intro _ _ x hx; simp [diffE] at hx
  | case2 a ar ih =>
    intro hA hB x hx
    rw [diffE] at hx
    rcases List.mem_cons.1 hx with rfl | hx
    · exact wipe_ok (hA a (by simp))
    · exact ih (fun f hf => hA f (by simp [hf])) hB x hx
  | case3 b br ih =>
    intro hA hB x hx
    rw [diffE] at hx
    rcases List.mem_append.1 hx with hx | hx
    · exact sets_ok (hB b (by simp)) x hx
    · exact ih hA (fun f hf => hB f (by simp [hf])) x hx
  | case4 a ar b br hlt ih =>
    intro hA hB x hx
    rw [diffE, if_pos hlt] at hx
    rcases List.mem_cons.1 hx with rfl | hx
    · exact wipe_ok (hA a (by simp))
    · exact ih (fun f hf => hA f (by simp [hf])) hB x hx
  | case5 a ar b br hlt hab heq ih =>
    intro hA hB x hx
    rw [diffE, if_neg hlt, if_pos hab, if_pos heq] at hx
    exact ih (fun f hf => hA f (by simp [hf])) (fun f hf => hB f (by simp [hf])) x hx
  | case6 a ar b br hlt hab heq ih =>
    intro hA hB x hx
    rw [diffE, if_neg hlt, if_pos hab, if_neg heq] at hx
    rcases List.mem_append.1 hx with hx | hx
    · exact sets_ok (hB b (by simp)) x hx
    · exact ih (fun f hf => hA f (by simp [hf])) (fun f hf => hB f (by simp [hf])) x hx
  | case7 a ar b br hlt hab ih =>
    intro hA hB x hx
    rw [diffE, if_neg hlt, if_neg hab] at hx
    rcases List.mem_append.1 hx with hx | hx
    · exact sets_ok (hB b (by simp)) x hx
    · exact ih hA (fun f hf => hB f (by simp [hf])) x hx

/-- Apply of a difference that Diff tells. -/
theorem diff_applies {a b : List Fld} (h : codeDf a b = 0) : codeA a (diffE a b) = 0 ∧ ansA a (diffE a b) = b := by
  obtain ⟨h1, h2, h3⟩ := codeDf_zero h
  obtain ⟨e1, e2⟩ := diff_makes h1 h2
  have ho := diff_ok a b (mayR h1).2.1 (mayR h2).2.1
  have hc : codeA a (diffE a b) = 0 := codeA_of h1 (mayE_of h3 (fun x hx => (ho x hx).1) (fun x hx => (ho x hx).2.1) (fun x hx => (ho x hx).2.2)) e1 (by rw [e2]; exact h2)
  refine ⟨hc, ?_⟩
  unfold ansA
  rw [if_pos hc, e2]

/-- Edits in two pieces. -/
theorem pieces_yes {v : List Fld} {a b : List Ed} (h1 : codeA v a = 0) (h2 : codeA v (a ++ b) = 0) : codeA (ansA v a) b = 0 ∧ ansA (ansA v a) b = ansA v (a ++ b) := by
  obtain ⟨m1, m2, m3, m4⟩ := codeA_zero h1
  obtain ⟨n1, n2, n3, n4⟩ := codeA_zero h2
  have e1 : ansA v a = (runE v a).2 := by unfold ansA; rw [if_pos h1]
  have er := runE_append v a b
  rw [if_pos m3] at er
  have hmb : mayE b = 0 := by
    obtain ⟨k1, k2, k3, k4⟩ := mayE_zero n2
    rw [List.length_append] at k1
    exact mayE_of (by omega) (fun x hx => k2 x (by simp [hx])) (fun x hx => k3 x (by simp [hx])) (fun x hx => k4 x (by simp [hx]))
  have hc : codeA (ansA v a) b = 0 := by
    rw [e1]
    exact codeA_of m4 hmb (by rw [← er]; exact n3) (by rw [← er]; exact n4)
  refine ⟨hc, ?_⟩
  unfold ansA at hc ⊢
  rw [if_pos h1] at hc ⊢
  rw [if_pos hc, if_pos h2, er]

theorem pieces_no {v : List Fld} {a b : List Ed} (h1 : codeA v a = 0) (h2 : codeA v (a ++ b) ≠ 0) (hl : (a ++ b).length ≤ 16) : codeA (ansA v a) b ≠ 0 := by
  intro hc
  obtain ⟨m1, m2, m3, m4⟩ := codeA_zero h1
  have e1 : ansA v a = (runE v a).2 := by unfold ansA; rw [if_pos h1]
  rw [e1] at hc
  obtain ⟨n1, n2, n3, n4⟩ := codeA_zero hc
  have er := runE_append v a b
  rw [if_pos m3] at er
  refine h2 (codeA_of m1 ?_ (by rw [er]; exact n3) (by rw [er]; exact n4))
  obtain ⟨k1, k2, k3, k4⟩ := mayE_zero m2
  obtain ⟨j1, j2, j3, j4⟩ := mayE_zero n2
  exact mayE_of hl (fun x hx => (List.mem_append.1 hx).elim (k2 x) (j2 x)) (fun x hx => (List.mem_append.1 hx).elim (k3 x) (j3 x)) (fun x hx => (List.mem_append.1 hx).elim (k4 x) (j4 x))

end Go.Proofs.YtelcongbnmfegabGreatDoor

/-
  The contracts of the reference's class and Field.
-/
namespace Go.Proofs.YtelcongbnmfegabGreatDoor
open Go.RowKit

def cls (n : Int) : Int := if bigB n then 1 else if smallB n then 2 else if digB n then 3 else if n = 45 ∨ n = 46 then 4 else 0

theorem cls_cases (n : Int) :
    (cls n = 1 ∧ bigB n = true ∧ smallB n = false ∧ letB n = true ∧ lodB n = true ∧ idB n = true) ∨
    (cls n = 2 ∧ bigB n = false ∧ smallB n = true ∧ letB n = true ∧ lodB n = true ∧ idB n = true) ∨
    (cls n = 3 ∧ bigB n = false ∧ smallB n = false ∧ letB n = false ∧ lodB n = true ∧ idB n = true) ∨
    (cls n = 4 ∧ bigB n = false ∧ smallB n = false ∧ letB n = false ∧ lodB n = false ∧ idB n = true) ∨
    (cls n = 0 ∧ bigB n = false ∧ smallB n = false ∧ letB n = false ∧ lodB n = false ∧ idB n = false) := by
  cases h1 : bigB n
  · cases h2 : smallB n
    · cases h3 : digB n
      · by_cases h4 : n = 45 ∨ n = 46
        · right; right; right; left
          refine ⟨by simp [cls, h1, h2, h3, h4], rfl, rfl, by simp [letB, h1, h2], by simp [lodB, letB, h1, h2, h3], ?_⟩
          rcases h4 with rfl | rfl <;> decide
        · right; right; right; right
          have h45 : (n == 45) = false := beq_eq_false_iff_ne.2 fun e => h4 (.inl e)
          have h46 : (n == 46) = false := beq_eq_false_iff_ne.2 fun e => h4 (.inr e)
          exact ⟨by simp [cls, h1, h2, h3, h4], rfl, rfl, by simp [letB, h1, h2], by simp [lodB, letB, h1, h2, h3], by simp [idB, lodB, letB, h1, h2, h3, h45, h46]⟩
      · right; right; left
        exact ⟨by simp [cls, h1, h2, h3], rfl, rfl, by simp [letB, h1, h2], by simp [lodB, h3], by simp [idB, lodB, h3]⟩
    · right; left
      exact ⟨by simp [cls, h1, h2], rfl, rfl, by simp [letB, h2], by simp [lodB, letB, h2], by simp [idB, lodB, letB, h2]⟩
  · left
    have h2 : smallB n = false := by
      rw [bigB_true] at h1
      rw [Bool.eq_false_iff, Ne, smallB_true]; omega
    exact ⟨by simp [cls, h1], rfl, h2, by simp [letB, h1], by simp [lodB, letB, h1], by simp [idB, lodB, letB, h1]⟩

set_option maxHeartbeats 400000 in
theorem class_any (n : Int) (w : World) : Calls Tryz.prog 42 #[.int .u8 n] w fun e w' => e = .returned (.int .i64 (cls n)) ∧ w' = w := by
  go_enter Tryz.func42, Tryz.ntmps42
  go_wp2
  all_goals go_ret
  all_goals refine ⟨ret_int ?_, rfl⟩
  all_goals (simp_all [cls, bigB, smallB, digB]; try omega)

set_option maxHeartbeats 1000000 in
theorem rfield_any (s : ByteArray) (w : World) (hs : s.size ≤ maxLen) :
    Calls Tryz.prog 16 #[.string s] w fun e w' => e = .returned (.bool (fieldB s.data.toList)) ∧ w' = w := by
  unfold maxLen at hs
  have HE := hid (spell_empty smallB lodB s)
  have HG := hid (spell_long smallB lodB s)
  have HF := hid (spell_first smallB lodB s)
  have HA := hid (spell_at smallB lodB s)
  have HT := hid (spell_true smallB lodB s)
  have HB : Hid (fieldB s.data.toList = spell smallB lodB s.data.toList) := rfl
  go_enter Tryz.func16, Tryz.ntmps16
  go_wp2
  go_loop [3] (fun i => ∃ k : Nat, k ≤ s.size ∧ i = .int .i64 k ∧ (∀ j, j < k → (hj : j < s.size) → (j = 0 → smallB (s[j].toNat : Int) = true) ∧ (1 ≤ j → lodB (s[j].toNat : Int) = true))) (fun i => s.size - (intOf i).toNat)
  case atStart => exact ⟨0, by omega, rfl, fun j h => by omega⟩
  case round =>
    obtain ⟨k, hk, rfl, hall⟩ := hrel
    have HL := hid hall
    clear hall
    by_cases hlt : k < s.size
    · rcases Nat.eq_zero_or_pos k with h0 | h0
      · have HZ := hid h0
        have hz : ((k : Int) == 0) = true := by rw [h0]; rfl
        clear h0
        rcases cls_cases (s[k].toNat : Int) with h | h | h | h | h
        all_goals
          have HC := hid h
          clear h
          go_wp2_with (go_at_call 42; refine (class_any _ _).mono ?_; rintro e w' ⟨rfl, rfl⟩; rw [HC.out.1])
          first
          | (go_ret; exact ⟨ret_bool (by rw [HB.out]; have hz' := HZ.out; subst hz'; exact (HF.out hlt (by first | exact HC.out.2.1 | exact HC.out.2.2.1 | exact HC.out.2.2.2.2.1 | exact HC.out.2.2.2.2.2)).symm), rfl⟩)
          | (go_round
             case rel =>
               refine ⟨k + 1, by omega, by go_num, fun j h1 hj => ?_⟩
               have hz' := HZ.out
               have hj0 : j = k := by omega
               subst hj0
               exact ⟨fun _ => (by first | exact HC.out.2.1 | exact HC.out.2.2.1 | exact HC.out.2.2.2.2.1 | exact HC.out.2.2.2.2.2), fun _ => by omega⟩
             case measure => simp [intOf]; omega)
      · have HZ := hid h0
        have hz : ((k : Int) == 0) = false := by rw [beq_eq_false_iff_ne]; omega
        clear h0
        rcases cls_cases (s[k].toNat : Int) with h | h | h | h | h
        all_goals
          have HC := hid h
          clear h
          go_wp2_with (go_at_call 42; refine (class_any _ _).mono ?_; rintro e w' ⟨rfl, rfl⟩; rw [HC.out.1])
          first
          | (go_ret; exact ⟨ret_bool (by rw [HB.out]; exact (HA.out k HZ.out hlt (by first | exact HC.out.2.2.2.1 | exact HC.out.2.2.2.2.1 | exact HC.out.2.2.2.2.2)).symm), rfl⟩)
          | (go_round
             case rel =>
               refine ⟨k + 1, by omega, by go_num, fun j h1 hj => ?_⟩
               by_cases hjk : j = k
               · subst hjk
                 exact ⟨fun e => by have := HZ.out; omega, fun _ => (by first | exact HC.out.2.2.2.1 | exact HC.out.2.2.2.2.1 | exact HC.out.2.2.2.2.2)⟩
               · exact HL.out j (by omega) hj
             case measure => simp [intOf]; omega)
    · have hks : k = s.size := by omega
      rcases Nat.eq_zero_or_pos s.size with hz | hz
      · have hn : ¬ (0 : Int) < (s.size : Int) := by omega
        have HZ := hid hz
        clear hz hks
        go_wp2_with fail
        go_ret
        exact ⟨ret_bool (by rw [HB.out]; exact (HE.out HZ.out).symm), rfl⟩
      · have hn : (0 : Int) < (s.size : Int) := by omega
        by_cases hm : s.size ≤ 32
        · have hm' : (s.size : Int) ≤ 32 := by omega
          have HK := hid hks
          clear hks
          go_wp2_with fail
          go_ret
          refine ⟨ret_bool (by rw [HB.out]; exact (HT.out hz hm ((HL.out 0 (by have := HK.out; omega) hz).1 rfl) (fun j h1 hj => (HL.out j (by have := HK.out; omega) hj).2 h1)).symm), rfl⟩
        · have hm' : ¬ (s.size : Int) ≤ 32 := by omega
          clear hks
          go_wp2_with fail
          go_ret
          exact ⟨ret_bool (by rw [HB.out]; exact (HG.out (by omega)).symm), rfl⟩

end Go.Proofs.YtelcongbnmfegabGreatDoor

/-
  The contracts of the reference's May and Same of edits, of sign and kind.
-/
namespace Go.Proofs.YtelcongbnmfegabGreatDoor
open Go.RowKit

theorem ke_cells {w : World} {b off : Nat} {p : List Ed} (h : KE.At w b off p) (i : Nat) (hi : i < p.length) :
    w.cell? ⟨b, off + i * 3, none⟩ = some (.int .i64 (p[i]).1) ∧ w.cell? ⟨b, off + i * 3 + 1, none⟩ = some (.string (p[i]).2.1) ∧ w.cell? ⟨b, off + i * 3 + 2, none⟩ = some (.string (p[i]).2.2) :=
  ⟨h i hi 0 _ rfl, h i hi 1 _ rfl, h i hi 2 _ rfl⟩

theorem all_snocE {p : List Ed} {f : Ed → Bool} {i : Nat} (h : i < p.length) : (p.take (i + 1)).all f = ((p.take i).all f && f p[i]) := by
  rw [List.take_succ_eq_append_getElem h, List.all_append]
  simp

theorem Tryz.infoEd : (Tryz.prog.info? 24).map (fun i => (i.zero, i.size, i.bytes)) = some (some (.agg #[.int .i64 0, .string ⟨#[]⟩, .string ⟨#[]⟩]), 3, 40) := by kernel_rfl

theorem neq_edit (a b : Ed) (w : World) : (binOp .neq 24 (.agg #[.int .i64 a.1, .string a.2.1, .string a.2.2]) (.agg #[.int .i64 b.1, .string b.2.1, .string b.2.2])).run Tryz.prog w = .ok (.bool (!decide (a = b))) w := by
  obtain ⟨a1, a2, a3⟩ := a
  obtain ⟨b1, b2, b3⟩ := b
  have hS : Tryz.prog.underlying 24 = some (.struct (Tryz.prog.fieldsOf 24)) := by kernel_rfl
  have hp : Tryz.prog.stoodInHeld 24 = false := by kernel_rfl
  have u9 := Tryz.underlying9
  have a9 := Tryz.isAgg9
  have z9 := Tryz.sizeOf9
  have u3 := Tryz.underlying3
  have a3' := Tryz.isAgg3
  have z3 := Tryz.sizeOf3
  rw [run_neq_struct, show (10000 : Nat) = 9999 + 1 from rfl, run_equalIn_agg w 9999 24 _ _ hS hp]
  simp only [Program.fieldsOf, Tryz.underlying24]
  go_simp
  by_cases h1 : a1 = b1
  · subst h1
    by_cases h2 : a2 = b2
    · subst h2
      by_cases h3 : a3 = b3
      · subst h3; simp
      · have e3 := beq_eq_false_iff_ne.1 (seq_false h3)
        simp [h3, e3]
    · have e2 := beq_eq_false_iff_ne.1 (seq_false h2)
      simp [h2, e2]
  · simp [h1]

/-- A kind's sign. -/
def signS (k : Int) : ByteArray := if k = 1 then ⟨#[58, 61]⟩ else if k = 2 then ⟨#[43, 61]⟩ else if k = 3 then ⟨#[45, 61]⟩ else if k = 4 then ⟨#[126]⟩ else ⟨#[61, 61]⟩

/-- The kind of a sign's first byte, or 0. -/
def kindN (c : Int) : Int := if c = 58 then 1 else if c = 43 then 2 else if c = 45 then 3 else if c = 126 then 4 else if c = 61 then 5 else 0

theorem kindN_range (c : Int) : 0 ≤ kindN c ∧ kindN c ≤ 5 := by
  unfold kindN
  repeat' split
  all_goals omega

end Go.Proofs.YtelcongbnmfegabGreatDoor

/-
  The contract of May of edits.
-/
namespace Go.Proofs.YtelcongbnmfegabGreatDoor
open Go.RowKit Go.Sort Go.Lib

set_option maxHeartbeats 1000000 in
theorem emis_any (x : Ed) (w : World) (hs : x.2.1.size ≤ maxLen) : Calls Tryz.prog 18 #[.agg (encE x).toArray] w fun e w' => e = .returned (.bool (!namedE x)) ∧ Grown w w' := by
  obtain ⟨o, a, t⟩ := x
  simp only [encE, namedE] at hs ⊢
  go_enter Tryz.func18, Tryz.ntmps18
  go_wp2_with (go_at_call 44; refine (field_any _ _ hs).mono ?_; rintro e w' ⟨rfl, rfl⟩)
  go_ret
  exact ⟨rfl, (Grown.refl _).alloc _⟩

set_option maxHeartbeats 1000000 in
theorem elong_any (x : Ed) (w : World) : Calls Tryz.prog 20 #[.agg (encE x).toArray] w fun e w' => e = .returned (.bool (!shortE x)) ∧ Grown w w' := by
  obtain ⟨o, a, t⟩ := x
  simp only [encE, shortE]
  have HE : Hid (decide ((128 : Int) < t.size) = !decide (t.size ≤ 128)) := by
    show _ = _
    rw [Bool.eq_iff_iff]; simp; omega
  go_enter Tryz.func20, Tryz.ntmps20
  go_wp2_with fail
  go_ret
  exact ⟨ret_bool HE.out, (Grown.refl _).alloc _⟩

set_option maxHeartbeats 2000000 in
theorem eunm_any (x : Ed) (w : World) : Calls Tryz.prog 19 #[.agg (encE x).toArray] w fun e w' => e = .returned (.bool (!rightE x)) ∧ Grown w w' := by
  obtain ⟨o, a, t⟩ := x
  simp only [encE]
  by_cases h4 : o = 4
  · have HE : Hid ((!t.toList.isEmpty) = !rightE (o, a, t)) := by
      show _ = _
      unfold rightE
      have e1 : decide (1 ≤ o) = true := decide_eq_true (by omega)
      have e2 : decide (o ≤ 5) = true := decide_eq_true (by omega)
      have e3 : decide (o ≠ 4) = false := decide_eq_false (by omega)
      simp only [e1, e2, e3, Bool.true_and, Bool.false_or]
      congr 1
      by_cases hz : t.size = 0
      · rw [sempty_of hz, decide_eq_true hz]
      · rw [sfull_of hz, decide_eq_false hz]
    subst h4
    go_enter Tryz.func19, Tryz.ntmps19
    go_wp2_with fail
    go_ret
    exact ⟨ret_bool HE.out, (Grown.refl _).alloc _⟩
  · by_cases h5 : o = 1 ∨ o = 2 ∨ o = 3 ∨ o = 5
    · have HE : Hid (false = !rightE (o, a, t)) := by
        show _ = _
        unfold rightE
        have e1 : decide (1 ≤ o) = true := decide_eq_true (by omega)
        have e2 : decide (o ≤ 5) = true := decide_eq_true (by omega)
        have e3 : decide (o ≠ 4) = true := decide_eq_true (by omega)
        simp only [e1, e2, e3, Bool.true_and, Bool.true_or, Bool.not_true]
      rcases h5 with rfl | rfl | rfl | rfl <;>
      · go_enter Tryz.func19, Tryz.ntmps19
        go_wp2_with fail
        go_ret
        exact ⟨ret_bool HE.out, (Grown.refl _).alloc _⟩
    · have HE : Hid (true = !rightE (o, a, t)) := by
        show _ = _
        unfold rightE
        by_cases e1 : 1 ≤ o
        · have e2 : decide (o ≤ 5) = false := decide_eq_false (by omega)
          simp [e2]
        · simp [e1]
      have n1 : (o == 1) = false := by simp; omega
      have n2 : (o == 2) = false := by simp; omega
      have n3 : (o == 3) = false := by simp; omega
      have n4 : (o == 4) = false := by simp; omega
      have n5 : (o == 5) = false := by simp; omega
      clear h4 h5
      go_enter Tryz.func19, Tryz.ntmps19
      go_wp2_with fail
      go_ret
      exact ⟨ret_bool HE.out, (Grown.refl _).alloc _⟩

/-- An edit whose texts a machine can hold. -/
def Ef : Type := { x : Ed // x.2.1.size ≤ maxLen ∧ x.2.2.size ≤ maxLen ∧ -9223372036854775808 ≤ x.1 ∧ x.1 ≤ 9223372036854775807 }
def efNone : Ef := ⟨(0, ⟨#[]⟩, ⟨#[]⟩), Nat.zero_le _, Nat.zero_le _, by decide, by decide⟩

set_option maxHeartbeats 1000000 in
theorem hasE_none (p : Option Addr) (c : Nat) (fv : Value) (w : World) :
    Calls Tryz.prog 17 #[.slice p 0 c, fv] w fun e w' => e = .returned (.bool false) ∧ w' = w := by
  have hix : Calls Tryz.prog 43 #[.slice p 0 c, fv] w fun e w' => e = .returned (.int .i64 (-1)) ∧ w' = w := by
    go_enter Tryz.func43, Tryz.ntmps43
    go_wp2_with fail
    refine wp_loop_rounds 1 ?_
    rw [rounds_succ]
    go_wp2_with fail
    go_ret
    exact ⟨rfl, rfl⟩
  have HX := hid hix
  clear hix
  go_enter Tryz.func17, Tryz.ntmps17
  go_wp2_with (first | (go_at_call 43; refine HX.out.mono ?_; rintro e w1 ⟨rfl, rfl⟩))
  go_ret
  exact ⟨rfl, rfl⟩

theorem ke_enc {w : World} {b off : Nat} {p : List Ed} (h : KE.At w b off p) (j : Nat) (hj : j < p.length) (i : Nat) (v : Value) (hv : (encE p[j])[i]? = some v) : w.cell? ⟨b, off + j * 3 + i, none⟩ = some v := h j hj i v hv

theorem hasE_any (f : Ed → Bool) (k : Nat) (lb : Array Value) (ent : ∀ args w, (callFunc k args).run Tryz.prog w = .ok (.enter k args) w) (v : Value) (p : List Ed) (w : World) (hv : KE.Is w v p) (hf : FitE p)
    (hk : ∀ (W : World) (x : Ed), Below w.heap.size w W → x.2.1.size ≤ maxLen → x.2.2.size ≤ maxLen → (-9223372036854775808 ≤ x.1 ∧ x.1 ≤ 9223372036854775807) → Calls Tryz.prog k (#[.agg (encE x).toArray] ++ lb) W fun e w' => e = .returned (.bool (f x)) ∧ Below w.heap.size w w') :
    Calls Tryz.prog 17 #[v, .func (.func k) #[] lb] w fun e w' => e = .returned (.bool (p.any f)) ∧ Below w.heap.size w w' := by
  obtain ⟨q, cap, rfl, hd⟩ := hv
  by_cases h0 : p = []
  · subst h0
    refine (hasE_none q cap _ w).mono ?_
    rintro e w' ⟨rfl, rfl⟩
    exact ⟨rfl, Below.refl _ _⟩
  · rcases hd with hd | ⟨b, off, rfl, hx⟩
    · exact absurd hd h0
    · have hlen : 0 < p.length := List.length_pos_iff.2 h0
      have hl := hf.1
      unfold maxLen at hl
      have hfn : ∀ x ∈ p, x.2.1.size ≤ maxLen ∧ x.2.2.size ≤ maxLen ∧ -9223372036854775808 ≤ x.1 ∧ x.1 ≤ 9223372036854775807 := hf.2
      obtain ⟨zs, hzs⟩ : ∃ zs : List Ef, zs.map (·.1) = p := ⟨p.attachWith _ hfn, List.attachWith_map_subtype_val ..⟩
      have hzl : zs.length = p.length := by rw [← hzs, List.length_map]
      letI : Inhabited Ef := ⟨efNone⟩
      have hc := AnyQ.slices_ContainsFunc (α := Ef) Tryz.hasEdt 3 Tryz.isAgg24 Tryz.sizeOf24 (fun x => encE x.1) (fun _ => rfl) (fun x => f x.1) k lb ent b off p.length cap zs w
        (fun W x hb => hk W x.1 hb x.2.1 x.2.2.1 x.2.2.2) (by omega) (by omega) (cell_block (hx 0 hlen 0 _ rfl))
        (fun j hj i u hu => by
          have hj' : j < p.length := by omega
          rw [getElem!_pos zs j hj] at hu
          have e : (zs[j]).1 = p[j] := by subst hzs; simp
          rw [e] at hu
          exact ke_enc hx j hj' i u hu)
      change Calls Tryz.prog 17 _ _ _ at hc
      refine hc.mono ?_
      rintro e w' ⟨rfl, hb⟩
      refine ⟨ret_bool ?_, hb⟩
      rw [List.take_of_length_le (by omega), ← hzs]
      simp [List.any_map, Function.comp_def]

theorem enters_emis : ∀ args w, (callFunc 18 args).run Tryz.prog w = .ok (.enter 18 args) w := enters_of Tryz.func18 (by kernel_rfl) rfl
theorem enters_eunm : ∀ args w, (callFunc 19 args).run Tryz.prog w = .ok (.enter 19 args) w := enters_of Tryz.func19 (by kernel_rfl) rfl
theorem enters_elong : ∀ args w, (callFunc 20 args).run Tryz.prog w = .ok (.enter 20 args) w := enters_of Tryz.func20 (by kernel_rfl) rfl

theorem any_notE (p : List Ed) (f : Ed → Bool) : p.any (fun x => !f x) = !p.all f := by
  induction p with
  | nil => rfl
  | cons x p ih => simp only [List.any_cons, List.all_cons, ih, Bool.not_and]

theorem hasMisE (v : Value) (p : List Ed) (w : World) (hv : KE.Is w v p) (hf : FitE p) : Calls Tryz.prog 17 #[v, .func (.func 18) #[] #[]] w fun e w' => e = .returned (.bool (!p.all namedE)) ∧ Below w.heap.size w w' := by
  have := hasE_any (fun x => !namedE x) 18 #[] enters_emis v p w hv hf (fun W x hb h1 _ _ => (emis_any x W h1).mono fun _ _ ⟨h2, h3⟩ => ⟨h2, hb.trans (h3.below.mono hb.size)⟩)
  rwa [any_notE] at this
theorem hasUnmE (v : Value) (p : List Ed) (w : World) (hv : KE.Is w v p) (hf : FitE p) : Calls Tryz.prog 17 #[v, .func (.func 19) #[] #[]] w fun e w' => e = .returned (.bool (!p.all rightE)) ∧ Below w.heap.size w w' := by
  have := hasE_any (fun x => !rightE x) 19 #[] enters_eunm v p w hv hf (fun W x hb _ _ _ => (eunm_any x W).mono fun _ _ ⟨h2, h3⟩ => ⟨h2, hb.trans (h3.below.mono hb.size)⟩)
  rwa [any_notE] at this
theorem hasLngE (v : Value) (p : List Ed) (w : World) (hv : KE.Is w v p) (hf : FitE p) : Calls Tryz.prog 17 #[v, .func (.func 20) #[] #[]] w fun e w' => e = .returned (.bool (!p.all shortE)) ∧ Below w.heap.size w w' := by
  have := hasE_any (fun x => !shortE x) 20 #[] enters_elong v p w hv hf (fun W x hb _ _ _ => (elong_any x W).mono fun _ _ ⟨h2, h3⟩ => ⟨h2, hb.trans (h3.below.mono hb.size)⟩)
  rwa [any_notE] at this

set_option maxHeartbeats 2000000 in
set_option maxRecDepth 100000 in
theorem pmayE_raw (v : Value) (p : List Ed) (w : World) (hv : KE.Is w v p) (hf : FitE p) :
    Calls Tryz.prog 7 #[v] w fun e w' => e = .returned (.int .i64 (mayE p)) ∧ Below w.heap.size w w' := by
  obtain ⟨q, cap, hvv⟩ : ∃ q cap, v = .slice q p.length cap := by obtain ⟨q, cap, h, _⟩ := hv; exact ⟨q, cap, h⟩
  subst hvv
  have HV := hid hv
  have HF := hid hf
  have H1 := hid (hasMisE _ p w hv hf)
  obtain ⟨m, hm⟩ : ∃ m, mayE p = m := ⟨_, rfl⟩
  rw [hm]
  have HM := hid hm
  clear hm hv hf
  unfold mayE at HM
  by_cases h16 : 16 < p.length
  · have h16z : (16 : Int) < (p.length : Int) := by omega
    have HR : Hid (5 = m) := by have := HM.out; rw [if_pos h16] at this; exact this
    go_enter Tryz.func7, Tryz.ntmps7
    go_wp2_with fail
    go_ret
    exact ⟨ret_int HR.out, Below.refl _ _⟩
  · have h16z : ¬ (16 : Int) < (p.length : Int) := by omega
    rw [if_neg h16] at HM
    cases a1 : p.all namedE with
    | false =>
      rw [a1] at H1
      have HR : Hid (2 = m) := by have := HM.out; rw [if_pos a1] at this; exact this
      go_enter Tryz.func7, Tryz.ntmps7
      go_wp2_with (go_at_call 17; refine H1.out.mono ?_; rintro e w1 ⟨rfl, hb1⟩)
      go_ret
      exact ⟨ret_int HR.out, hb1⟩
    | true =>
      rw [a1] at H1
      rw [if_neg (by rw [a1]; simp)] at HM
      have H2 : Hid (∀ W, Below w.heap.size w W → Calls Tryz.prog 17 #[.slice q p.length cap, .func (.func 19) #[] #[]] W fun e w' => e = .returned (.bool (!p.all rightE)) ∧ Below W.heap.size W w') := fun W hb => hasUnmE _ p W (Kind.is_kept HV.out hb) HF.out
      have H3 : Hid (∀ W, Below w.heap.size w W → Calls Tryz.prog 17 #[.slice q p.length cap, .func (.func 20) #[] #[]] W fun e w' => e = .returned (.bool (!p.all shortE)) ∧ Below W.heap.size W w') := fun W hb => hasLngE _ p W (Kind.is_kept HV.out hb) HF.out
      cases a2 : p.all rightE with
      | false =>
        rw [a2] at H2
        have HR : Hid (1 = m) := by have := HM.out; rw [if_pos a2] at this; exact this
        go_enter Tryz.func7, Tryz.ntmps7
        go_wp2_with (first | (go_at_call 17; refine H1.out.mono ?_; rintro e w1 ⟨rfl, hb1⟩) | (go_at_call 17; refine (H2.out w1 hb1).mono ?_; rintro e w2 ⟨rfl, hb2⟩))
        go_ret
        exact ⟨ret_int HR.out, bel_then hb1 hb1.size hb2⟩
      | true =>
        rw [a2] at H2
        rw [if_neg (by rw [a2]; simp)] at HM
        have h12 : Hid (∀ w1 w2, Below w.heap.size w w1 → Below w1.heap.size w1 w2 → Below w.heap.size w w2) := fun w1 w2 h k => bel_then h h.size k
        cases a3 : p.all shortE with
        | false =>
          rw [a3] at H3
          have HR : Hid (5 = m) := by have := HM.out; rw [if_pos a3] at this; exact this
          go_enter Tryz.func7, Tryz.ntmps7
          go_wp2_with (first | (go_at_call 17; refine H1.out.mono ?_; rintro e w1 ⟨rfl, hb1⟩) | (go_at_call 17; refine (H2.out w1 hb1).mono ?_; rintro e w2 ⟨rfl, hb2⟩; have hb12 := h12.out _ _ hb1 hb2) | (go_at_call 17; refine (H3.out w2 hb12).mono ?_; rintro e w3 ⟨rfl, hb3⟩))
          go_ret
          exact ⟨ret_int HR.out, bel_then hb12 hb12.size hb3⟩
        | true =>
          rw [a3] at H3
          have HR : Hid (0 = m) := by have := HM.out; rw [if_neg (by rw [a3]; simp)] at this; exact this
          go_enter Tryz.func7, Tryz.ntmps7
          go_wp2_with (first | (go_at_call 17; refine H1.out.mono ?_; rintro e w1 ⟨rfl, hb1⟩) | (go_at_call 17; refine (H2.out w1 hb1).mono ?_; rintro e w2 ⟨rfl, hb2⟩; have hb12 := h12.out _ _ hb1 hb2) | (go_at_call 17; refine (H3.out w2 hb12).mono ?_; rintro e w3 ⟨rfl, hb3⟩))
          go_ret
          exact ⟨ret_int HR.out, bel_then hb12 hb12.size hb3⟩

end Go.Proofs.YtelcongbnmfegabGreatDoor

/-
  An edit in a block of its own.
-/
namespace Go.Proofs.YtelcongbnmfegabGreatDoor
open Go.RowKit Go.Lib

theorem belE_drew {B : Nat} {a w : World} (h : Below B a w) (n : Nat) : Below B a (w.drewN n) := ⟨h.os, h.tape, h.output, h.size, h.block⟩

def BoxE (w : World) (g : Nat) (x : Ed) : Prop := w.heap[g]? = some (.cells #[.int .i64 x.1, .string x.2.1, .string x.2.2] 24 (0, 0))
theorem BoxE.cells {w : World} {g : Nat} {x : Ed} (h : BoxE w g x) : w.cell? ⟨g, 0, none⟩ = some (.int .i64 x.1) ∧ w.cell? ⟨g, 1, none⟩ = some (.string x.2.1) ∧ w.cell? ⟨g, 2, none⟩ = some (.string x.2.2) := by
  rw [Lib.cell_of_heap h, Lib.cell_of_heap h, Lib.cell_of_heap h]
  exact ⟨rfl, rfl, rfl⟩
theorem BoxE.lt {w : World} {g : Nat} {x : Ed} (h : BoxE w g x) : g < w.heap.size := (Array.getElem?_eq_some_iff.1 h).1
theorem BoxE.on {w w' : World} {g : Nat} {x : Ed} (h : BoxE w g x) (hb : Below w.heap.size w w') : BoxE w' g x := (hb.block g h.lt).trans h
theorem boxE_new (w : World) (x : Ed) : BoxE (w.alloc (.cells #[.int .i64 x.1, .string x.2.1, .string x.2.2] 24)) w.heap.size x := heap_alloc_new w _
theorem boxE_put {W : World} {R : Nat} {x : Ed} (h : BoxE W R x) (y : Ed) :
    BoxE (((W.setCell ⟨R, 0, none⟩ (.int .i64 y.1)).setCell ⟨R, 1, none⟩ (.string y.2.1)).setCell ⟨R, 2, none⟩ (.string y.2.2)) R y :=
  heap_setCell_same _ R 2 _ _ _ (heap_setCell_same _ R 1 _ _ _ (heap_setCell_same W R 0 _ _ _ h))
theorem boxE_text {W : World} {R : Nat} {x : Ed} (h : BoxE W R x) (t : ByteArray) : BoxE (W.setCell ⟨R, 2, none⟩ (.string t)) R (x.1, x.2.1, t) := heap_setCell_same W R 2 _ _ _ h
theorem boxE_free {W : World} {R : Nat} {x : Ed} (h : BoxE W R x) : W.frozen? ⟨R, 0, none⟩ = false ∧ W.frozen? ⟨R, 1, none⟩ = false ∧ W.frozen? ⟨R, 2, none⟩ = false :=
  ⟨Lib.frozen_of_heap h 0, Lib.frozen_of_heap h 1, Lib.frozen_of_heap h 2⟩
theorem belE_put {B R : Nat} {w W : World} (h : Below B w W) (hR : B ≤ R) (y : Ed) : Below B w (((W.setCell ⟨R, 0, none⟩ (.int .i64 y.1)).setCell ⟨R, 1, none⟩ (.string y.2.1)).setCell ⟨R, 2, none⟩ (.string y.2.2)) :=
  ((h.setCell (p := ⟨R, 0, none⟩) hR _).setCell (p := ⟨R, 1, none⟩) hR _).setCell (p := ⟨R, 2, none⟩) hR _

end Go.Proofs.YtelcongbnmfegabGreatDoor

/-
  The contracts of the reference's plain, digit and hex.
-/
namespace Go.Proofs.YtelcongbnmfegabGreatDoor
open Go.RowKit

theorem plainB_of (n : Int) (h : plainRuns.any (fun r => decide (r.1 ≤ n) && decide (n ≤ r.2)) = true) : plainB n = true := h

theorem plain_ranges (n : Int) (g0 : (45 == n) = false) (g1 : (46 == n) = false) (g2 : (95 == n) = false) (g3 : (124 == n) = false) (g4 : (42 == n) = false) (g5 : (64 == n) = false) (g6 : (47 == n) = false) (g7 : (58 == n) = false) (g8 : (43 == n) = false) (g9 : (44 == n) = false) :
    plainB n = (decide (48 ≤ n) && decide (n ≤ 57) || decide (65 ≤ n) && decide (n ≤ 90) || decide (97 ≤ n) && decide (n ≤ 122)) := by
  rw [beq_eq_false_iff_ne] at *
  unfold plainB plainRuns
  simp only [List.any_cons, List.any_nil, Bool.or_false]
  have e : ∀ k : Int, k ≠ n → (decide (k ≤ n) && decide (n ≤ k)) = false := fun k hk => by
    rw [Bool.and_eq_false_iff, decide_eq_false_iff_not, decide_eq_false_iff_not]; omega
  rw [e 45 g0, e 46 g1, e 95 g2, e 124 g3, e 42 g4, e 64 g5, e 47 g6, e 58 g7, e 43 g8, e 44 g9]
  simp only [Bool.or_false]
  generalize (decide (97 ≤ n) && decide (n ≤ 122)) = a
  generalize (decide (65 ≤ n) && decide (n ≤ 90)) = b
  generalize (decide (48 ≤ n) && decide (n ≤ 57)) = c
  cases a <;> cases b <;> cases c <;> rfl

end Go.Proofs.YtelcongbnmfegabGreatDoor

/-
  The contracts of the reference's digit and hex.
-/
namespace Go.Proofs.YtelcongbnmfegabGreatDoor
open Go.RowKit

/-- The number of a digit, or 16. -/
def hexN (c : UInt8) : Nat := if 48 ≤ c.toNat ∧ c.toNat ≤ 57 then c.toNat - 48 else if 97 ≤ c.toNat ∧ c.toNat ≤ 102 then c.toNat - 87 else 16

theorem hexN_table : ((List.range 256).all fun n => decide (hexv (UInt8.ofNat n) = if hexN (UInt8.ofNat n) = 16 then -1 else (hexN (UInt8.ofNat n) : Int))) = true := by kernel_rfl
theorem hexN_eq (c : UInt8) : hexv c = if hexN c = 16 then -1 else (hexN c : Int) := by
  have h := List.all_eq_true.1 hexN_table c.toNat (List.mem_range.2 c.toNat_lt)
  rw [decide_eq_true_eq, UInt8.ofNat_toNat] at h
  exact h
theorem hexN_le (c : UInt8) : hexN c ≤ 16 := by unfold hexN; split <;> (try split) <;> omega

end Go.Proofs.YtelcongbnmfegabGreatDoor

/-
  The contract of the reference's May.
-/
namespace Go.Proofs.YtelcongbnmfegabGreatDoor
open Go.RowKit

theorem step_of {fs : List Fld} {i : Nat} {f : Fld} (h : fs.getD i default = f) (h1 : fieldB f.1.data.toList = true) (h2 : 0 < f.2.length) (h3 : f.2.length ≤ 8) (h4 : ∀ t ∈ f.2, t.size ≤ 128) (h5 : i = 0 ∨ ltN (fs.getD (i - 1) default).1 f.1 = true) : stepOk fs i = true := by
  unfold stepOk fitsB
  rw [h, h1, decide_eq_true h3]
  have e1 : f.2.isEmpty = false := by
    cases hf : f.2 with
    | nil => rw [hf] at h2; simp at h2
    | cons _ _ => rfl
  have e2 : f.2.any longB = false := by
    rw [List.any_eq_false]
    intro t ht
    have := h4 t ht
    unfold longB
    simpa using this
  rw [e1, e2]
  rcases h5 with h5 | h5
  · rw [decide_eq_true h5]; rfl
  · rw [h5]; simp

theorem step_not {fs : List Fld} {i : Nat} {f : Fld} (h : fs.getD i default = f) (hn : fieldB f.1.data.toList = false ∨ f.2.length = 0 ∨ 8 < f.2.length ∨ (∃ t ∈ f.2, 128 < t.size) ∨ (i ≠ 0 ∧ ltN (fs.getD (i - 1) default).1 f.1 = false)) : stepOk fs i = false := by
  unfold stepOk fitsB
  rw [h]
  rcases hn with hn | hn | hn | ⟨t, ht, hn⟩ | ⟨hn, hm⟩
  · rw [hn]; rfl
  · rw [List.length_eq_zero_iff] at hn
    rw [hn]; simp
  · rw [decide_eq_false (by omega)]; simp
  · have : f.2.any longB = true := by
      rw [List.any_eq_true]
      exact ⟨t, ht, by unfold longB; simpa using hn⟩
    rw [this]; simp
  · rw [decide_eq_false hn, hm]; simp

set_option maxHeartbeats 1000000 in
set_option maxRecDepth 100000 in
theorem rmay_any (v : Value) (d : List Fx) (w : World) (hv : IsXs w v d) (hf : FitX d) : Calls Tryz.prog 6 #[v] w fun e w' => e = .returned (.bool (mayB (d.map Fx.fld))) ∧ Grown w w' := by
  obtain ⟨p, cap, rfl, hd, ht⟩ := hv
  have HT := hid ht
  have HF := hid hf.2
  have hl := hf.1
  unfold maxLen at hl
  have HD := hid hd
  clear ht hf hd
  obtain ⟨r, hr⟩ : ∃ r, mayB (d.map Fx.fld) = r := ⟨_, rfl⟩
  rw [hr]
  have HR := hid hr
  clear hr
  go_enter Tryz.func6, Tryz.ntmps6
  go_wp2_with fail
  go_loopg [3] d.length (fun g vi wr => ∃ i : Nat, vi = .int .i64 i ∧ i ≤ d.length ∧ i ≤ 16 ∧ d.length - i ≤ g ∧ Grown w wr ∧ Hid (∀ j, j < i → stepOk (d.map Fx.fld) j = true))
  case atStart => exact ⟨0, rfl, by omega, by omega, by omega, Grown.refl _, fun j h => by omega⟩
  case round =>
    obtain ⟨i, rfl, hi, hi16, hg, hb, HJ⟩ := hrel
    by_cases hlt : i < d.length
    · have hltz : (i : Int) < (d.length : Int) := by omega
      have hiz : (0 : Int) ≤ i := by omega
      obtain ⟨b, off, rfl, hxs⟩ : ∃ b off, p = some ⟨b, off, none⟩ ∧ XsAt w b off d := by
        rcases HD.out with h | h
        · subst h; simp at hlt
        · exact h
      have hxr := hxs.kept hb.below
      obtain ⟨c0, c1⟩ := hxr i hlt
      have hxi : (d[i]).at wr := (HT.out _ (List.getElem_mem hlt)).kept hb.below
      have hfi := HF.out _ (List.getElem_mem hlt)
      have hsx := flds_at hlt
      obtain ⟨x, hx⟩ : ∃ x, d[i] = x := ⟨_, rfl⟩
      rw [hx] at c0 c1 hxi hfi hsx
      have HXR := hid hxr
      have HXI := hid hxi
      have hns : x.name.size ≤ maxLen := hfi.1
      have htl : x.txt.length ≤ maxLen := hfi.2.1
      unfold maxLen at htl
      have HNS := hid hns
      have HFI := hid hfi
      have HSX := hid hsx
      clear hxr hxs hxi hfi hx hsx hns
      unfold Fx.sl at c1
      have mixed := Tryz.mixed
      have HFX : Hid (∀ W, Calls Tryz.prog 16 #[.string x.name] W fun e w' => e = .returned (.bool (fieldB x.name.data.toList)) ∧ w' = W) := fun W => rfield_any x.name W HNS.out
      by_cases h16 : i = 16
      · subst h16
        have H0 : Hid (r = false) := HR.out.symm.trans (may_long (by rw [List.length_map]; omega))
        go_wp2_with fail
        go_quiet (fail)
        go_wp2_with fail
        go_ret
        exact ⟨ret_bool H0.out.symm, (hb.alloc _).drewN _⟩
      have h16z : decide ((16 : Int) ≤ (i : Int)) = false := decide_eq_false (by omega)
      cases hfx : fieldB x.name.data.toList with
      | false =>
        rw [hfx] at HFX
        have H0 : Hid (r = false) := HR.out.symm.trans (may_no (i := i) (by rw [List.length_map]; exact hlt) (step_not HSX.out (Or.inl hfx)))
        go_wp2_with fail
        refine wp_region_quiet_lit mixed (by kernel_rfl) ?_
        repeat (go_big_quiet_step (first | (go_at_call 16; refine Calls.quiet_of_same (HFX.out _))))
        refine wpQuiet_nil ?_
        intro _ hw'
        obtain ⟨nq, hw''⟩ := hw'
        subst hw''
        go_wp2_with fail
        go_ret
        exact ⟨ret_bool H0.out.symm, (hb.alloc _).drewN _⟩
      | true =>
        rw [hfx] at HFX
        by_cases h0 : i = 0
        · have h0z : decide ((0 : Int) < (i : Int)) = false := decide_eq_false (by omega)
          have h0y : decide (0 < i) = false := decide_eq_false (by omega)
          have H00 := hid h0
          clear h0
          by_cases ht0 : x.txt.length = 0
          · have ht0z : (x.txt.length : Int) = 0 := by omega
            have H0 : Hid (r = false) := HR.out.symm.trans (may_no (i := i) (by rw [List.length_map]; exact hlt) (step_not HSX.out (Or.inr (Or.inl ht0))))
            go_wp2_with fail
            refine wp_region_quiet_lit mixed (by kernel_rfl) ?_
            repeat (go_big_quiet_step (first | (go_at_call 16; refine Calls.quiet_of_same (HFX.out _))))
            refine wpQuiet_nil ?_
            intro _ hw'
            obtain ⟨nq, hw''⟩ := hw'
            subst hw''
            go_wp2_with fail
            go_ret
            exact ⟨ret_bool H0.out.symm, (hb.alloc _).drewN _⟩
          have ht0z : ¬ (x.txt.length : Int) = 0 := by omega
          have ht0d : ((x.txt.length : Int) == 0) = false := beq_eq_false_iff_ne.2 ht0z
          by_cases ht8 : 8 < x.txt.length
          · have ht8z : (8 : Int) < (x.txt.length : Int) := by omega
            have H0 : Hid (r = false) := HR.out.symm.trans (may_no (i := i) (by rw [List.length_map]; exact hlt) (step_not HSX.out (Or.inr (Or.inr (Or.inl ht8)))))
            go_wp2_with fail
            refine wp_region_quiet_lit mixed (by kernel_rfl) ?_
            repeat (go_big_quiet_step (first | (go_at_call 16; refine Calls.quiet_of_same (HFX.out _))))
            refine wpQuiet_nil ?_
            intro _ hw'
            obtain ⟨nq, hw''⟩ := hw'
            subst hw''
            go_wp2_with fail
            go_ret
            exact ⟨ret_bool H0.out.symm, (hb.alloc _).drewN _⟩
          have ht8z : decide ((8 : Int) < (x.txt.length : Int)) = false := decide_eq_false (by omega)
          have HST : Hid ((∀ t ∈ x.txt, t.size ≤ 128) → stepOk (d.map Fx.fld) (i) = true) := fun h => step_of HSX.out hfx (by show 0 < x.txt.length; omega) (by show x.txt.length ≤ 8; omega) h (Or.inl H00.out)
          obtain ⟨bt, ot, hpt, hct0⟩ : ∃ bt ot, x.p = some ⟨bt, ot, none⟩ ∧ ∀ l, (h : l < x.txt.length) → wr.cell? ⟨bt, ot + l, none⟩ = some (.string x.txt[l]) := by
            rcases HXI.out with h | h
            · exact absurd (by rw [h]; rfl) ht0
            · exact h
          have HCT0 := hid hct0
          rw [hpt] at c1
          clear hpt hct0
          go_wp2_with fail
          refine wp_region_quiet_lit mixed (by kernel_rfl) ?_
          repeat (go_big_quiet_step (first | (go_at_call 16; refine Calls.quiet_of_same (HFX.out _))))
          refine wpQuiet_nil ?_
          intro _ hw'
          obtain ⟨nq, hw''⟩ := hw'
          subst hw''
          go_wp2_with fail
          obtain ⟨W2, hW2⟩ : ∃ W2, (wr.alloc (.cells #[.string x.name, .slice (some ⟨bt, ot, none⟩) x.txt.length x.cap] 35)).drewN nq = W2 := ⟨_, rfl⟩
          have hgW : Grown wr W2 := by rw [← hW2]; exact ((Grown.refl wr).alloc _).drewN _
          have q1 : W2.cell? ⟨wr.heap.size, 1, none⟩ = some (.slice (some ⟨bt, ot, none⟩) x.txt.length x.cap) := by rw [← hW2]; exact (x_new wr ⟨x.name, some ⟨bt, ot, none⟩, x.cap, x.txt⟩ (wr.alloc _) (Below.refl _ _)).2
          have hat : ∀ l, (h : l < x.txt.length) → W2.cell? ⟨bt, ot + l, none⟩ = some (.string x.txt[l]) := fun l h => (hgW.below.cell (p := ⟨bt, ot + l, none⟩) (cell_block (HCT0.out l h))).trans (HCT0.out l h)
          have HGW := hid hgW
          have HAT := hid hat
          rw [hW2]
          clear hgW hat hW2
          go_loopg [5] x.txt.length (fun g vj W => ∃ j : Nat, vj = .int .i64 j ∧ j ≤ x.txt.length ∧ x.txt.length - j ≤ g ∧ W = W2 ∧ Hid (∀ l (h : l < x.txt.length), l < j → (x.txt[l]).size ≤ 128))
          case atStart => exact ⟨0, rfl, by omega, by omega, rfl, fun l _ h => by omega⟩
          case round =>
            obtain ⟨j, rfl, hj, hgj, rfl, HL⟩ := hrel
            by_cases hjl : j < x.txt.length
            · have hjz : (j : Int) < (x.txt.length : Int) := by omega
              have hj0 : (0 : Int) ≤ (j : Int) := by omega
              have ctj := HAT.out j hjl
              obtain ⟨t, htt⟩ : ∃ t, x.txt[j] = t := ⟨_, rfl⟩
              have HTT := hid htt
              rw [htt] at ctj
              clear htt
              by_cases hts : 128 < t.size
              · have htsz : (128 : Int) < (t.size : Int) := by omega
                have H0 : Hid (r = false) := HR.out.symm.trans (may_no (i := i) (by rw [List.length_map]; exact hlt) (step_not HSX.out (Or.inr (Or.inr (Or.inr (Or.inl ⟨t, by rw [← HTT.out]; exact List.getElem_mem hjl, hts⟩))))))
                go_wp2_with fail
                go_ret
                exact ⟨ret_bool H0.out.symm, hb.trans HGW.out⟩
              · have htsz : ¬ (128 : Int) < (t.size : Int) := by omega
                go_wp2_with fail
                go_roundg (x.txt.length - (j + 1))
                case measure => omega
                refine ⟨j + 1, by go_num, by omega, by omega, rfl, fun l hl hlj => ?_⟩
                by_cases e : l = j
                · subst e; rw [HTT.out]; omega
                · exact HL.out l hl (by omega)
            · have hjz : ¬ (j : Int) < (x.txt.length : Int) := by omega
              have H1 := hid (HST.out fun t ht => by
                obtain ⟨l, hl, rfl⟩ := List.mem_iff_getElem.1 ht
                exact HL.out l hl (by omega))
              go_wp2_with fail
              go_roundg (d.length - (i + 1))
              case measure => omega
              refine ⟨i + 1, by go_num, by omega, by omega, by omega, hb.trans HGW.out, fun l hl => ?_⟩
              by_cases e : l = i
              · subst e; exact H1.out
              · exact HJ.out l (by omega)
        · obtain ⟨k, rfl⟩ : ∃ k, i = k + 1 := ⟨i - 1, by omega⟩
          obtain ⟨e0, _⟩ := HXR.out k (by omega)
          have hsy := flds_at (d := d) (i := k) (by omega)
          obtain ⟨y, hy⟩ : ∃ y, d[k] = y := ⟨_, rfl⟩
          rw [hy] at e0 hsy
          have HSY := hid hsy
          clear hy hsy
          have k1 : (0 : Int) < (k : Int) + 1 := by omega
          have hltk : (k : Int) + 1 < (d.length : Int) := by omega
          have h16y : decide ((16 : Int) ≤ (k : Int) + 1) = false := decide_eq_false (by omega)
          have k2 : (0 : Int) ≤ (k : Int) := by omega
          have k3 : (k : Int) < (d.length : Int) := by omega
          have e1 : ∀ o, (wr.alloc o).cell? ⟨b, off + k * 2, none⟩ = some (.string y.name) := fun o => by
            rw [← e0]; exact ((Below.refl wr.heap.size wr).alloc (Nat.le_refl _) _).cell (p := ⟨b, off + k * 2, none⟩) (cell_block e0)
          cases hlt2 : Op.bytesLess y.name.toList x.name.toList with
          | false =>
            have H0 : Hid (r = false) := HR.out.symm.trans (may_no (i := k + 1) (by rw [List.length_map]; exact hlt) (step_not HSX.out (Or.inr (Or.inr (Or.inr (Or.inr ⟨by omega, by rw [Nat.add_sub_cancel, HSY.out]; exact hlt2⟩))))))
            go_wp2_with fail
            refine wp_region_quiet_lit mixed (by kernel_rfl) ?_
            repeat (go_big_quiet_step (first | (go_at_call 16; refine Calls.quiet_of_same (HFX.out _))))
            refine wpQuiet_nil ?_
            intro _ hw'
            obtain ⟨nq, hw''⟩ := hw'
            subst hw''
            go_wp2_with fail
            go_ret
            exact ⟨ret_bool H0.out.symm, (hb.alloc _).drewN _⟩
          | true =>
            by_cases ht0 : x.txt.length = 0
            · have ht0z : (x.txt.length : Int) = 0 := by omega
              have H0 : Hid (r = false) := HR.out.symm.trans (may_no (i := k + 1) (by rw [List.length_map]; exact hlt) (step_not HSX.out (Or.inr (Or.inl ht0))))
              go_wp2_with fail
              refine wp_region_quiet_lit mixed (by kernel_rfl) ?_
              repeat (go_big_quiet_step (first | (go_at_call 16; refine Calls.quiet_of_same (HFX.out _))))
              refine wpQuiet_nil ?_
              intro _ hw'
              obtain ⟨nq, hw''⟩ := hw'
              subst hw''
              go_wp2_with fail
              go_ret
              exact ⟨ret_bool H0.out.symm, (hb.alloc _).drewN _⟩
            have ht0z : ¬ (x.txt.length : Int) = 0 := by omega
            have ht0d : ((x.txt.length : Int) == 0) = false := beq_eq_false_iff_ne.2 ht0z
            by_cases ht8 : 8 < x.txt.length
            · have ht8z : (8 : Int) < (x.txt.length : Int) := by omega
              have H0 : Hid (r = false) := HR.out.symm.trans (may_no (i := k + 1) (by rw [List.length_map]; exact hlt) (step_not HSX.out (Or.inr (Or.inr (Or.inl ht8)))))
              go_wp2_with fail
              refine wp_region_quiet_lit mixed (by kernel_rfl) ?_
              repeat (go_big_quiet_step (first | (go_at_call 16; refine Calls.quiet_of_same (HFX.out _))))
              refine wpQuiet_nil ?_
              intro _ hw'
              obtain ⟨nq, hw''⟩ := hw'
              subst hw''
              go_wp2_with fail
              go_ret
              exact ⟨ret_bool H0.out.symm, (hb.alloc _).drewN _⟩
            have ht8z : decide ((8 : Int) < (x.txt.length : Int)) = false := decide_eq_false (by omega)
            have HST : Hid ((∀ t ∈ x.txt, t.size ≤ 128) → stepOk (d.map Fx.fld) (k + 1) = true) := fun h => step_of HSX.out hfx (by show 0 < x.txt.length; omega) (by show x.txt.length ≤ 8; omega) h (Or.inr (by rw [Nat.add_sub_cancel, HSY.out]; exact hlt2))
            obtain ⟨bt, ot, hpt, hct0⟩ : ∃ bt ot, x.p = some ⟨bt, ot, none⟩ ∧ ∀ l, (h : l < x.txt.length) → wr.cell? ⟨bt, ot + l, none⟩ = some (.string x.txt[l]) := by
              rcases HXI.out with h | h
              · exact absurd (by rw [h]; rfl) ht0
              · exact h
            have HCT0 := hid hct0
            rw [hpt] at c1
            clear hpt hct0
            go_wp2_with fail
            refine wp_region_quiet_lit mixed (by kernel_rfl) ?_
            repeat (go_big_quiet_step (first | (go_at_call 16; refine Calls.quiet_of_same (HFX.out _))))
            refine wpQuiet_nil ?_
            intro _ hw'
            obtain ⟨nq, hw''⟩ := hw'
            subst hw''
            go_wp2_with fail
            obtain ⟨W2, hW2⟩ : ∃ W2, (wr.alloc (.cells #[.string x.name, .slice (some ⟨bt, ot, none⟩) x.txt.length x.cap] 35)).drewN nq = W2 := ⟨_, rfl⟩
            have hgW : Grown wr W2 := by rw [← hW2]; exact ((Grown.refl wr).alloc _).drewN _
            have q1 : W2.cell? ⟨wr.heap.size, 1, none⟩ = some (.slice (some ⟨bt, ot, none⟩) x.txt.length x.cap) := by rw [← hW2]; exact (x_new wr ⟨x.name, some ⟨bt, ot, none⟩, x.cap, x.txt⟩ (wr.alloc _) (Below.refl _ _)).2
            have hat : ∀ l, (h : l < x.txt.length) → W2.cell? ⟨bt, ot + l, none⟩ = some (.string x.txt[l]) := fun l h => (hgW.below.cell (p := ⟨bt, ot + l, none⟩) (cell_block (HCT0.out l h))).trans (HCT0.out l h)
            have HGW := hid hgW
            have HAT := hid hat
            rw [hW2]
            clear hgW hat hW2
            go_loopg [5] x.txt.length (fun g vj W => ∃ j : Nat, vj = .int .i64 j ∧ j ≤ x.txt.length ∧ x.txt.length - j ≤ g ∧ W = W2 ∧ Hid (∀ l (h : l < x.txt.length), l < j → (x.txt[l]).size ≤ 128))
            case atStart => exact ⟨0, rfl, by omega, by omega, rfl, fun l _ h => by omega⟩
            case round =>
              obtain ⟨j, rfl, hj, hgj, rfl, HL⟩ := hrel
              by_cases hjl : j < x.txt.length
              · have hjz : (j : Int) < (x.txt.length : Int) := by omega
                have hj0 : (0 : Int) ≤ (j : Int) := by omega
                have ctj := HAT.out j hjl
                obtain ⟨t, htt⟩ : ∃ t, x.txt[j] = t := ⟨_, rfl⟩
                have HTT := hid htt
                rw [htt] at ctj
                clear htt
                by_cases hts : 128 < t.size
                · have htsz : (128 : Int) < (t.size : Int) := by omega
                  have H0 : Hid (r = false) := HR.out.symm.trans (may_no (i := k + 1) (by rw [List.length_map]; exact hlt) (step_not HSX.out (Or.inr (Or.inr (Or.inr (Or.inl ⟨t, by rw [← HTT.out]; exact List.getElem_mem hjl, hts⟩))))))
                  go_wp2_with fail
                  go_ret
                  exact ⟨ret_bool H0.out.symm, hb.trans HGW.out⟩
                · have htsz : ¬ (128 : Int) < (t.size : Int) := by omega
                  go_wp2_with fail
                  go_roundg (x.txt.length - (j + 1))
                  case measure => omega
                  refine ⟨j + 1, by go_num, by omega, by omega, rfl, fun l hl hlj => ?_⟩
                  by_cases e : l = j
                  · subst e; rw [HTT.out]; omega
                  · exact HL.out l hl (by omega)
              · have hjz : ¬ (j : Int) < (x.txt.length : Int) := by omega
                have H1 := hid (HST.out fun t ht => by
                  obtain ⟨l, hl, rfl⟩ := List.mem_iff_getElem.1 ht
                  exact HL.out l hl (by omega))
                go_wp2_with fail
                go_roundg (d.length - (k + 1 + 1))
                case measure => omega
                refine ⟨k + 1 + 1, by go_num, by omega, by omega, by omega, hb.trans HGW.out, fun l hl => ?_⟩
                by_cases e : l = k + 1
                · subst e; exact H1.out
                · exact HJ.out l (by omega)
    · have hltz : ¬ (i : Int) < (d.length : Int) := by omega
      have H0 : Hid (r = true) := HR.out.symm.trans (may_yes (by rw [List.length_map]; omega) (fun j hj => HJ.out j (by rw [List.length_map] at hj; omega)))
      go_wp2_with fail
      go_ret
      exact ⟨ret_bool H0.out.symm, hb⟩

end Go.Proofs.YtelcongbnmfegabGreatDoor

/-
  The contract of Size.
-/
namespace Go.Proofs.YtelcongbnmfegabGreatDoor
open Go.RowKit

def sizeN (fs : List Fld) : Nat := if mayB fs = true then (encL fs).length else 0

end Go.Proofs.YtelcongbnmfegabGreatDoor

/-
  The contracts of the reference's put and Encode.
-/
namespace Go.Proofs.YtelcongbnmfegabGreatDoor
open Go.RowKit

theorem new_byte (w : World) (c : Int) : ∀ j u, ([.int .u8 c] : List Value)[j]? = some u → (w.alloc (.cells #[.int .u8 c] 5)).cell? ((⟨w.heap.size, 0, none⟩ : Addr).add j) = some u := by
  intro j u hj
  match j, hj with
  | 0, hj => simp at hj; subst hj; simp [Addr.add]

theorem one_byte (c : Int) : ∀ u ∈ ([.int .u8 c] : List Value), u.oneCell' = true := by intro u hu; simp at hu; subst hu; rfl

theorem ownB_put {n0 : Nat} {w : World} {v : Value} {bs : List UInt8} {c : UInt8} {k : Int} {n : Nat} (h : w.ownsRow n0 5 1 v n (Lib.byteCells bs ++ [.int .u8 k])) (hn : n = bs.length + 1) (hk : (c.toNat : Int) = k) : OwnB n0 w v (bs ++ [c]) := by
  subst hn
  unfold OwnB
  have e2 : Lib.byteCells (bs ++ [c]) = Lib.byteCells bs ++ [.int .u8 k] := by simp [Lib.byteCells, hk]
  rw [e2, List.length_append]
  exact h

end Go.Proofs.YtelcongbnmfegabGreatDoor

/-
  The contract of Write.
-/
namespace Go.Proofs.YtelcongbnmfegabGreatDoor
open Go.RowKit

theorem room1 {l : List Value} {a : Value} {n : Nat} (h : l.length + 3 ≤ n) : (l ++ [a]).length + 1 ≤ n := by rw [List.length_append]; simp; omega
theorem room2 {l : List Value} {a b : Value} {n : Nat} (h : l.length + 3 ≤ n) : (l ++ [a] ++ [b]).length + 1 ≤ n := by rw [List.length_append, List.length_append]; simp; omega

set_option maxHeartbeats 4000000 in
set_option maxRecDepth 100000 in
theorem write_any (s : ByteArray) (w : World) (hp : PlainAt w) (hs : s.size ≤ 46912496118442) :
    Calls Tryz.prog 50 #[.string s] w fun e w' => e = .returned (.string ⟨(writeL s.data.toList).toArray⟩) ∧ Below w.heap.size w w' := by
  have HP := hid hp
  clear hp
  go_enter Tryz.func50, Tryz.ntmps50
  go_wp2_with fail
  go_loopg [4] s.size (fun g vi wr => ∃ i : Nat, vi = .int .i64 i ∧ i ≤ s.size ∧ s.size - i ≤ g ∧ Below w.heap.size w wr ∧ Lib.IsBuilder 73 5 w.heap.size w.heap.size (Lib.byteCells (writeL (s.data.toList.take i))) wr)
  case atStart => exact ⟨0, rfl, by omega, by omega, (Below.refl _ _).alloc (Nat.le_refl _) _, Lib.fresh_isBuilder _ _ _⟩
  case round =>
    obtain ⟨i, rfl, hi, hg, hb, hbu⟩ := hrel
    have HB := hid hbu
    clear hbu
    by_cases hlt : i < s.size
    · have hltz : (i : Int) < (s.size : Int) := by omega
      obtain ⟨c, hc⟩ : ∃ c, s[i] = c := ⟨_, rfl⟩
      have HPr : PlainAt wr := HP.out.on hb
      have hsz : (Lib.byteCells (writeL (s.data.toList.take i))).length + 3 ≤ 140737488355328 := by
        rw [Lib.byteCells_length]
        have := writeL_len (s.data.toList.take i)
        rw [List.length_take] at this
        omega
      have HS := hid hsz
      clear hsz
      have HW := hid (write_step s i hlt)
      rw [hc] at HW
      have HC := hid hc
      clear hc
      cases hpl : plainB (c.toNat : Int) with
      | true =>
        have HE : Hid (writeC c = [c]) := by show writeC c = [c]; unfold writeC; rw [if_pos hpl]
        go_wp2_with (first | (go_at_call 77; rw [HC.out]; refine (isPlain_any _ _ HPr).mono ?_; rintro e w1 ⟨rfl, hb1⟩) | (go_at_call 78; refine (wbyte_any w.heap.size w.heap.size _ _ _ (bld_on HB.out hb1) (Nat.le_trans (Nat.add_le_add_left (by decide) _) HS.out) (Nat.le_trans hb.size hb1.size)).mono ?_; rintro e w2 ⟨rfl, hbu2, hb2⟩))
        go_roundg (s.size - (i + 1))
        case measure => omega
        refine ⟨i + 1, by go_num, by omega, by omega, (hb.trans (hb1.mono hb.size)).trans hb2, ?_⟩
        rw [HW.out, HE.out]
        simpa [Lib.byteCells, HC.out] using hbu2
      | false =>
        have HE : Hid (writeC c = [37, hexd (c.toNat / 16), hexd (c.toNat % 16)]) := by show writeC c = _; unfold writeC; rw [if_neg (by rw [hpl]; simp)]
        have hc1 : (0 : Int) ≤ ↑c.toNat / 16 ∧ (↑c.toNat : Int) / 16 < 16 := by have := c.toNat_lt; omega
        have hc2 : (0 : Int) ≤ ↑c.toNat % 16 ∧ (↑c.toNat : Int) % 16 < 16 := by omega
        go_wp2_with (first | (go_at_call 77; rw [HC.out]; refine (isPlain_any _ _ HPr).mono ?_; rintro e w1 ⟨rfl, hb1⟩) | (go_at_call 78; refine (wbyte_any w.heap.size w.heap.size _ _ _ (bld_on HB.out hb1) (Nat.le_trans (Nat.add_le_add_left (by decide) _) HS.out) (Nat.le_trans hb.size hb1.size)).mono ?_; rintro e w2 ⟨rfl, hbu2, hb2⟩))
        go_wp2_with (go_at_call 78; refine (wbyte_any w.heap.size w.heap.size _ _ _ hbu2 (room1 HS.out) (Nat.le_trans hb.size (Nat.le_trans hb1.size hb2.size))).mono ?_; rintro e w3 ⟨rfl, hbu3, hb3⟩)
        go_wp2_with (go_at_call 78; refine (wbyte_any w.heap.size w.heap.size _ _ _ hbu3 (room2 HS.out) (Nat.le_trans hb.size (Nat.le_trans hb1.size (Nat.le_trans hb2.size hb3.size)))).mono ?_; rintro e w4 ⟨rfl, hbu4, hb4⟩)
        go_roundg (s.size - (i + 1))
        case measure => omega
        refine ⟨i + 1, by go_num, by omega, by omega, (((hb.trans (hb1.mono hb.size)).trans hb2).trans hb3).trans hb4, ?_⟩
        rw [HW.out, HE.out]
        rw [digit_at, digit_at] at hbu4
        simpa [Lib.byteCells] using hbu4
    · have hltz : ¬ (i : Int) < (s.size : Int) := by omega
      have he : s.data.toList.take i = s.data.toList := List.take_of_length_le (by simp; omega)
      have HB2 := HB.out
      rw [he] at HB2
      have HB3 := hid HB2
      clear HB2 he
      go_wp2_with (go_at_call 53; refine (Tryz.Builder_String_any _ _ _ _ HB3.out hb.size).mono ?_; rintro e w1 ⟨rfl, hb1⟩)
      go_ret
      exact ⟨rfl, hb.trans hb1⟩

end Go.Proofs.YtelcongbnmfegabGreatDoor

/-
  The contract of Print.
-/
namespace Go.Proofs.YtelcongbnmfegabGreatDoor
open Go.RowKit

def wordOf (n t : ByteArray) : ByteArray := n ++ ⟨#[61]⟩ ++ ⟨(writeL t.data.toList).toArray⟩
def wordsF (f : Fld) : List ByteArray := f.2.map (wordOf f.1)
def wordsL (fs : List Fld) : List ByteArray := fs.flatMap wordsF
def lineOf (fs : List Fld) : ByteArray := ⟨(Lib.join ((wordsL fs).map (·.data.toList)) [32]).toArray⟩

theorem wordsL_len {fs : List Fld} (h : ∀ f ∈ fs, fitsB f = true) (hl : fs.length ≤ 16) : (wordsL fs).length ≤ 128 := by
  have : ∀ l : List Fld, (∀ f ∈ l, fitsB f = true) → (wordsL l).length ≤ l.length * 8 := by
    intro l
    induction l with
    | nil => intro _; simp [wordsL]
    | cons f l ih =>
      intro hf
      have h1 := ih fun g hg => hf g (by simp [hg])
      have h2 := (fits_parts (hf f (by simp))).2.2.1
      have e : wordsL (f :: l) = wordsF f ++ wordsL l := rfl
      rw [e, List.length_append, List.length_cons, Nat.add_mul]
      have e2 : (wordsF f).length = f.2.length := by simp [wordsF]
      omega
  have := this fs h
  omega

theorem word_len {f : Fld} {t : ByteArray} (h : fitsB f = true) (ht : t ∈ f.2) : (wordOf f.1 t).size ≤ 417 := by
  obtain ⟨h1, _, _, h4, _⟩ := fits_parts h
  have h5 := h4 t ht
  have h6 := writeL_len t.data.toList
  have e : t.data.toList.length = t.size := by simp
  have e2 : (wordOf f.1 t).size = f.1.size + 1 + (writeL t.data.toList).length := by
    unfold wordOf
    rw [ByteArray.size_append, ByteArray.size_append]
    rfl
  omega

theorem words_len {fs : List Fld} (h : ∀ f ∈ fs, fitsB f = true) : ∀ x ∈ wordsL fs, x.size ≤ 417 := by
  intro x hx
  obtain ⟨f, hf, hx⟩ := List.mem_flatMap.1 hx
  obtain ⟨t, ht, rfl⟩ := List.mem_map.1 hx
  exact word_len (h f hf) ht

theorem join_two (l m : List UInt8) (ls : List (List UInt8)) : Lib.join (l :: m :: ls) [32] = l ++ 32 :: Lib.join (m :: ls) [32] := by simp [Lib.join, List.intercalate]

theorem join_len (ls : List (List UInt8)) (c : Nat) (h : ∀ l ∈ ls, l.length ≤ c) : (Lib.join ls [32]).length ≤ ls.length * (c + 1) := by
  induction ls with
  | nil => simp [Lib.join]
  | cons l ls ih =>
    have h1 := h l (by simp)
    have h2 := ih fun m hm => h m (by simp [hm])
    cases ls with
    | nil => simp [Lib.join]; omega
    | cons m ls =>
      rw [join_two, List.length_append, List.length_cons, List.length_cons, Nat.add_mul]
      omega

theorem join_any (ws : List ByteArray) (p : Option Addr) (cap : Nat) (w : World) {n0 : Nat} (h : OwnT n0 w (.slice p ws.length cap) ws) (hn : ws.length ≤ 128) (hs : ∀ x ∈ ws, x.size ≤ 417) :
    Calls Tryz.prog 25 #[.slice p ws.length cap, .string ⟨#[32]⟩] w fun e w' => e = .returned (.string ⟨(Lib.join (ws.map (·.data.toList)) [32]).toArray⟩) ∧ Below w.heap.size w w' := by
  rcases h.2 with ⟨_, h0⟩ | ⟨g, c, cur, hv, _, hg, hcap, _, hsz, htk⟩
  · obtain rfl := List.length_eq_zero_iff.1 h0
    refine (Tryz.strings_Join_none p cap _ w).mono ?_
    rintro e w' ⟨rfl, rfl⟩
    exact ⟨rfl, Below.refl _ _⟩
  · injection hv with hp hl hc
    subst hp
    subst hc
    refine (Tryz.strings_Join g 0 cap ws ⟨#[32]⟩ w (fun j x hj => ?_) (Array.getElem?_eq_some_iff.1 hg).1 (by omega) (by omega) ?_).mono ?_
    · have hjl := (List.getElem?_eq_some_iff.1 hj).1
      rw [Nat.zero_add, cell_of_row w g j cur _ _ hg, ← Array.getElem?_toList]
      have : (ws.map Value.string)[j]? = cur.toList[j]? := by rw [← htk, List.getElem?_take, if_pos (by omega)]
      rw [← this, List.getElem?_map, hj]; rfl
    · have h1 := join_len (ws.map (·.data.toList)) 417 (fun l hl => by
        obtain ⟨x, hx, rfl⟩ := List.mem_map.1 hl
        have := hs x hx
        simpa using this)
      rw [List.length_map] at h1
      have h2 : ws.length * 418 ≤ 128 * 418 := Nat.mul_le_mul_right _ hn
      show (Lib.join (ws.map (·.data.toList)) [32]).length ≤ _
      omega
    · rintro e w' ⟨rfl, hb⟩
      exact ⟨rfl, hb⟩

end Go.Proofs.YtelcongbnmfegabGreatDoor

/-
  The chapter's examples: the plain answers.
-/
namespace Go.Proofs.YtelcongbnmfegabGreatDoor
open Go.RowKit Go.Sort Go.Lib

def fixA : List Fld := [(⟨#[98]⟩, [⟨#[120]⟩]), (⟨#[97]⟩, [⟨#[121]⟩]), (⟨#[98]⟩, [⟨#[122]⟩])]
def fixN : List Fld := [(⟨#[97]⟩, [⟨#[121]⟩]), (⟨#[98]⟩, [⟨#[120]⟩, ⟨#[122]⟩])]
def fixE : List Fld := [(⟨#[97]⟩, [⟨#[120]⟩, ⟨#[]⟩])]
def fixP : List Fld := [(⟨#[98]⟩, [⟨#[49]⟩]), (⟨#[97]⟩, [⟨#[50]⟩])]
def fixQ : List Fld := [(⟨#[97]⟩, [⟨#[50]⟩]), (⟨#[98]⟩, [⟨#[49]⟩])]

theorem ltN_eq (a b : ByteArray) : ltN a b = ltB a b := by
  unfold ltN ltB
  rw [Lib.toList_data, Lib.toList_data, cb_less]

theorem mayB_eq (fs : List Fld) : mayB fs = (decide (fs.length ≤ 16) && (List.range fs.length).all fun i => fitsB (fs.getD i default) && (decide (i = 0) || ltB (fs.getD (i - 1) default).1 (fs.getD i default).1)) := by
  unfold mayB stepOk
  simp only [ltN_eq]

theorem fixA_mis : fixA.any misB = false := by decide
theorem fixA_norm : normF fixA = fixN := by decide
theorem fixN_bare : fixN.any bareB = false := by decide
theorem fixN_may : mayB fixN = true := by rw [mayB_eq]; decide
theorem fixN_line : lineOf fixN = ⟨#[97, 61, 121, 32, 98, 61, 120, 32, 98, 61, 122]⟩ := by decide
theorem fixE_may : mayB fixE = true := by decide
theorem fixE_enc : encL fixE = [1, 1, 97, 2, 1, 120, 0] := by decide
theorem fixE_dec : decodeO [1, 1, 97, 2, 1, 120, 0] = some fixE := by decide
theorem fixE_size : sizeN fixE = 7 := by decide
theorem fixP_mis : fixP.any misB = false := by decide
theorem fixP_norm : normF fixP = fixQ := by decide
theorem fixQ_bare : fixQ.any bareB = false := by decide
theorem fixQ_may : mayB fixQ = true := by rw [mayB_eq]; decide
theorem fix_write : writeL [97, 32, 98] = [97, 37, 50, 48, 98] := by decide
theorem fix_texts : textsOf fixN ⟨#[98]⟩ = [⟨#[120]⟩, ⟨#[122]⟩] := by decide
theorem fix_read : readL [97, 37, 50, 48, 98] = some [97, 32, 98] := by
  rw [readL_some (c := 97) (n := 1) (by decide)]
  show (readL [37, 50, 48, 98]).map _ = _
  rw [readL_some (c := 32) (n := 3) (by decide)]
  show ((readL [98]).map _).map _ = _
  rw [readL_some (c := 98) (n := 1) (by decide)]
  show (((readL []).map _).map _).map _ = _
  rw [readL_nil]
  rfl
theorem fix_split : splitL [98, 61, 49, 32, 97, 61, 50] = [[98, 61, 49], [97, 61, 50]] := by
  rw [splitL_yes (i := 3) (by decide)]
  show [98, 61, 49] :: splitL [97, 61, 50] = _
  rw [splitL_no (by decide)]
theorem fix_one (c : UInt8) (h : firstP [c] = some (c, 1)) : readL [c] = some [c] := by
  rw [readL_some h]
  show (readL []).map _ = _
  rw [readL_nil]
  rfl
theorem fix_words : fieldsW (splitL [98, 61, 49, 32, 97, 61, 50]) = some fixP := by
  rw [fix_split]
  have h1 : wordO [98, 61, 49] = some ([98], [49]) := by
    unfold wordO
    rw [if_neg (by decide), show (Lib.indexByte [98, 61, 49] 61).toNat = 1 by decide]
    show (readL [49]).map _ = _
    rw [fix_one 49 (by decide)]; rfl
  have h2 : wordO [97, 61, 50] = some ([97], [50]) := by
    unfold wordO
    rw [if_neg (by decide), show (Lib.indexByte [97, 61, 50] 61).toNat = 1 by decide]
    show (readL [50]).map _ = _
    rw [fix_one 50 (by decide)]; rfl
  simp only [fieldsW, h1, h2]
  rfl

end Go.Proofs.YtelcongbnmfegabGreatDoor

/-
  fixed answers true.
-/
namespace Go.Proofs.YtelcongbnmfegabGreatDoor
open Go.RowKit Go.Sort Go.Lib

theorem fitF_small (fs : List Fld) (h : fs.all (fun f => decide (f.1.size ≤ 100) && decide (f.2.length ≤ 100) && f.2.all fun t => decide (t.size ≤ 100)) = true) : ∀ f ∈ fs, FitF f := by
  intro f hf
  rw [List.all_eq_true] at h
  have := h f hf
  simp only [Bool.and_eq_true, decide_eq_true_eq, List.all_eq_true] at this
  exact ⟨Nat.le_trans this.1.1 (by decide), Nat.le_trans this.1.2 (by decide), fun t ht => Nat.le_trans (this.2 t ht) (by decide)⟩

theorem fitFx {d : List Fx} {fs : List Fld} (h : d.map Fx.fld = fs) (hl : fs.length ≤ 100) (hf : ∀ f ∈ fs, FitF f) : FitX d := by
  subst h
  rw [List.length_map] at hl
  exact ⟨Nat.le_trans hl (by decide), fun x hx => hf _ (List.mem_map.2 ⟨x, hx, rfl⟩)⟩

theorem fixA_fit : ∀ f ∈ fixA, FitF f := fitF_small _ (by decide)
theorem fixN_fit : ∀ f ∈ fixN, FitF f := fitF_small _ (by decide)
theorem fixE_fit : ∀ f ∈ fixE, FitF f := fitF_small _ (by decide)
theorem fixQ_fit : ∀ f ∈ fixQ, FitF f := fitF_small _ (by decide)

/-- What an answer of Norm or Parse is known by. -/
def OwnAns (w : World) (fs : List Fld) (n : Nat) (e : Ending) (w' : World) : Prop :=
  ∃ p c d, e = .returned (.tuple #[.slice p n c, .int .i64 0]) ∧ OwnXs w.heap.size w' (.slice p n c) d ∧ d.map Fx.fld = fs ∧ Below w.heap.size w w'

theorem own_len {n0 : Nat} {w : World} {u : Value} {d : List Fx} (h : OwnXs n0 w u d) : ∃ p c, u = .slice p d.length c := by
  rcases h.1.2 with ⟨rfl, h0⟩ | ⟨g, cap, cur, rfl, _⟩
  · exact ⟨none, 0, by rw [h0]⟩
  · exact ⟨_, _, rfl⟩

theorem ownAns_of {w w' : World} {u : Value} {d : List Fx} {fs : List Fld} {n : Nat} (hn : fs.length = n) (ho : OwnXs w.heap.size w' u d) (hm : d.map Fx.fld = fs) (hb : Below w.heap.size w w') : OwnAns w fs n (.returned (.tuple #[u, .int .i64 0])) w' := by
  obtain ⟨p, c, rfl⟩ := own_len ho
  have e : d.length = n := by rw [← hn, ← hm, List.length_map]
  rw [e] at ho ⊢
  exact ⟨p, c, d, rfl, ho, hm, hb⟩

theorem fix_norm (v : Value) (d : List Fx) (w : World) (hv : IsXs w v d) (hm : d.map Fx.fld = fixA) : Calls Tryz.prog 14 #[v] w fun e w' => OwnAns w fixN 2 e w' := by
  have hl : d.length = 3 := by have := congrArg List.length hm; simpa [fixA] using this
  refine (norm_any v d w hv (fitFx hm (by decide) fixA_fit) (by omega) (by rw [hm]; decide)).mono ?_
  intro e w' h
  have hp := h.ans.plain
  rw [hm, fixA_norm] at hp
  rcases hp with ⟨h1, _⟩ | ⟨_, ⟨h1, _⟩ | ⟨_, h1, _⟩ | ⟨_, _, u, o, rfl, ho, hom⟩⟩
  · rw [fixA_mis] at h1; cases h1
  · rw [fixN_bare] at h1; cases h1
  · rw [fixN_may] at h1; cases h1
  · exact ownAns_of rfl ho.1 hom h.2

theorem own_rest {n0 : Nat} {w : World} {g c : Nat} {l : List UInt8} (h : OwnB n0 w (.slice (some ⟨g, 0, none⟩) l.length c) l) : RestAt w.heap.size w (.slice (some ⟨g, 0, none⟩) l.length c) l := by
  rcases h.2 with ⟨hv, _⟩ | ⟨g', cap, cur, hv, _, hg, hc, hcm, hsz, htk⟩
  · cases hv
  · cases hv
    refine ⟨_, _, rfl, by omega, by omega, Or.inr ⟨g, 0, rfl, (Array.getElem?_eq_some_iff.1 hg).1, fun i hi => ?_⟩⟩
    rw [Nat.zero_add, cell_of_row w g i cur _ _ hg]
    have : (Lib.byteCells l)[i]? = cur.toList[i]? := by
      rw [← htk, List.getElem?_take, if_pos (by omega)]
    rw [← Array.getElem?_toList, ← this]
    simp [Lib.byteCells, hi]

theorem fix_readc (w : World) (hp : PlainAt w) : Calls Tryz.prog 58 #[.string ⟨#[97, 37, 50, 48, 98]⟩] w fun e w' => e = .returned (.tuple #[.string ⟨#[97, 32, 98]⟩, .int .i64 0]) ∧ Below w.heap.size w w' := by
  have := read_any ⟨#[97, 37, 50, 48, 98]⟩ w hp (by decide)
  rw [show (⟨#[97, 37, 50, 48, 98]⟩ : ByteArray).data.toList = [97, 37, 50, 48, 98] from rfl, fix_read] at this
  exact this

theorem fix_writec (w : World) (hp : PlainAt w) : Calls Tryz.prog 50 #[.string ⟨#[97, 32, 98]⟩] w fun e w' => e = .returned (.string ⟨#[97, 37, 50, 48, 98]⟩) ∧ Below w.heap.size w w' := by
  have := write_any ⟨#[97, 32, 98]⟩ w hp (by decide)
  rw [show (⟨#[97, 32, 98]⟩ : ByteArray).data.toList = [97, 32, 98] from rfl, fix_write] at this
  exact this

theorem fix_may (v : Value) (d : List Fx) (w : World) (hv : IsXs w v d) (hm : d.map Fx.fld = fixN) : Calls Tryz.prog 13 #[v] w fun e w' => e = .returned (.bool true) ∧ Below w.heap.size w w' := by
  have := may_any v d w hv (fitFx hm (by decide) fixN_fit)
  rw [hm, fixN_may] at this
  exact this.mono fun _ _ ⟨h1, h2⟩ => ⟨h1, h2.below⟩

theorem fix_textsc (v : Value) (d : List Fx) (w : World) (hv : IsXs w v d) (hm : d.map Fx.fld = fixN) : Calls Tryz.prog 23 #[v, .string ⟨#[98]⟩] w fun e w' => (∃ p c, e = .returned (.slice p 2 c)) ∧ Below w.heap.size w w' := by
  have hft := fitFx hm (by decide) fixN_fit
  have := texts_any v ⟨#[98]⟩ d w hv hft (fun x hx => by
    have hx' : x.fld ∈ fixN := by rw [← hm]; exact List.mem_map.2 ⟨x, hx, rfl⟩
    have h2 : ∀ f ∈ fixN, f.2.length ≤ 2 := by decide
    have h3 : x.txt.length ≤ 2 := h2 _ hx'
    omega)
  rw [hm, fix_texts] at this
  refine this.mono ?_
  rintro e w' ⟨⟨u, rfl, ho⟩, hq⟩
  obtain ⟨p, c, rfl⟩ := own_slice ho
  exact ⟨⟨p, c, rfl⟩, hq⟩

theorem lit_row {w : World} {b : Nat} {cs : Array Value} {T : TypeId} {d : List Fx} {n cap : Nat} (h : w.heap[b]? = some (.cells cs T (0, 0))) (hcs : cs.toList = cellsX d) (hn : n = d.length) (ht : ∀ x ∈ d, x.at w) : IsXs w (.slice (some ⟨b, 0, none⟩) n cap) d := by
  subst hn
  refine ⟨_, _, rfl, Or.inr ⟨b, 0, rfl, fun i hi => ?_⟩, ht⟩
  obtain ⟨c0, c1⟩ := cellsX_get d i hi
  rw [Nat.zero_add, cell_of_row w b _ cs _ _ h, cell_of_row w b _ cs _ _ h, ← Array.getElem?_toList, ← Array.getElem?_toList, hcs]
  exact ⟨c0, c1⟩

theorem lit_txt {w : World} {b : Nat} {cs : Array Value} {T : TypeId} {ts : List ByteArray} (h : w.heap[b]? = some (.cells cs T (0, 0))) (hcs : cs.toList = ts.map Value.string) : TxtAt w (some ⟨b, 0, none⟩) ts := by
  refine Or.inr ⟨b, 0, rfl, fun i hi => ?_⟩
  rw [Nat.zero_add, cell_of_row w b i cs _ _ h, ← Array.getElem?_toList, hcs]
  simp [hi]

theorem fix_norm0 (w : World) : Calls Tryz.prog 14 #[.slice (some ⟨w.heap.size + 1 + 1 + 1, 0, none⟩) 3 3]
    ((((w.alloc (.cells #[.string ⟨#[120]⟩] 9)).alloc (.cells #[.string ⟨#[121]⟩] 9)).alloc (.cells #[.string ⟨#[122]⟩] 9)).alloc
      (.cells #[.string ⟨#[98]⟩, .slice (some ⟨w.heap.size, 0, none⟩) 1 1, .string ⟨#[97]⟩, .slice (some ⟨w.heap.size + 1, 0, none⟩) 1 1, .string ⟨#[98]⟩, .slice (some ⟨w.heap.size + 1 + 1, 0, none⟩) 1 1] 35))
    fun e w' => ∃ p c d n0, e = .returned (.tuple #[.slice p 2 c, .int .i64 0]) ∧ OwnXs n0 w' (.slice p 2 c) d ∧ d.map Fx.fld = fixN ∧ Below w.heap.size w w' := by
  obtain ⟨w1, h1⟩ : ∃ w1, w.alloc (.cells #[.string ⟨#[120]⟩] 9) = w1 := ⟨_, rfl⟩
  obtain ⟨w2, h2⟩ : ∃ w2, w1.alloc (.cells #[.string ⟨#[121]⟩] 9) = w2 := ⟨_, rfl⟩
  obtain ⟨w3, h3⟩ : ∃ w3, w2.alloc (.cells #[.string ⟨#[122]⟩] 9) = w3 := ⟨_, rfl⟩
  have s1 : w1.heap.size = w.heap.size + 1 := by rw [← h1]; simp
  have s2 : w2.heap.size = w.heap.size + 1 + 1 := by rw [← h2]; simp; omega
  have s3 : w3.heap.size = w.heap.size + 1 + 1 + 1 := by rw [← h3]; simp; omega
  rw [h1, h2, h3]
  obtain ⟨w4, h4⟩ : ∃ w4, w3.alloc (.cells #[.string ⟨#[98]⟩, .slice (some ⟨w.heap.size, 0, none⟩) 1 1, .string ⟨#[97]⟩, .slice (some ⟨w.heap.size + 1, 0, none⟩) 1 1, .string ⟨#[98]⟩, .slice (some ⟨w.heap.size + 1 + 1, 0, none⟩) 1 1] 35) = w4 := ⟨_, rfl⟩
  have k4 : w4.heap[w.heap.size + 1 + 1 + 1]? = some (.cells #[.string ⟨#[98]⟩, .slice (some ⟨w.heap.size, 0, none⟩) 1 1, .string ⟨#[97]⟩, .slice (some ⟨w.heap.size + 1, 0, none⟩) 1 1, .string ⟨#[98]⟩, .slice (some ⟨w.heap.size + 1 + 1, 0, none⟩) 1 1] 35 (0, 0)) := by
    rw [← h4, ← s3]; exact heap_alloc_new w3 _
  have k3 : w4.heap[w.heap.size + 1 + 1]? = some (.cells #[.string ⟨#[122]⟩] 9 (0, 0)) := by
    rw [← h4, Below.heap_alloc _ _ _ (by omega), ← h3, ← s2]; exact heap_alloc_new w2 _
  have k2 : w4.heap[w.heap.size + 1]? = some (.cells #[.string ⟨#[121]⟩] 9 (0, 0)) := by
    rw [← h4, Below.heap_alloc _ _ _ (by omega), ← h3, Below.heap_alloc _ _ _ (by omega), ← h2, ← s1]; exact heap_alloc_new w1 _
  have k1 : w4.heap[w.heap.size]? = some (.cells #[.string ⟨#[120]⟩] 9 (0, 0)) := by
    rw [← h4, Below.heap_alloc _ _ _ (by omega), ← h3, Below.heap_alloc _ _ _ (by omega), ← h2, Below.heap_alloc _ _ _ (by omega), ← h1]; exact heap_alloc_new w _
  have hb : Below w.heap.size w w4 := by
    rw [← h4, ← h3, ← h2, ← h1]
    exact ((((Below.refl _ w).alloc (Nat.le_refl _) _).alloc (by simp) _).alloc (by simp; omega) _).alloc (by simp; omega) _
  rw [h4]
  refine (fix_norm _ [⟨⟨#[98]⟩, some ⟨w.heap.size, 0, none⟩, 1, [⟨#[120]⟩]⟩, ⟨⟨#[97]⟩, some ⟨w.heap.size + 1, 0, none⟩, 1, [⟨#[121]⟩]⟩, ⟨⟨#[98]⟩, some ⟨w.heap.size + 1 + 1, 0, none⟩, 1, [⟨#[122]⟩]⟩] w4 (lit_row k4 rfl rfl ?_) rfl).mono ?_
  · intro x hx
    simp only [List.mem_cons, List.not_mem_nil, or_false] at hx
    rcases hx with rfl | rfl | rfl
    · exact lit_txt k1 rfl
    · exact lit_txt k2 rfl
    · exact lit_txt k3 rfl
  · rintro e w' ⟨p, c, d, he, ho, hm, hq⟩
    exact ⟨p, c, d, _, he, ho, hm, hb.trans (hq.mono hb.size)⟩

end Go.Proofs.YtelcongbnmfegabGreatDoor

/-
  ValueBytes answers true.
-/
namespace Go.Proofs.YtelcongbnmfegabGreatDoor
open Go.RowKit

theorem ownB_rest {n0 : Nat} {w : World} {u : Value} {l : List UInt8} (h : OwnB n0 w u l) : RestAt w.heap.size w u l := by
  rcases h.2 with ⟨rfl, h0⟩ | ⟨g', cap, cur, rfl, _⟩
  · obtain rfl := List.length_eq_zero_iff.1 h0
    exact ⟨none, 0, rfl, by simp, by unfold maxLen; omega, Or.inl rfl⟩
  · exact own_rest h

theorem ownB_slice {n0 : Nat} {w : World} {u : Value} {l : List UInt8} (h : OwnB n0 w u l) : ∃ p c, u = .slice p l.length c := by
  rcases h.2 with ⟨rfl, h0⟩ | ⟨g', cap, cur, rfl, _⟩
  · exact ⟨none, 0, by rw [h0]⟩
  · exact ⟨_, _, rfl⟩

end Go.Proofs.YtelcongbnmfegabGreatDoor

/-
  The contract of the reference's Write.
-/
namespace Go.Proofs.YtelcongbnmfegabGreatDoor
open Go.RowKit

theorem new_bytes3 (w : World) (a b c : Int) : ∀ j u, ([.int .u8 a, .int .u8 b, .int .u8 c] : List Value)[j]? = some u → (w.alloc (.cells #[.int .u8 a, .int .u8 b, .int .u8 c] 5)).cell? ((⟨w.heap.size, 0, none⟩ : Addr).add j) = some u := by
  intro j u hj
  match j, hj with
  | 0, hj => simp at hj; subst hj; simp [Addr.add]
  | 1, hj => simp at hj; subst hj; rw [addr_add]; simp
  | 2, hj => simp at hj; subst hj; rw [addr_add]; simp

theorem one_bytes3 (a b c : Int) : ∀ u ∈ ([.int .u8 a, .int .u8 b, .int .u8 c] : List Value), u.oneCell' = true := by
  intro u hu; simp at hu; rcases hu with rfl | rfl | rfl <;> rfl

theorem ownB_puts {n0 : Nat} {w : World} {v : Value} {bs cs : List UInt8} {n : Nat} {xs : List Value} (h : w.ownsRow n0 5 1 v n (Lib.byteCells bs ++ xs)) (hn : n = bs.length + cs.length) (hx : Lib.byteCells cs = xs) : OwnB n0 w v (bs ++ cs) := by
  subst hn hx
  unfold OwnB
  rw [List.length_append]
  have : Lib.byteCells (bs ++ cs) = Lib.byteCells bs ++ Lib.byteCells cs := by simp [Lib.byteCells]
  rw [this]
  exact h

theorem wrap_byte (n : Int) (h : 0 ≤ n ∧ n < 256) : IntKind.u8.wrap n = n := by
  simp [IntKind.wrap, IntKind.signed, IntKind.bits]; omega

end Go.Proofs.YtelcongbnmfegabGreatDoor

/-
  How long a value's bytes are, and how many blanks its line has.
-/
namespace Go.Proofs.YtelcongbnmfegabGreatDoor
open Go.RowKit Go.Lib

/-- What ValueSizes counts. -/
def cntF (f : Fld) : Nat := 2 + f.1.size + (f.2.map fun t => 1 + t.size).sum
def cntB (fs : List Fld) : Nat := 1 + (fs.map cntF).sum

theorem encTs_len (ts : List ByteArray) : (ts.flatMap encT).length = (ts.map fun t => 1 + t.size).sum := by
  induction ts with
  | nil => rfl
  | cons t ts ih =>
    rw [List.flatMap_cons, List.length_append, encT_len, ih, List.map_cons, List.sum_cons]
    omega

theorem encF_cnt (f : Fld) : (encF f).length = cntF f := by
  unfold encF cntF
  rw [List.length_append, List.length_append, encT_len, encTs_len]
  simp only [List.length_cons, List.length_nil]
  omega

theorem encL_cnt (fs : List Fld) : (encL fs).length = cntB fs := by
  unfold encL cntB
  rw [List.length_cons]
  have : (fs.flatMap encF).length = (fs.map cntF).sum := by
    induction fs with
    | nil => rfl
    | cons f fs ih => rw [List.flatMap_cons, List.length_append, encF_cnt, ih, List.map_cons, List.sum_cons]
  omega

/-- The blanks of a text. -/
def blanks (l : List UInt8) : Nat := l.countP fun c => c == 32

theorem blanks_append (a b : List UInt8) : blanks (a ++ b) = blanks a + blanks b := List.countP_append ..

theorem blanks_join : ∀ ws : List (List UInt8), (∀ w ∈ ws, blanks w = 0) → blanks (Lib.join ws [32]) = ws.length - 1
  | [], _ => rfl
  | [w], h => by
    have := h w (by simp)
    simpa [Lib.join] using this
  | w :: v :: ws, h => by
    have h1 := h w (by simp)
    have ih := blanks_join (v :: ws) (fun x hx => h x (by simp [hx]))
    have e : Lib.join (w :: v :: ws) [32] = w ++ [32] ++ Lib.join (v :: ws) [32] := by simp [Lib.join]
    rw [e, blanks_append, blanks_append, h1, ih]
    simp [blanks]
    omega

theorem field_noblank {l : List UInt8} (h : fieldB l = true) : blanks l = 0 := by
  unfold blanks
  rw [List.countP_eq_zero]
  intro c hc
  unfold fieldB spell at h
  cases l with
  | nil => simp at hc
  | cons x r =>
    simp only [Bool.and_eq_true, List.all_eq_true] at h
    have key : lodB (c.toNat : Int) = true ∨ smallB (c.toNat : Int) = true := by
      rcases List.mem_cons.1 hc with rfl | hc
      · exact Or.inr h.1.2
      · exact Or.inl (h.2 c hc)
    intro e
    have e : c = 32 := by simpa using e
    subst e
    rcases key with k | k
    · revert k; decide
    · revert k; decide

theorem hexd_noblank (k : Nat) (h : k < 16) : (hexd k == 32) = false := by
  have t : ((List.range 16).all fun k => !(hexd k == 32)) = true := by decide
  have := List.all_eq_true.1 t k (List.mem_range.2 h)
  simpa using this

theorem write_noblank (l : List UInt8) : blanks (writeL l) = 0 := by
  induction l with
  | nil => rfl
  | cons c l ih =>
    rw [writeL_cons, blanks_append, ih]
    unfold writeC
    cases hp : plainB (c.toNat : Int) with
    | true =>
      have : (c == 32) = false := by
        rw [beq_eq_false_iff_ne]
        intro e
        subst e
        revert hp; decide
      simp [blanks, this]
    | false =>
      have hc := c.toNat_lt
      simp [blanks, hexd_noblank (c.toNat / 16) (by omega), hexd_noblank (c.toNat % 16) (by omega)]

theorem word_data (n t : ByteArray) : (wordOf n t).data.toList = n.data.toList ++ [61] ++ writeL t.data.toList := by
  unfold wordOf
  obtain ⟨⟨n⟩⟩ := n
  simp

theorem word_noblank {n t : ByteArray} (h : fieldB n.data.toList = true) : blanks (wordOf n t).data.toList = 0 := by
  rw [word_data, blanks_append, blanks_append, field_noblank h, write_noblank]
  rfl

theorem words_cnt (fs : List Fld) : (wordsL fs).length = totF fs := by
  unfold wordsL totF
  induction fs with
  | nil => rfl
  | cons f fs ih => rw [List.flatMap_cons, List.length_append, ih]; simp [wordsF]

theorem line_blanks {fs : List Fld} (h : mayB fs = true) : blanks (lineOf fs).data.toList = totF fs - 1 := by
  unfold lineOf
  show blanks (Lib.join ((wordsL fs).map (·.data.toList)) [32]).toArray.toList = _
  rw [List.toList_toArray, blanks_join, List.length_map, words_cnt]
  intro w hw
  obtain ⟨x, hx, rfl⟩ := List.mem_map.1 hw
  obtain ⟨f, hf, hx⟩ := List.mem_flatMap.1 hx
  obtain ⟨t, _, rfl⟩ := List.mem_map.1 hx
  exact word_noblank (fits_parts (may_fits h f hf)).2.2.2.2

theorem line_empty (fs : List Fld) : (lineOf fs).size = 0 ↔ totF fs = 0 := by
  have e : (lineOf fs).size = (Lib.join ((wordsL fs).map (·.data.toList)) [32]).length := by
    show (Lib.join ((wordsL fs).map (·.data.toList)) [32]).toArray.size = _
    simp
  rw [e, ← words_cnt]
  cases hw : wordsL fs with
  | nil => simp [Lib.join, List.intercalate]
  | cons x r =>
    have hx : x ∈ wordsL fs := by rw [hw]; simp
    obtain ⟨f, hf, hx⟩ := List.mem_flatMap.1 hx
    obtain ⟨t, _, rfl⟩ := List.mem_map.1 hx
    have hl : 0 < (wordOf f.1 t).data.toList.length := by rw [word_data]; simp; omega
    constructor
    · intro h
      exfalso
      cases r with
      | nil =>
        rw [List.map_cons, List.map_nil, Lib.join_one] at h
        omega
      | cons y r =>
        have : Lib.join ((wordOf f.1 t :: y :: r).map (·.data.toList)) [32] = (wordOf f.1 t).data.toList ++ [32] ++ Lib.join ((y :: r).map (·.data.toList)) [32] := by simp [Lib.join]
        rw [this] at h
        simp at h
    · intro h; simp at h

theorem join_size (c : Nat) : ∀ ws : List (List UInt8), (∀ w ∈ ws, w.length ≤ c) → (Lib.join ws [32]).length ≤ ws.length * (c + 1)
  | [], _ => by simp [Lib.join, List.intercalate]
  | [w], h => by
    have := h w (by simp)
    rw [Lib.join_one]
    simp
    omega
  | w :: v :: ws, h => by
    have h1 := h w (by simp)
    have ih := join_size c (v :: ws) (fun x hx => h x (by simp [hx]))
    have e : Lib.join (w :: v :: ws) [32] = w ++ [32] ++ Lib.join (v :: ws) [32] := by simp [Lib.join]
    have e2 : (w :: v :: ws).length * (c + 1) = (v :: ws).length * (c + 1) + (c + 1) := by rw [List.length_cons, Nat.add_mul, Nat.one_mul]
    have e3 : ([32] : List UInt8).length = 1 := rfl
    rw [e, List.length_append, List.length_append, e2, e3]
    omega

theorem line_size {fs : List Fld} (h : mayB fs = true) : (lineOf fs).size ≤ 53504 := by
  have e : (lineOf fs).size = (Lib.join ((wordsL fs).map (·.data.toList)) [32]).length := by
    show (Lib.join ((wordsL fs).map (·.data.toList)) [32]).toArray.size = _
    simp
  have h1 := join_size 417 ((wordsL fs).map (·.data.toList)) (fun w hw => by
    obtain ⟨x, hx, rfl⟩ := List.mem_map.1 hw
    obtain ⟨f, hf, hx⟩ := List.mem_flatMap.1 hx
    obtain ⟨t, ht, rfl⟩ := List.mem_map.1 hx
    simpa using word_len (may_fits h f hf) ht)
  have h2 := wordsL_len (fun f hf => may_fits h f hf) (may_parts h).1
  rw [List.length_map] at h1
  have h3 : (wordsL fs).length * (417 + 1) ≤ 128 * (417 + 1) := Nat.mul_le_mul_right _ h2
  omega

theorem cnt_small {fs : List Fld} (h : mayB fs = true) (i : Nat) : 1 + ((fs.take i).map cntF).sum ≤ 17057 := by
  have h1 : ((fs.take i).map cntF).sum = ((fs.take i).flatMap encF).length := by
    generalize fs.take i = gs
    induction gs with
    | nil => rfl
    | cons f gs ih => rw [List.flatMap_cons, List.length_append, encF_cnt, ← ih, List.map_cons, List.sum_cons]
  have := enc_ahead h i
  omega

theorem tot_small {fs : List Fld} (h : mayB fs = true) (i : Nat) : totF (fs.take i) ≤ 128 := by
  rw [← words_cnt]
  refine wordsL_len (fun f hf => may_fits h f (List.mem_of_mem_take hf)) ?_
  have := (may_parts h).1
  rw [List.length_take]
  omega

end Go.Proofs.YtelcongbnmfegabGreatDoor

/-
  The contract of the reference's Print.
-/
namespace Go.Proofs.YtelcongbnmfegabGreatDoor
open Go.RowKit Go.Lib

def lineB (ws : List ByteArray) : ByteArray := ⟨(Lib.join (ws.map (·.data.toList)) [32]).toArray⟩

theorem lineB_data (ws : List ByteArray) : (lineB ws).data.toList = Lib.join (ws.map (·.data.toList)) [32] := by
  unfold lineB
  rw [List.toList_toArray]

theorem join_snoc : ∀ (ws : List (List UInt8)) (x : List UInt8), ws ≠ [] → Lib.join (ws ++ [x]) [32] = Lib.join ws [32] ++ 32 :: x
  | [], _, h => absurd rfl h
  | [w], x, _ => by rw [List.singleton_append, join_two, Lib.join_one, Lib.join_one]
  | w :: v :: ws, x, _ => by
    have ih := join_snoc (v :: ws) x (by simp)
    rw [List.cons_append, List.cons_append, join_two, ← List.cons_append, ih, join_two]
    simp

theorem data_append (a b : ByteArray) : (a ++ b).data.toList = a.data.toList ++ b.data.toList := by
  simp

theorem lineB_first (n t : ByteArray) : lineB [wordOf n t] = ⟨#[]⟩ ++ n ++ ⟨#[61]⟩ ++ ⟨(writeL t.data.toList).toArray⟩ := by
  refine ba_eq ?_
  rw [lineB_data, List.map_cons, List.map_nil, Lib.join_one]
  unfold wordOf
  simp only [data_append]
  simp

theorem lineB_next {ws : List ByteArray} (h : ws ≠ []) (n t : ByteArray) : lineB (ws ++ [wordOf n t]) = lineB ws ++ ⟨#[32]⟩ ++ n ++ ⟨#[61]⟩ ++ ⟨(writeL t.data.toList).toArray⟩ := by
  refine ba_eq ?_
  rw [lineB_data, List.map_append, List.map_cons, List.map_nil, join_snoc _ _ (by simpa using h)]
  simp only [data_append, lineB_data]
  unfold wordOf
  simp only [data_append]
  simp

theorem lineB_size {ws : List ByteArray} (hn : ws.length ≤ 200) (hs : ∀ x ∈ ws, x.size ≤ 417) : (lineB ws).size ≤ 83600 := by
  have e : (lineB ws).size = (Lib.join (ws.map (·.data.toList)) [32]).length := by rw [← lineB_data]; simp
  have h1 := join_size 417 (ws.map (·.data.toList)) (fun w hw => by
    obtain ⟨x, hx, rfl⟩ := List.mem_map.1 hw
    simpa using hs x hx)
  rw [List.length_map] at h1
  have h3 : ws.length * (417 + 1) ≤ 200 * (417 + 1) := Nat.mul_le_mul_right _ hn
  omega

theorem lineB_ne {ws : List ByteArray} (h : ws ≠ []) (hs : ∀ x ∈ ws, 0 < x.size) : (lineB ws).toList.isEmpty = false := by
  rw [Lib.toList_data, lineB_data]
  match ws, h with
  | [x], _ =>
    have := hs x (by simp)
    rw [List.map_cons, List.map_nil, Lib.join_one]
    cases hx : x.data.toList with
    | nil =>
      have h3 : x.data.toList.length = x.size := by simp
      rw [hx] at h3
      simp at h3
      omega
    | cons _ _ => rfl
  | x :: y :: ws, _ =>
    rw [List.map_cons, List.map_cons, join_two]
    cases x.data.toList with
    | nil => rfl
    | cons _ _ => rfl

theorem word_pos (n t : ByteArray) : 0 < (wordOf n t).size := by
  have : 0 < (wordOf n t).data.toList.length := by rw [word_data]; simp; omega
  simpa using this

end Go.Proofs.YtelcongbnmfegabGreatDoor

/-
  The contract of the reference's Norm.
-/
namespace Go.Proofs.YtelcongbnmfegabGreatDoor
open Go.RowKit Go.Lib

def RnSt (w : World) (G : List Fld) (k : Nat) (v : Value) (wr : World) : Prop :=
  ∃ dr, OwnXs w.heap.size wr v dr ∧ dr.map Fx.fld = (G.take (min k 17)).map capF ∧ Below w.heap.size w wr

def RnAns (N : Nat) (fs : List Fld) (e : Ending) (w' : World) : Prop :=
  (fs.any misB = true ∧ e = .returned (.tuple #[.slice none 0 0, .int .i64 2])) ∨
    (fs.any misB = false ∧
     (((normF fs).any bareB = true ∧ e = .returned (.tuple #[.slice none 0 0, .int .i64 3])) ∨
      ((normF fs).any bareB = false ∧ mayB (normF fs) = false ∧ e = .returned (.tuple #[.slice none 0 0, .int .i64 5])) ∨
      ((normF fs).any bareB = false ∧ mayB (normF fs) = true ∧ ∃ u o, e = .returned (.tuple #[u, .int .i64 0]) ∧ OwnXs N w' u o ∧ o.map Fx.fld = normF fs)))
def RnPost (w : World) (fs : List Fld) (e : Ending) (w' : World) : Prop := RnAns w.heap.size fs e w' ∧ Below w.heap.size w w'

theorem mem_txtOf {fs : List Fld} {c t : ByteArray} (h : t ∈ txtOf fs c) : ∃ f ∈ fs, t ∈ f.2 := by
  unfold txtOf at h
  obtain ⟨f, hf, ht⟩ := List.mem_flatMap.1 h
  exact ⟨f, (List.mem_filter.1 hf).1, ht⟩

theorem txtOf_len (fs : List Fld) (c : ByteArray) : (txtOf fs c).length ≤ totF fs := by
  unfold txtOf totF
  induction fs with
  | nil => simp
  | cons f fs ih =>
    rw [List.map_cons, List.sum_cons]
    by_cases e : f.1 = c
    · rw [List.filter_cons_of_pos (by simp [e]), List.flatMap_cons, List.length_append]; omega
    · rw [List.filter_cons_of_neg (by simp [e])]; omega

theorem totF_take (fs : List Fld) (i : Nat) : totF (fs.take i) ≤ totF fs := by
  conv => rhs; rw [← List.take_append_drop i fs, totF_append]
  omega

theorem txtOf_step {d : List Fx} {i : Nat} (h : i < d.length) (c : ByteArray) : txtOf ((d.map Fx.fld).take (i + 1)) c = txtOf ((d.map Fx.fld).take i) c ++ if (d[i]).name = c then (d[i]).txt else [] := by
  rw [List.take_succ_eq_append_getElem (by simpa using h), txtOf_snoc]
  simp [Fx.fld]

theorem scanN_step {d : List Fx} {i : Nat} (h : i < d.length) (last : ByteArray) : scanN last ((d.map Fx.fld).take (i + 1)) =
    if ltB last (d[i]).name && (decide ((scanN last ((d.map Fx.fld).take i)).size = 0) || ltB (d[i]).name (scanN last ((d.map Fx.fld).take i))) then (d[i]).name else scanN last ((d.map Fx.fld).take i) := by
  rw [List.take_succ_eq_append_getElem (by simpa using h), scanN_snoc]
  simp [scanStep, Fx.fld]

theorem mis_all {d : List Fx} (h : ∀ j, (h : j < d.length) → fieldB (d[j]).name.data.toList = true) : (d.map Fx.fld).any misB = false := by
  rw [List.any_eq_false]
  intro f hf
  obtain ⟨x, hx, rfl⟩ := List.mem_map.1 hf
  obtain ⟨j, hj, rfl⟩ := List.mem_iff_getElem.1 hx
  have := h j hj
  simp [misB, Fx.fld, this]

theorem field_ne {l : ByteArray} (h : fieldB l.data.toList = true) : l.size ≠ 0 := by
  intro e
  have : l.data.toList = [] := List.length_eq_zero_iff.1 (by simpa using e)
  rw [this] at h
  revert h
  decide

theorem take9_more {T a b : List ByteArray} (h : 9 ≤ (T ++ a).length) : (T ++ (a ++ b)).take 9 = (T ++ a).take 9 := by
  rw [← List.append_assoc, List.take_append_of_le_length h]

theorem any_snoc {G : List Fld} {k : Nat} (h : k < G.length) : (G.take (k + 1)).any bareB = ((G.take k).any bareB || bareB G[k]) := by
  rw [List.take_succ_eq_append_getElem h, List.any_append]
  simp

theorem cap_snoc {G : List Fld} {k : Nat} (h : k < G.length) (hk : k < 17) : (G.take (min (k + 1) 17)).map capF = (G.take (min k 17)).map capF ++ [capF G[k]] := by
  rw [Nat.min_eq_left (by omega), Nat.min_eq_left (by omega), List.take_succ_eq_append_getElem h, List.map_append]
  rfl

theorem lastOf_succ {G : List Fld} {k : Nat} (h : k < G.length) : lastOf G (k + 1) = (G[k]).1 := by
  unfold lastOf
  rw [if_neg (by omega), Nat.add_sub_cancel, List.getD_eq_getElem?_getD, List.getElem?_eq_getElem h]
  rfl

/-- What the reference holds at its end is small. -/
theorem rn_fit {d dr : List Fx} {k : Nat} (hf : FitX d) (h : dr.map Fx.fld = ((normF (d.map Fx.fld)).take (min k 17)).map capF) : FitX dr := by
  have hg := normF_groups (d.map Fx.fld)
  have hl : dr.length ≤ 17 := by
    have := congrArg List.length h
    rw [List.length_map, List.length_map, List.length_take] at this
    omega
  refine ⟨by unfold maxLen; omega, fun x hx => ?_⟩
  have hm : x.fld ∈ ((normF (d.map Fx.fld)).take (min k 17)).map capF := by rw [← h]; exact List.mem_map.2 ⟨x, hx, rfl⟩
  obtain ⟨g, hgm, e⟩ := List.mem_map.1 hm
  have hgm := List.mem_of_mem_take hgm
  have e1 : x.name = g.1 := (congrArg Prod.fst e).symm
  have e2 : x.txt = g.2.take 9 := (congrArg Prod.snd e).symm
  obtain ⟨f, hfm, ef⟩ := (hg.names g.1).1 ⟨g, hgm, rfl⟩
  obtain ⟨y, hy, rfl⟩ := List.mem_map.1 hfm
  refine ⟨?_, ?_, fun t ht => ?_⟩
  · show x.name.size ≤ maxLen
    rw [e1, ← ef]; exact (hf.2 y hy).1
  · show x.txt.length ≤ maxLen
    rw [e2, List.length_take]; unfold maxLen; omega
  · have ht : t ∈ x.txt := ht
    rw [e2] at ht
    have ht := List.mem_of_mem_take ht
    rw [hg.texts g hgm] at ht
    obtain ⟨f', hf', ht'⟩ := mem_txtOf ht
    obtain ⟨z, hz, rfl⟩ := List.mem_map.1 hf'
    exact (hf.2 z hz).2.2 t ht'

end Go.Proofs.YtelcongbnmfegabGreatDoor

/-
  The contract of the reference's Norm: the walk.
-/
namespace Go.Proofs.YtelcongbnmfegabGreatDoor
open Go.RowKit Go.Lib

theorem less_of {a b : ByteArray} {c : Bool} (h : ltB a b = c) : Op.bytesLess a.toList b.toList = c := by
  rw [← h, ← ltN_eq]; rfl

theorem eq_false {a b : ByteArray} (h : a ≠ b) : (a.toList == b.toList) = false := by
  rw [Lib.toList_data, Lib.toList_data, beq_eq_false_iff_ne]
  exact fun e => h (ba_eq e)
theorem eq_true {a b : ByteArray} (h : a = b) : (a.toList == b.toList) = true := by rw [h]; simp

theorem empty_of {a : ByteArray} (h : a.size = 0) : a.toList.isEmpty = true := by
  rw [Lib.toList_data]
  have : a.data.toList = [] := List.length_eq_zero_iff.1 (by simpa using h)
  rw [this]; rfl
theorem nonempty_of {a : ByteArray} (h : a.size ≠ 0) : a.toList.isEmpty = false := by
  rw [Lib.toList_data]
  cases e : a.data.toList with
  | nil => exact absurd (by simpa using congrArg List.length e) h
  | cons _ _ => rfl

end Go.Proofs.YtelcongbnmfegabGreatDoor

/-
  The contracts of SameTexts, SameFields and Same of the reference.
-/
namespace Go.Proofs.YtelcongbnmfegabGreatDoor
open Go.RowKit

theorem str_ne {s t : ByteArray} (h : ¬ s = t) : (s.toList == t.toList) = false := by
  rw [Lib.toList_data, Lib.toList_data, beq_eq_false_iff_ne]
  intro e
  apply h
  obtain ⟨⟨s⟩⟩ := s
  obtain ⟨⟨t⟩⟩ := t
  simp at e
  rw [e]

set_option maxHeartbeats 1000000 in
set_option maxRecDepth 100000 in
theorem sameT_any (p q : Option Addr) (cap cap' : Nat) (ts us : List ByteArray) (w : World) (h1 : TxtAt w p ts) (h2 : TxtAt w q us) (hl1 : ts.length ≤ maxLen) :
    Calls Tryz.prog 9 #[.slice p ts.length cap, .slice q us.length cap'] w fun e w' => e = .returned (.bool (decide (ts = us))) ∧ ∃ n, w' = w.drewN n := by
  unfold maxLen at hl1
  obtain ⟨r, hr⟩ : ∃ r, decide (ts = us) = r := ⟨_, rfl⟩
  rw [hr]
  have HR := hid hr
  have H1 := hid h1
  have H2 := hid h2
  clear hr h1 h2
  by_cases hl : ts.length = us.length
  · have hb : ((ts.length : Int) != (us.length : Int)) = false := by simp [hl]
    have HL := hid hl
    clear hl
    go_enter Tryz.func9, Tryz.ntmps9
    go_wp2_with fail
    go_loopg [5] ts.length (fun g vi wr => ∃ i m : Nat, vi = .int .i64 i ∧ i ≤ ts.length ∧ ts.length - i ≤ g ∧ wr = w.drewN m ∧ Hid (∀ j, j < i → ts[j]? = us[j]?))
    case atStart => exact ⟨0, 0, rfl, by omega, by omega, rfl, fun j h => by omega⟩
    case round =>
      obtain ⟨i, m, rfl, hi, hg, rfl, HJ⟩ := hrel
      by_cases hlt : i < ts.length
      · have hlt2 : i < us.length := by rw [← HL.out]; exact hlt
        have i1 : (0 : Int) ≤ ↑i := by omega
        have i2 : (↑i : Int) < ↑ts.length := by omega
        have i3 : (↑i : Int) < ↑us.length := by omega
        rcases H1.out with hn | ⟨b1, o1, rfl, k1⟩
        · rw [hn] at hlt; simp at hlt
        rcases H2.out with hn | ⟨b2, o2, rfl, k2⟩
        · rw [hn] at hlt2; simp at hlt2
        have e1 := k1 i hlt
        have e2 := k2 i hlt2
        have g1 : ts[i]? = some ts[i] := List.getElem?_eq_getElem hlt
        have g2 : us[i]? = some us[i] := List.getElem?_eq_getElem hlt2
        clear k1 k2
        obtain ⟨s, hs⟩ : ∃ s, ts[i] = s := ⟨_, rfl⟩
        obtain ⟨t, ht⟩ : ∃ t, us[i] = t := ⟨_, rfl⟩
        rw [hs] at e1 g1
        rw [ht] at e2 g2
        have G1 := hid g1
        have G2 := hid g2
        clear hs ht g1 g2
        by_cases hst : s = t
        · subst hst
          go_wp2_with fail
          go_quiet (fail)
          go_wp2_with fail
          go_roundg (ts.length - (i + 1))
          case measure => omega
          refine ⟨i + 1, _, by go_num, by omega, by omega, rfl, fun j hj => ?_⟩
          by_cases e : j = i
          · subst e; rw [G1.out, G2.out]
          · exact HJ.out j (by omega)
        · have hne := str_ne hst
          have H0 : Hid (r = false) := HR.out.symm.trans (decide_eq_false fun e => hst (by
            have := G1.out
            rw [e, G2.out] at this
            exact (Option.some.inj this).symm))
          go_wp2_with fail
          go_quiet (fail)
          go_wp2_with fail
          go_ret
          exact ⟨ret_bool H0.out.symm, _, by rw [World.drewN_drewN]⟩
      · have hltz : ¬ (i : Int) < (ts.length : Int) := by omega
        have H0 : Hid (r = true) := HR.out.symm.trans (decide_eq_true (List.ext_getElem? fun j => by
          by_cases hj : j < ts.length
          · exact HJ.out j (by omega)
          · rw [List.getElem?_eq_none (by omega), List.getElem?_eq_none (by have := HL.out; omega)]))
        go_wp2_with fail
        go_ret
        exact ⟨ret_bool H0.out.symm, _, rfl⟩
  · have hb : ((ts.length : Int) != (us.length : Int)) = true := by simp; omega
    have H0 : Hid (r = false) := HR.out.symm.trans (decide_eq_false fun e => hl (by rw [e]))
    go_enter Tryz.func9, Tryz.ntmps9
    go_wp2_with fail
    go_ret
    exact ⟨ret_bool H0.out.symm, 0, rfl⟩

theorem TxtAt.draws {w : World} {p : Option Addr} {ts : List ByteArray} (h : TxtAt w p ts) (n : Nat) : TxtAt (w.drewN n) p ts := h

end Go.Proofs.YtelcongbnmfegabGreatDoor

/-
  What Norm answers, by the fields alone: the program's and the reference's.
-/
namespace Go.Proofs.YtelcongbnmfegabGreatDoor
open Go.RowKit Go.Lib

/-- What Norm answers: the number, and the fields. -/
def codeF (fs : List Fld) : Int := if fs.any misB then 2 else if (normF fs).any bareB then 3 else if mayB (normF fs) then 0 else 5
def ansF (fs : List Fld) : List Fld := if codeF fs = 0 then normF fs else []

theorem codeF_zero {fs : List Fld} (h : codeF fs = 0) : fs.any misB = false ∧ (normF fs).any bareB = false ∧ mayB (normF fs) = true := by
  unfold codeF at h
  cases h1 : fs.any misB with
  | true => rw [h1] at h; simp at h
  | false =>
    cases h2 : (normF fs).any bareB with
    | true => rw [h1, h2] at h; simp at h
    | false =>
      cases h3 : mayB (normF fs) with
      | true => exact ⟨rfl, rfl, rfl⟩
      | false => rw [h1, h2, h3] at h; simp at h

theorem may_fit {d : List Fx} {fs : List Fld} (hmay : mayB fs = true) (hm : d.map Fx.fld = fs) : FitX d := by
  have hl := (may_parts hmay).1
  refine ⟨?_, fun x hx => ?_⟩
  · rw [← hm, List.length_map] at hl
    unfold maxLen; omega
  · have hx' : x.fld ∈ fs := by rw [← hm]; exact List.mem_map.2 ⟨x, hx, rfl⟩
    obtain ⟨h1, _, h3, h4, _⟩ := fits_parts (may_fits hmay _ hx')
    refine ⟨?_, ?_, fun t ht => ?_⟩
    · unfold maxLen; omega
    · unfold maxLen; omega
    · have := h4 t ht; unfold maxLen; omega

theorem ans_fit {d : List Fx} {fs : List Fld} (hm : d.map Fx.fld = ansF fs) : FitX d := by
  unfold ansF at hm
  split at hm
  · rename_i h
    exact may_fit (codeF_zero h).2.2 hm
  · rw [List.map_eq_nil_iff] at hm
    subst hm
    exact ⟨by unfold maxLen; simp, fun x hx => by simp at hx⟩

def NPost (w : World) (fs : List Fld) (e : Ending) (w' : World) : Prop :=
  (∃ u o, e = .returned (.tuple #[u, .int .i64 (codeF fs)]) ∧ OwnXs w.heap.size w' u o ∧ o.map Fx.fld = ansF fs) ∧ Below w.heap.size w w'

theorem own_none (N : Nat) (w : World) : OwnXs N w (.slice none 0 0) [] := ⟨World.ownsRow_nil _ _ _ _, fun x hx => by simp at hx⟩

theorem ansPlain {N : Nat} {fs : List Fld} {e : Ending} {w' : World}
    (h : (fs.any misB = true ∧ e = .returned (.tuple #[.slice none 0 0, .int .i64 2])) ∨
    (fs.any misB = false ∧
     (((normF fs).any bareB = true ∧ e = .returned (.tuple #[.slice none 0 0, .int .i64 3])) ∨
      ((normF fs).any bareB = false ∧ mayB (normF fs) = false ∧ e = .returned (.tuple #[.slice none 0 0, .int .i64 5])) ∨
      ((normF fs).any bareB = false ∧ mayB (normF fs) = true ∧ ∃ u o, e = .returned (.tuple #[u, .int .i64 0]) ∧ OwnXs N w' u o ∧ o.map Fx.fld = normF fs)))) :
    ∃ u o, e = .returned (.tuple #[u, .int .i64 (codeF fs)]) ∧ OwnXs N w' u o ∧ o.map Fx.fld = ansF fs := by
  rcases h with ⟨h1, rfl⟩ | ⟨h1, ⟨h2, rfl⟩ | ⟨h2, h3, rfl⟩ | ⟨h2, h3, u, o, rfl, ho, hm⟩⟩
  · have hc : codeF fs = 2 := by unfold codeF; rw [h1]; rfl
    exact ⟨_, [], by rw [hc], own_none _ _, by unfold ansF; rw [hc]; rfl⟩
  · have hc : codeF fs = 3 := by unfold codeF; rw [h1, h2]; rfl
    exact ⟨_, [], by rw [hc], own_none _ _, by unfold ansF; rw [hc]; rfl⟩
  · have hc : codeF fs = 5 := by unfold codeF; rw [h1, h2, h3]; rfl
    exact ⟨_, [], by rw [hc], own_none _ _, by unfold ansF; rw [hc]; rfl⟩
  · have hc : codeF fs = 0 := by unfold codeF; rw [h1, h2, h3]; rfl
    exact ⟨u, o, by rw [hc], ho, by unfold ansF; rw [hc]; exact hm⟩

theorem norm_plain (v : Value) (d : List Fx) (w : World) (hv : IsXs w v d) (hf : FitX d) (hl : d.length * 40 ≤ 140737488355328) (htot : totF (d.map Fx.fld) * 16 ≤ 140737488355328) :
    Calls Tryz.prog 14 #[v] w fun e w' => NPost w (d.map Fx.fld) e w' := by
  refine (norm_any v d w hv hf hl htot).mono fun e w' h => ⟨ansPlain ?_, h.2⟩
  rcases h.ans.plain with h | ⟨h1, h | h | ⟨h2, h3, u, o, h4, h5, h6⟩⟩
  · exact Or.inl h
  · exact Or.inr ⟨h1, Or.inl h⟩
  · exact Or.inr ⟨h1, Or.inr (Or.inl h)⟩
  · exact Or.inr ⟨h1, Or.inr (Or.inr ⟨h2, h3, u, o, h4, h5.1, h6⟩)⟩

end Go.Proofs.YtelcongbnmfegabGreatDoor

/-
  ValueNorms answers true, where the fields and their texts are few enough to be copied.
-/
namespace Go.Proofs.YtelcongbnmfegabGreatDoor
open Go.RowKit Go.Lib

theorem bool_same (b : Bool) : (b == b) = true := by cases b <;> rfl

end Go.Proofs.YtelcongbnmfegabGreatDoor

/-
  The contract of the reference's Read.
-/
namespace Go.Proofs.YtelcongbnmfegabGreatDoor
open Go.RowKit

theorem firstP_plain {c : UInt8} {r : List UInt8} (h : plainB (c.toNat : Int) = true) : firstP (c :: r) = some (c, 1) := by
  simp [firstP, h]
theorem firstP_sign {c : UInt8} {r : List UInt8} (h : plainB (c.toNat : Int) = false) (h2 : c ≠ 37) : firstP (c :: r) = none := by
  simp [firstP, h, h2]
theorem pct_plain : plainB 37 = false := by decide
theorem firstP_short {r : List UInt8} (h : r.length < 2) : firstP (37 :: r) = none := by
  match r, h with
  | [], _ => simp [firstP, pct_plain]
  | [_], _ => simp [firstP, pct_plain]
theorem firstP_hex {a b : UInt8} {r : List UInt8} : firstP (37 :: a :: b :: r) = if hexN a = 16 ∨ hexN b = 16 then none else if plainB ((UInt8.ofNat (16 * hexN a + hexN b)).toNat : Int) then none else some (UInt8.ofNat (16 * hexN a + hexN b), 3) := by
  have e : firstP (37 :: a :: b :: r) = if hexv a < 0 ∨ hexv b < 0 then none else
      if plainB ((UInt8.ofNat (16 * (hexv a).toNat + (hexv b).toNat)).toNat : Int) then none else some (UInt8.ofNat (16 * (hexv a).toNat + (hexv b).toNat), 3) := by
    simp [firstP, pct_plain]
  rw [e, hexN_eq a, hexN_eq b]
  by_cases ha : hexN a = 16
  · rw [if_pos (Or.inl (by rw [if_pos ha]; decide)), if_pos (Or.inl ha)]
  · by_cases hb : hexN b = 16
    · rw [if_pos (Or.inr (by rw [if_pos hb]; decide)), if_pos (Or.inr hb)]
    · rw [if_neg (show ¬ (hexN a = 16 ∨ hexN b = 16) by omega), if_neg (show ¬ ((if hexN a = 16 then (-1 : Int) else (hexN a : Int)) < 0 ∨ (if hexN b = 16 then (-1 : Int) else (hexN b : Int)) < 0) by rw [if_neg ha, if_neg hb]; omega), if_neg ha, if_neg hb, Int.toNat_natCast, Int.toNat_natCast]

theorem drop_at (s : ByteArray) (i : Nat) (h : i < s.size) : s.data.toList.drop i = s[i] :: s.data.toList.drop (i + 1) := by
  rw [List.drop_eq_getElem_cons (by simpa using h)]
  rfl

def RrSt (w : World) (s : ByteArray) (i : Nat) (vb : Value) (wr : World) : Prop :=
  ∃ acc, OwnB w.heap.size wr vb acc ∧ acc.length ≤ i ∧ readL s.data.toList = (readL (s.data.toList.drop i)).map (acc ++ ·) ∧ Below w.heap.size w wr

theorem rr_next {s : ByteArray} {i n : Nat} {c : UInt8} {acc : List UInt8} (h : readL s.data.toList = (readL (s.data.toList.drop i)).map (acc ++ ·)) (hf : firstP (s.data.toList.drop i) = some (c, n)) :
    readL s.data.toList = (readL (s.data.toList.drop (i + n))).map ((acc ++ [c]) ++ ·) := by
  rw [h, readL_some hf, List.drop_drop, Option.map_map]
  congr 1
  funext x
  simp

theorem rr_no {s : ByteArray} {i : Nat} {acc : List UInt8} (hi : i < s.size) (h : readL s.data.toList = (readL (s.data.toList.drop i)).map (acc ++ ·)) (hf : firstP (s.data.toList.drop i) = none) : readL s.data.toList = none := by
  rw [h, readL_none (by rw [drop_at s i hi]; simp) hf]
  rfl

end Go.Proofs.YtelcongbnmfegabGreatDoor

/-
  ValueTexts answers true, where each text is short enough to be written.
-/
namespace Go.Proofs.YtelcongbnmfegabGreatDoor
open Go.RowKit

theorem hexd_table : ((List.range 16).all fun k => decide (hexN (hexd k) = k)) = true := by decide
theorem hexN_hexd {k : Nat} (h : k < 16) : hexN (hexd k) = k := by
  have := List.all_eq_true.1 hexd_table k (List.mem_range.2 h)
  exact of_decide_eq_true this

theorem hexd_hexN {c : UInt8} (h : hexN c ≠ 16) : hexd (hexN c) = c := by
  rcases hexv_cases c with h1 | ⟨k, hk, _, rfl⟩
  · rw [hexN_eq, if_neg h] at h1
    omega
  · rw [hexN_hexd hk]

theorem read_write (l : List UInt8) : readL (writeL l) = some l := by
  induction l with
  | nil => exact readL_nil
  | cons c l ih =>
    rw [writeL_cons]
    cases hp : plainB (c.toNat : Int) with
    | true =>
      have e : writeC c = [c] := by unfold writeC; rw [if_pos hp]
      rw [e, List.cons_append, List.nil_append, readL_some (firstP_plain hp)]
      show (readL (writeL l)).map _ = _
      rw [ih]; rfl
    | false =>
      have e : writeC c = [37, hexd (c.toNat / 16), hexd (c.toNat % 16)] := by unfold writeC; rw [hp]; rfl
      have hc := c.toNat_lt
      have h1 : hexN (hexd (c.toNat / 16)) = c.toNat / 16 := hexN_hexd (by omega)
      have h2 : hexN (hexd (c.toNat % 16)) = c.toNat % 16 := hexN_hexd (by omega)
      have hs : UInt8.ofNat (16 * (c.toNat / 16) + c.toNat % 16) = c := by
        rw [show 16 * (c.toNat / 16) + c.toNat % 16 = c.toNat by omega, UInt8.ofNat_toNat]
      have hf : firstP (37 :: hexd (c.toNat / 16) :: hexd (c.toNat % 16) :: writeL l) = some (c, 3) := by
        rw [firstP_hex, h1, h2, if_neg (by omega), hs, if_neg (by rw [hp]; simp)]
      rw [e]
      show readL (37 :: hexd (c.toNat / 16) :: hexd (c.toNat % 16) :: writeL l) = _
      rw [readL_some hf]
      show (readL (writeL l)).map _ = _
      rw [ih]; rfl

theorem firstP_write {l : List UInt8} {c : UInt8} {n : Nat} (h : firstP l = some (c, n)) : writeC c = l.take n ∧ 0 < n := by
  cases l with
  | nil => cases h
  | cons x r =>
    cases hp : plainB (x.toNat : Int) with
    | true =>
      rw [firstP_plain hp] at h
      cases h
      refine ⟨?_, by omega⟩
      unfold writeC
      rw [if_pos hp]
      rfl
    | false =>
      by_cases hx : x = 37
      · subst hx
        match r, h with
        | [], h => rw [firstP_short (by simp)] at h; cases h
        | [_], h => rw [firstP_short (by simp)] at h; cases h
        | a :: b :: r, h =>
          rw [firstP_hex] at h
          by_cases h1 : hexN a = 16 ∨ hexN b = 16
          · rw [if_pos h1] at h; cases h
          · rw [if_neg h1] at h
            have ha := hexN_le a
            have hb := hexN_le b
            cases hq : plainB ((UInt8.ofNat (16 * hexN a + hexN b)).toNat : Int) with
            | true => rw [if_pos hq] at h; cases h
            | false =>
              rw [if_neg (by rw [hq]; simp)] at h
              cases h
              refine ⟨?_, by omega⟩
              unfold writeC
              rw [hq]
              have e : (UInt8.ofNat (16 * hexN a + hexN b)).toNat = 16 * hexN a + hexN b := by rw [UInt8.toNat_ofNat']; omega
              rw [e, show (16 * hexN a + hexN b) / 16 = hexN a by omega, show (16 * hexN a + hexN b) % 16 = hexN b by omega, hexd_hexN (by omega), hexd_hexN (by omega)]
              rfl
      · rw [firstP_sign hp hx] at h; cases h

theorem write_read : ∀ (k : Nat) (l m : List UInt8), l.length ≤ k → readL l = some m → writeL m = l
  | 0, l, m, hl, h => by
    obtain rfl := List.length_eq_zero_iff.1 (by omega : l.length = 0)
    rw [readL_nil] at h; cases h; rfl
  | k + 1, l, m, hl, h => by
    by_cases h0 : l = []
    · subst h0; rw [readL_nil] at h; cases h; rfl
    · cases hf : firstP l with
      | none => rw [readL_none h0 hf] at h; cases h
      | some x =>
        obtain ⟨c, n⟩ := x
        rw [readL_some hf] at h
        cases hr : readL (l.drop n) with
        | none => rw [hr] at h; cases h
        | some m' =>
          rw [hr] at h
          cases h
          obtain ⟨h1, h2⟩ := firstP_write hf
          have hlen : l.length ≠ 0 := fun e => h0 (List.length_eq_zero_iff.1 e)
          have := write_read k (l.drop n) m' (by rw [List.length_drop]; omega) hr
          show writeL (c :: m') = l
          rw [writeL_cons, this, h1, List.take_append_drop]

theorem read_back (t : ByteArray) (w : World) (hp : PlainAt w) (hs : t.size ≤ 46912496118442) :
    Calls Tryz.prog 58 #[.string ⟨(writeL t.data.toList).toArray⟩] w fun e w' => e = .returned (.tuple #[.string t, .int .i64 0]) ∧ Below w.heap.size w w' := by
  have hl := writeL_len t.data.toList
  have := read_any ⟨(writeL t.data.toList).toArray⟩ w hp (by
    show (writeL t.data.toList).toArray.size ≤ _
    simp at hl ⊢
    omega)
  rw [show (ByteArray.mk (writeL t.data.toList).toArray).data.toList = writeL t.data.toList by simp, read_write] at this
  have e : (⟨t.data.toList.toArray⟩ : ByteArray) = t := by obtain ⟨⟨l⟩⟩ := t; rfl
  simp only [readV, e] at this
  exact this

theorem write_back (t : ByteArray) (m : List UInt8) (w : World) (hp : PlainAt w) (hs : t.size ≤ 46912496118442) (h : readL t.data.toList = some m) :
    Calls Tryz.prog 50 #[.string ⟨m.toArray⟩] w fun e w' => e = .returned (.string t) ∧ Below w.heap.size w w' := by
  have hl := readL_len _ _ _ (Nat.le_refl _) h
  have := write_any ⟨m.toArray⟩ w hp (by
    show m.toArray.size ≤ _
    simp at hl ⊢
    omega)
  rw [show (ByteArray.mk m.toArray).data.toList = m by simp, write_read _ _ _ (Nat.le_refl _) h] at this
  have e : (⟨t.data.toList.toArray⟩ : ByteArray) = t := by obtain ⟨⟨l⟩⟩ := t; rfl
  rw [e] at this
  exact this

end Go.Proofs.YtelcongbnmfegabGreatDoor

/-
  A value's line is read back as the value.
-/
namespace Go.Proofs.YtelcongbnmfegabGreatDoor
open Go.RowKit Go.Lib

theorem ix_here {a b : List UInt8} {c : UInt8} (h : c ∉ a) : Lib.indexByte (a ++ c :: b) c = (a.length : Int) := by
  rcases ix_cases (a ++ c :: b) c with ⟨_, h2⟩ | ⟨i, h1, h2, h3, h4⟩
  · exact absurd (by simp) h2
  · have h5 := ix_split _ c i h2 h3
    have := (ix_uniq h5 h h4).1
    rw [h1, this, List.length_take]
    omega

theorem ix_none {a : List UInt8} {c : UInt8} (h : c ∉ a) : Lib.indexByte a c = -1 := by
  rcases ix_cases a c with ⟨h1, _⟩ | ⟨i, _, h2, h3, _⟩
  · exact h1
  · exact absurd (List.mem_of_getElem? h3) h

theorem split_join : ∀ ws : List (List UInt8), ws ≠ [] → (∀ w ∈ ws, (32 : UInt8) ∉ w) → splitL (Lib.join ws [32]) = ws
  | [], h, _ => absurd rfl h
  | [w], _, h => by
    rw [Lib.join_one]
    exact splitL_no (ix_none (h w (by simp)))
  | w :: v :: ws, _, h => by
    have ih := split_join (v :: ws) (by simp) (fun x hx => h x (by simp [hx]))
    rw [join_two, splitL_yes (ix_here (h w (by simp)))]
    rw [List.take_left' rfl]
    congr 1
    rw [show w ++ 32 :: Lib.join (v :: ws) [32] = (w ++ [32]) ++ Lib.join (v :: ws) [32] by simp, List.drop_left' (by simp)]
    exact ih

theorem noblank_mem {l : List UInt8} (h : blanks l = 0) : (32 : UInt8) ∉ l := by
  intro hm
  have := List.countP_eq_zero.1 h 32 hm
  simp at this

theorem field_noeq {l : List UInt8} (h : fieldB l = true) : (61 : UInt8) ∉ l := by
  intro hc
  unfold fieldB spell at h
  cases l with
  | nil => simp at hc
  | cons x r =>
    simp only [Bool.and_eq_true, List.all_eq_true] at h
    have key : lodB ((61 : UInt8).toNat : Int) = true ∨ smallB ((61 : UInt8).toNat : Int) = true := by
      rcases List.mem_cons.1 hc with e | hc
      · exact Or.inr (by rw [e]; exact h.1.2)
      · exact Or.inl (h.2 _ hc)
    rcases key with k | k
    · revert k; decide
    · revert k; decide

theorem word_back {n t : ByteArray} (h : fieldB n.data.toList = true) : wordO (wordOf n t).data.toList = some (n.data.toList, t.data.toList) := by
  rw [word_data, List.append_assoc, List.singleton_append]
  have e := ix_here (b := writeL t.data.toList) (field_noeq h)
  unfold wordO
  rw [e, if_neg (by omega), Int.toNat_natCast, List.take_left' rfl]
  rw [show n.data.toList ++ 61 :: writeL t.data.toList = (n.data.toList ++ [61]) ++ writeL t.data.toList by simp, List.drop_left' (by simp), read_write]
  rfl

/-- Each text a field by itself. -/
def singles (fs : List Fld) : List Fld := fs.flatMap fun f => f.2.map fun t => (f.1, [t])

theorem ba_back (b : ByteArray) : (⟨b.data.toList.toArray⟩ : ByteArray) = b := by obtain ⟨⟨l⟩⟩ := b; rfl

theorem words_back (fs : List Fld) (h : ∀ f ∈ fs, fieldB f.1.data.toList = true) : fieldsW ((wordsL fs).map (·.data.toList)) = some (singles fs) := by
  induction fs with
  | nil => rfl
  | cons f fs ih =>
    have hf := h f (by simp)
    have ih := ih fun g hg => h g (by simp [hg])
    have e1 : fieldsW ((wordsF f).map (·.data.toList)) = some (f.2.map fun t => (f.1, [t])) := by
      unfold wordsF
      generalize f.2 = ts
      induction ts with
      | nil => rfl
      | cons t ts iht =>
        simp only [List.map_cons, fieldsW]
        rw [word_back hf]
        simp only
        rw [iht, ba_back, ba_back]
        rfl
    unfold wordsL at ih ⊢
    rw [List.flatMap_cons, List.map_append, fieldsW_append, e1, ih]
    rfl

theorem single_filter (f : Fld) (c : ByteArray) : ((f.2.map fun t => ((f.1, [t]) : Fld)).filter fun x => decide (x.1 = c)).flatMap (·.2) = if f.1 = c then f.2 else [] := by
  obtain ⟨n, ts⟩ := f
  simp only
  by_cases e : n = c
  · rw [if_pos e, List.filter_eq_self.2 (fun x hx => by obtain ⟨t, _, rfl⟩ := List.mem_map.1 hx; simp [e])]
    induction ts with
    | nil => rfl
    | cons t ts ih => rw [List.map_cons, List.flatMap_cons, ih]; rfl
  · rw [if_neg e, List.filter_eq_nil_iff.2 (fun x hx => by obtain ⟨t, _, rfl⟩ := List.mem_map.1 hx; simp [e])]
    rfl

theorem txt_singles (fs : List Fld) (c : ByteArray) : txtOf (singles fs) c = txtOf fs c := by
  induction fs with
  | nil => rfl
  | cons f fs ih =>
    unfold txtOf singles at *
    rw [List.flatMap_cons, List.filter_append, List.flatMap_append, single_filter, ih]
    by_cases e : f.1 = c
    · rw [if_pos e, List.filter_cons_of_pos (by simp [e]), List.flatMap_cons]
    · rw [if_neg e, List.filter_cons_of_neg (by simp [e]), List.nil_append]

theorem may_rising {fs : List Fld} (h : mayB fs = true) : Rising fs := by
  have hs := (may_parts h).2
  have step : ∀ i, (hi : i + 1 < fs.length) → ltB (fs[i]).1 (fs[i + 1]).1 = true := fun i hi => by
    have := hs (i + 1) hi
    unfold stepOk at this
    rw [Bool.and_eq_true, Bool.or_eq_true] at this
    rcases this.2 with h | h
    · have := of_decide_eq_true h; omega
    · rw [ltN_eq, Nat.add_sub_cancel, List.getD_eq_getElem?_getD, List.getD_eq_getElem?_getD, List.getElem?_eq_getElem hi, List.getElem?_eq_getElem (show i < fs.length by omega)] at h
      exact h
  refine List.pairwise_iff_getElem.2 fun i j hi hj hij => ?_
  induction j with
  | zero => omega
  | succ j ih =>
    by_cases e : i = j
    · subst e; exact step i hj
    · exact ltB_trans (ih (by omega) (by omega)) (step j hj)

theorem rising_txt {fs : List Fld} (h : Rising fs) : ∀ f ∈ fs, f.2 = txtOf fs f.1 := by
  intro f hf
  obtain ⟨a, b, rfl⟩ := List.append_of_mem hf
  have hr := List.pairwise_append.1 h
  have hr2 := List.pairwise_cons.1 hr.2.1
  have ha : a.filter (fun x => decide (x.1 = f.1)) = [] := List.filter_eq_nil_iff.2 fun x hx e => ltB_ne (hr.2.2 x hx f (by simp)) (by simpa using e)
  have hb : b.filter (fun x => decide (x.1 = f.1)) = [] := List.filter_eq_nil_iff.2 fun x hx e => ltB_ne (hr2.1 x hx) (Eq.symm (of_decide_eq_true e))
  unfold txtOf
  rw [List.filter_append, ha, List.filter_cons_of_pos (by simp), hb]
  simp

theorem groups_self {fs : List Fld} (h : Rising fs) : Groups fs fs := ⟨h, fun _ => Iff.rfl, rising_txt h⟩

theorem groups_singles {fs : List Fld} (h : Rising fs) (hne : ∀ f ∈ fs, f.2 ≠ []) : Groups (singles fs) fs := by
  refine ⟨h, fun c => ⟨?_, ?_⟩, fun f hf => ?_⟩
  · rintro ⟨f, hf, rfl⟩
    cases ht : f.2 with
    | nil => exact absurd ht (hne f hf)
    | cons t ts => exact ⟨(f.1, [t]), List.mem_flatMap.2 ⟨f, hf, List.mem_map.2 ⟨t, by rw [ht]; simp, rfl⟩⟩, rfl⟩
  · rintro ⟨x, hx, rfl⟩
    obtain ⟨f, hf, hx⟩ := List.mem_flatMap.1 hx
    obtain ⟨t, _, rfl⟩ := List.mem_map.1 hx
    exact ⟨f, hf, rfl⟩
  · rw [txt_singles]; exact rising_txt h f hf

theorem fits_ne {f : Fld} (h : fitsB f = true) : f.2 ≠ [] := fun e => by
  have := (fits_parts h).2.1
  rw [e] at this; simp at this

theorem may_nobare {fs : List Fld} (h : mayB fs = true) : fs.any bareB = false := by
  rw [List.any_eq_false]
  intro f hf hb
  exact fits_ne (may_fits h f hf) (List.isEmpty_iff.1 hb)

/-- Words, or none of the empty text. -/
def fieldsP (l : List UInt8) : Option (List Fld) := if l = [] then some [] else fieldsW (splitL l)
def codeP (l : List UInt8) : Int := match fieldsP l with
  | none => 4
  | some fs => codeF fs
def ansP (l : List UInt8) : List Fld := match fieldsP l with
  | none => []
  | some fs => ansF fs

theorem norm_singles {fs : List Fld} (h : mayB fs = true) : codeF (singles fs) = 0 ∧ ansF (singles fs) = fs := by
  have hn : normF (singles fs) = fs := groups_unique (normF_groups _) (groups_singles (may_rising h) fun f hf => fits_ne (may_fits h f hf))
  have hm : (singles fs).any misB = false := by
    rw [List.any_eq_false]
    intro x hx
    obtain ⟨f, hf, hx⟩ := List.mem_flatMap.1 hx
    obtain ⟨t, _, rfl⟩ := List.mem_map.1 hx
    have := (fits_parts (may_fits h f hf)).2.2.2.2
    simp [misB, this]
  have hc : codeF (singles fs) = 0 := by unfold codeF; rw [hm, hn, may_nobare h, h]; rfl
  exact ⟨hc, by unfold ansF; rw [hc, hn]; rfl⟩

theorem line_back {fs : List Fld} (h : mayB fs = true) : codeP (lineOf fs).data.toList = 0 ∧ ansP (lineOf fs).data.toList = fs := by
  have e0 : (lineOf fs).data.toList = Lib.join ((wordsL fs).map (·.data.toList)) [32] := by
    show (Lib.join ((wordsL fs).map (·.data.toList)) [32]).toArray.toList = _
    rw [List.toList_toArray]
  have hp : fieldsP (lineOf fs).data.toList = some (singles fs) := by
    unfold fieldsP
    by_cases hl : (lineOf fs).data.toList = []
    · rw [if_pos hl]
      have h0 : (lineOf fs).size = 0 := by
        have := congrArg List.length hl
        simpa using this
      have h1 := (line_empty fs).1 h0
      have h2 : fs = [] := by
        cases fs with
        | nil => rfl
        | cons f fs =>
          have := (fits_parts (may_fits h f (by simp))).2.1
          simp only [totF, List.map_cons, List.sum_cons] at h1
          omega
      subst h2
      rfl
    · rw [if_neg hl, e0, split_join]
      · exact words_back fs fun f hf => (fits_parts (may_fits h f hf)).2.2.2.2
      · intro e
        rw [e0, e] at hl
        exact hl rfl
      · intro w hw
        obtain ⟨x, hx, rfl⟩ := List.mem_map.1 hw
        obtain ⟨f, hf, hx⟩ := List.mem_flatMap.1 hx
        obtain ⟨t, _, rfl⟩ := List.mem_map.1 hx
        exact noblank_mem (word_noblank (fits_parts (may_fits h f hf)).2.2.2.2)
  unfold codeP ansP
  rw [hp]
  exact norm_singles h

theorem codeF_nil : codeF [] = 0 := by decide
theorem ansF_nil : ansF [] = [] := by decide

def PPost (w : World) (l : List UInt8) (e : Ending) (w' : World) : Prop :=
  (∃ u o, e = .returned (.tuple #[u, .int .i64 (codeP l)]) ∧ OwnXs w.heap.size w' u o ∧ o.map Fx.fld = ansP l) ∧ Below w.heap.size w w'

theorem ansP_fit {d : List Fx} {l : List UInt8} (hm : d.map Fx.fld = ansP l) : FitX d := by
  unfold ansP at hm
  cases h : fieldsP l with
  | none =>
    rw [h] at hm
    rw [List.map_eq_nil_iff] at hm
    subst hm
    exact ⟨by unfold maxLen; simp, fun x hx => by simp at hx⟩
  | some fs => rw [h] at hm; exact ans_fit hm

end Go.Proofs.YtelcongbnmfegabGreatDoor

/-
  The contracts of the reference's Words, ParseWords and Parse.
-/
namespace Go.Proofs.YtelcongbnmfegabGreatDoor
open Go.RowKit Go.Lib

def wordsAns (l : List UInt8) : List (List UInt8) := if l = [] then [] else splitL l

def WdPost (w : World) (l : List UInt8) (e : Ending) (w' : World) : Prop :=
  (∃ v ws, e = .returned v ∧ OwnT w.heap.size w' v ws ∧ ws.map (·.data.toList) = wordsAns l ∧ ws.length ≤ l.length + 1 ∧ ∀ x ∈ ws, x.size ≤ l.length) ∧ Below w.heap.size w w'

def WdSt (w : World) (s : ByteArray) (i f : Nat) (v : Value) (wr : World) : Prop :=
  ∃ ws : List ByteArray, OwnT w.heap.size wr v ws ∧ ws.length ≤ i ∧ (∀ x ∈ ws, x.size ≤ s.size) ∧ Below w.heap.size w wr ∧
    ((i ≤ s.size ∧ f ≤ i ∧ splitL s.data.toList = ws.map (·.data.toList) ++ splitL (s.data.toList.drop f) ∧ (32 : UInt8) ∉ (s.data.toList.drop f).take (i - f)) ∨ (i = s.size + 1 ∧ splitL s.data.toList = ws.map (·.data.toList)))

theorem ext_mid (s : ByteArray) (a b : Nat) : (s.extract a b).data.toList = (s.data.toList.drop a).take (b - a) := by
  rw [Lib.extract_data]

theorem mid_size (s : ByteArray) (a b : Nat) : (s.extract a b).size ≤ s.size := by
  simp; omega

theorem drop_mid {l : List UInt8} {f i : Nat} (hf : f ≤ i) : l.drop f = (l.drop f).take (i - f) ++ l.drop i := by
  have h : l.drop i = (l.drop f).drop (i - f) := by rw [List.drop_drop]; congr 1; omega
  rw [h, List.take_append_drop]

theorem split_at {l : List UInt8} {f i : Nat} (hf : f ≤ i) (hi : i < l.length) (hc : l[i] = 32) (hn : (32 : UInt8) ∉ (l.drop f).take (i - f)) : splitL (l.drop f) = (l.drop f).take (i - f) :: splitL (l.drop (i + 1)) := by
  have e : l.drop f = (l.drop f).take (i - f) ++ 32 :: l.drop (i + 1) := by
    conv => lhs; rw [drop_mid hf, List.drop_eq_getElem_cons hi, hc]
  have hx : Lib.indexByte (l.drop f) 32 = (((l.drop f).take (i - f)).length : Int) := by
    conv => lhs; rw [e]
    exact ix_here hn
  have hlen : ((l.drop f).take (i - f)).length = i - f := by rw [List.length_take, List.length_drop]; omega
  rw [hlen] at hx
  rw [splitL_yes hx, List.drop_drop]
  congr 3
  omega

theorem split_last {l : List UInt8} {f : Nat} (hn : (32 : UInt8) ∉ (l.drop f).take (l.length - f)) : splitL (l.drop f) = [l.drop f] := by
  rw [List.take_of_length_le (by rw [List.length_drop]; omega)] at hn
  exact splitL_no (ix_none hn)

theorem take_next {l : List UInt8} {f i : Nat} (hf : f ≤ i) (hi : i < l.length) (hc : l[i] ≠ 32) (hn : (32 : UInt8) ∉ (l.drop f).take (i - f)) : (32 : UInt8) ∉ (l.drop f).take (i + 1 - f) := by
  have hl : i - f < (l.drop f).length := by rw [List.length_drop]; omega
  rw [show i + 1 - f = (i - f) + 1 by omega, List.take_succ_eq_append_getElem hl, List.mem_append, List.mem_singleton, List.getElem_drop]
  rintro (h | h)
  · exact hn h
  · apply hc
    rw [h]
    congr 1
    omega

theorem txt_new (w : World) (t : ByteArray) : ∀ m u, ([.string t] : List Value)[m]? = some u → (w.alloc (.cells #[.string t] 9)).cell? ((⟨w.heap.size, 0, none⟩ : Addr).add m) = some u := by
  intro m u hm
  match m, hm with
  | 0, hm => simp at hm; subst hm; simp [Addr.add]

theorem txt_one (t : ByteArray) : ∀ u ∈ ([.string t] : List Value), u.oneCell' = true := by
  intro u hu; simp at hu; subst hu; rfl

theorem own_snoc {n0 : Nat} {w : World} {v : Value} {ts : List ByteArray} {t : ByteArray} (h : w.ownsRow n0 9 1 v (ts.length + 1) (ts.map Value.string ++ [.string t])) : OwnT n0 w v (ts ++ [t]) := by
  unfold OwnT
  simp only [List.length_append, List.length_cons, List.length_nil, List.map_append, List.map_cons, List.map_nil]
  exact h

/-- What ParseWords answers. -/
def PwPost (w : World) (ls : List (List UInt8)) (e : Ending) (w' : World) : Prop :=
  ((fieldsW ls = none ∧ e = .returned (.tuple #[.slice none 0 0, .int .i64 4])) ∨
   ∃ fs, fieldsW ls = some fs ∧ ∃ u o, e = .returned (.tuple #[u, .int .i64 (codeF fs)]) ∧ OwnXs w.heap.size w' u o ∧ o.map Fx.fld = ansF fs) ∧ Below w.heap.size w w'

def PwSt (w : World) (ls : List (List UInt8)) (i : Nat) (v : Value) (wr : World) : Prop :=
  ∃ d fs, OwnXs w.heap.size wr v d ∧ d.map Fx.fld = fs ∧ fieldsW (ls.take i) = some fs ∧ d.length = i ∧ Below w.heap.size w wr

theorem fieldsW_no {a b : List (List UInt8)} {l : List UInt8} (h : wordO l = none) : fieldsW (a ++ l :: b) = none := by
  rw [fieldsW_append]
  cases fieldsW a with
  | none => rfl
  | some x => simp [fieldsW, h]

theorem fieldsW_snoc {a : List (List UInt8)} {l n t : List UInt8} {fs : List Fld} (ha : fieldsW a = some fs) (h : wordO l = some (n, t)) : fieldsW (a ++ [l]) = some (fs ++ [(⟨n.toArray⟩, [⟨t.toArray⟩])]) := by
  rw [fieldsW_append, ha]
  simp [fieldsW, h]

theorem fieldsP_words (l : List UInt8) : fieldsW (wordsAns l) = fieldsP l := by
  unfold wordsAns fieldsP
  split
  · rfl
  · rfl

theorem pw_plain {N : Nat} {l : List UInt8} {e : Ending} {w' : World} (h : (fieldsW (wordsAns l) = none ∧ e = .returned (.tuple #[.slice none 0 0, .int .i64 4])) ∨
   ∃ fs, fieldsW (wordsAns l) = some fs ∧ ∃ u o, e = .returned (.tuple #[u, .int .i64 (codeF fs)]) ∧ OwnXs N w' u o ∧ o.map Fx.fld = ansF fs) : ∃ u o, e = .returned (.tuple #[u, .int .i64 (codeP l)]) ∧ OwnXs N w' u o ∧ o.map Fx.fld = ansP l := by
  rw [fieldsP_words] at h
  unfold codeP ansP
  rcases h with ⟨h, rfl⟩ | ⟨fs, h, hr⟩
  · rw [h]
    exact ⟨_, [], rfl, own_none _ _, rfl⟩
  · rw [h]
    exact hr

end Go.Proofs.YtelcongbnmfegabGreatDoor

/-
  The plain mathematics of edits: their words and lines, there and back.
-/
namespace Go.Proofs.YtelcongbnmfegabGreatDoor
open Go.RowKit Go.Lib

/-- The word of an edit. -/
def wordE (x : Ed) : ByteArray := x.2.1 ++ signS x.1 ++ ⟨(writeL x.2.2.data.toList).toArray⟩
/-- The line of edits. -/
def lineE (l : List Ed) : ByteArray := lineB (l.map wordE)

theorem wordE_data (x : Ed) : (wordE x).data.toList = x.2.1.data.toList ++ ((signS x.1).data.toList ++ writeL x.2.2.data.toList) := by
  unfold wordE
  simp only [data_append]
  simp

theorem lineE_first (x : Ed) : lineB [wordE x] = ⟨#[]⟩ ++ x.2.1 ++ signS x.1 ++ ⟨(writeL x.2.2.data.toList).toArray⟩ := by
  refine ba_eq ?_
  rw [lineB_data, List.map_cons, List.map_nil, Lib.join_one, wordE_data]
  simp only [data_append]
  simp

theorem lineE_next {ws : List ByteArray} (h : ws ≠ []) (x : Ed) : lineB (ws ++ [wordE x]) = lineB ws ++ ⟨#[32]⟩ ++ x.2.1 ++ signS x.1 ++ ⟨(writeL x.2.2.data.toList).toArray⟩ := by
  refine ba_eq ?_
  rw [lineB_data, List.map_append, List.map_cons, List.map_nil, join_snoc _ _ (by simpa using h)]
  simp only [data_append, lineB_data, wordE_data]
  simp

theorem sign_size (k : Int) : (signS k).size ≤ 2 ∧ 1 ≤ (signS k).size := by
  unfold signS
  repeat' split
  all_goals exact ⟨by decide, by decide⟩

theorem wordE_len {x : Ed} (h1 : namedE x = true) (h2 : shortE x = true) : (wordE x).size ≤ 418 := by
  have h3 : x.2.1.size ≤ 32 := by simpa using fieldB_len h1
  have h4 := writeL_len x.2.2.data.toList
  have h5 : x.2.2.data.toList.length = x.2.2.size := by simp
  have h6 := of_decide_eq_true h2
  have h7 := sign_size x.1
  have h8 : (⟨(writeL x.2.2.data.toList).toArray⟩ : ByteArray).size = (writeL x.2.2.data.toList).length := by show (writeL x.2.2.data.toList).toArray.size = _; simp
  unfold wordE
  rw [ByteArray.size_append, ByteArray.size_append, h8]
  omega

theorem lineE_size {ws : List ByteArray} (hn : ws.length ≤ 16) (hs : ∀ x ∈ ws, x.size ≤ 418) : (lineB ws).size ≤ 6704 := by
  have e : (lineB ws).size = (Lib.join (ws.map (·.data.toList)) [32]).length := by rw [← lineB_data]; simp
  have h1 := join_size 418 (ws.map (·.data.toList)) (fun w hw => by
    obtain ⟨x, hx, rfl⟩ := List.mem_map.1 hw
    simpa using hs x hx)
  rw [List.length_map] at h1
  have h3 : ws.length * (418 + 1) ≤ 16 * (418 + 1) := Nat.mul_le_mul_right _ hn
  omega

theorem wrap_i64E (n : Int) (h1 : -9223372036854775808 ≤ n) (h2 : n ≤ 9223372036854775807) : IntKind.i64.wrap n = n := by
  simp [IntKind.wrap, IntKind.signed, IntKind.bits]; omega

theorem wrapEqE (x : Int) : IntKind.i64.wrap x = wrap64 x := by rw [IntKind.wrap_i64]; unfold wrap64; rfl

def isK (c : UInt8) : Bool := kindN (c.toNat : Int) != 0

/-- The edit of a word, if it has one. -/
def editO (l : List UInt8) : Option Ed :=
  match l.dropWhile (fun c => !isK c) with
  | [] => none
  | c :: r =>
    if kindN (c.toNat : Int) = 4 then (if r = [] then some (4, ⟨(l.takeWhile (fun c => !isK c)).toArray⟩, ⟨#[]⟩) else none)
    else match r with
      | [] => none
      | d :: r2 => if d = 61 then (match readL r2 with
        | none => none
        | some t => some (kindN (c.toNat : Int), ⟨(l.takeWhile (fun c => !isK c)).toArray⟩, ⟨t.toArray⟩)) else none

def editsW : List (List UInt8) → Option (List Ed)
  | [] => some []
  | l :: ls => match editO l with
    | none => none
    | some x => (editsW ls).map (x :: ·)

theorem editsW_append (a b : List (List UInt8)) : editsW (a ++ b) = (editsW a).bind fun xs => (editsW b).map (xs ++ ·) := by
  induction a with
  | nil => simp [editsW]
  | cons l a ih =>
    simp only [List.cons_append, editsW, ih]
    cases editO l with
    | none => rfl
    | some x =>
      cases editsW a with
      | none => rfl
      | some xs => cases editsW b <;> rfl

theorem editsW_no {a b : List (List UInt8)} {l : List UInt8} (h : editO l = none) : editsW (a ++ l :: b) = none := by
  rw [editsW_append]
  cases editsW a with
  | none => rfl
  | some x => simp [editsW, h]

theorem editsW_snoc {a : List (List UInt8)} {l : List UInt8} {xs : List Ed} {x : Ed} (ha : editsW a = some xs) (h : editO l = some x) : editsW (a ++ [l]) = some (xs ++ [x]) := by
  rw [editsW_append, ha]
  simp [editsW, h]

theorem k_split {l : List UInt8} {k : Nat} (hk : k < l.length) (h : ∀ d ∈ l.take k, isK d = false) (h2 : isK l[k] = true) :
    l.takeWhile (fun c => !isK c) = l.take k ∧ l.dropWhile (fun c => !isK c) = l[k] :: l.drop (k + 1) := by
  have e : l = l.take k ++ l[k] :: l.drop (k + 1) := by
    conv => lhs; rw [← List.take_append_drop k l, List.drop_eq_getElem_cons hk]
  have hp : ∀ d ∈ l.take k, (!isK d) = true := fun d hd => by rw [h d hd]; rfl
  constructor
  · conv => lhs; rw [e]
    rw [List.takeWhile_append_of_pos hp, List.takeWhile_cons, h2]
    simp
  · conv => lhs; rw [e]
    rw [List.dropWhile_append_of_pos hp, List.dropWhile_cons, h2]
    simp

theorem k_none {l : List UInt8} (h : ∀ d ∈ l, isK d = false) : editO l = none := by
  have : l.dropWhile (fun c => !isK c) = [] := by
    induction l with
    | nil => rfl
    | cons c l ih =>
      rw [List.dropWhile_cons, h c (by simp)]
      simpa using ih fun d hd => h d (by simp [hd])
  unfold editO
  rw [this]

theorem kind_sign {c : UInt8} (h : isK c = true) : c = 58 ∨ c = 43 ∨ c = 45 ∨ c = 126 ∨ c = 61 := by
  unfold isK at h
  rw [bne_iff_ne] at h
  unfold kindN at h
  have key : ∀ k : UInt8, (c.toNat : Int) = (k.toNat : Int) → c = k := fun k e => UInt8.toNat_inj.1 (by omega)
  by_cases h1 : (c.toNat : Int) = 58
  · exact Or.inl (key 58 h1)
  by_cases h2 : (c.toNat : Int) = 43
  · exact Or.inr (Or.inl (key 43 h2))
  by_cases h3 : (c.toNat : Int) = 45
  · exact Or.inr (Or.inr (Or.inl (key 45 h3)))
  by_cases h4 : (c.toNat : Int) = 126
  · exact Or.inr (Or.inr (Or.inr (Or.inl (key 126 h4))))
  by_cases h5 : (c.toNat : Int) = 61
  · exact Or.inr (Or.inr (Or.inr (Or.inr (key 61 h5))))
  rw [if_neg h1, if_neg h2, if_neg h3, if_neg h4, if_neg h5] at h
  exact absurd rfl h

/-- The sign of what stands at A is whole, and nothing stands behind a "~". -/
def okW (x : ByteArray) (A : Nat) (k : Int) : Bool := decide ((signS k).size ≤ x.size - A) && decide (x.extract A (A + (signS k).size) = signS k) && (decide (k ≠ 4) || decide (x.size - A ≤ 1))

theorem ext_two (x : ByteArray) (A n : Nat) : (x.extract A (A + n)).data.toList = (x.data.toList.drop A).take n := by
  have := ext_mid x A (A + n)
  rw [this]
  congr 1
  omega

theorem edit_at {x : ByteArray} {A : Nat} (hA : A < x.size) (hno : ∀ d ∈ x.data.toList.take A, isK d = false) (hc : isK x[A] = true) :
    editO x.data.toList = if okW x A (kindN (x[A].toNat : Int)) then (match readL (x.data.toList.drop (A + (signS (kindN (x[A].toNat : Int))).size)) with
      | none => none
      | some t => some (kindN (x[A].toNat : Int), ⟨(x.data.toList.take A).toArray⟩, ⟨t.toArray⟩)) else none := by
  have hl : x.data.toList.length = x.size := by simp
  have hAl : A < x.data.toList.length := by omega
  have hb : x.data.toList[A] = x[A] := rfl
  obtain ⟨e1, e2⟩ := k_split hAl hno (by rw [hb]; exact hc)
  rw [hb] at e2
  have hdr : x.data.toList.drop A = x[A] :: x.data.toList.drop (A + 1) := by rw [List.drop_eq_getElem_cons hAl, hb]
  have hlr : (x.data.toList.drop (A + 1)).length = x.size - A - 1 := by rw [List.length_drop, hl]; omega
  have hd2 : x.data.toList.drop (A + 2) = (x.data.toList.drop (A + 1)).tail := by rw [List.tail_drop]
  unfold editO
  rw [e2, e1]
  simp only
  generalize hr : x.data.toList.drop (A + 1) = r at *
  have hex : ∀ n, (x.extract A (A + n)).data.toList = (x[A] :: r).take n := fun n => by rw [ext_two, hdr]
  have heq : ∀ s : ByteArray, x.extract A (A + s.size) = s ↔ (x[A] :: r).take s.size = s.data.toList := fun s => by
    rw [← hex]
    exact ⟨fun h => by rw [h], fun h => ba_eq h⟩
  generalize x[A] = c at *
  rcases kind_sign hc with rfl | rfl | rfl | rfl | rfl
  all_goals
    unfold okW
  · have hk : kindN ((58 : UInt8).toNat : Int) = 1 := rfl
    have hs : signS 1 = ⟨#[58, 61]⟩ := rfl
    have hs2 : (⟨#[58, 61]⟩ : ByteArray).size = 2 := rfl
    have h2 := heq ⟨#[58, 61]⟩
    rw [hs2] at h2
    simp only [hk, hs, hs2, h2, hd2]
    cases r with
    | nil => simp at hlr ⊢
    | cons d r =>
      have h1 : 2 ≤ x.size - A := by simp at hlr; omega
      by_cases e : d = 61 <;> simp [e, h1]
  · have hk : kindN ((43 : UInt8).toNat : Int) = 2 := rfl
    have hs : signS 2 = ⟨#[43, 61]⟩ := rfl
    have hs2 : (⟨#[43, 61]⟩ : ByteArray).size = 2 := rfl
    have h2 := heq ⟨#[43, 61]⟩
    rw [hs2] at h2
    simp only [hk, hs, hs2, h2, hd2]
    cases r with
    | nil => simp at hlr ⊢
    | cons d r =>
      have h1 : 2 ≤ x.size - A := by simp at hlr; omega
      by_cases e : d = 61 <;> simp [e, h1]
  · have hk : kindN ((45 : UInt8).toNat : Int) = 3 := rfl
    have hs : signS 3 = ⟨#[45, 61]⟩ := rfl
    have hs2 : (⟨#[45, 61]⟩ : ByteArray).size = 2 := rfl
    have h2 := heq ⟨#[45, 61]⟩
    rw [hs2] at h2
    simp only [hk, hs, hs2, h2, hd2]
    cases r with
    | nil => simp at hlr ⊢
    | cons d r =>
      have h1 : 2 ≤ x.size - A := by simp at hlr; omega
      by_cases e : d = 61 <;> simp [e, h1]
  · have hk : kindN ((126 : UInt8).toNat : Int) = 4 := rfl
    have hs : signS 4 = ⟨#[126]⟩ := rfl
    have hs2 : (⟨#[126]⟩ : ByteArray).size = 1 := rfl
    have h2 := heq ⟨#[126]⟩
    rw [hs2] at h2
    simp only [hk, hs, hs2, h2, hr]
    have h1 : 1 ≤ x.size - A := by omega
    cases r with
    | nil =>
      have h3 : x.size - A ≤ 1 := by simp at hlr; omega
      simp [h1, h3, readL_nil]
    | cons d r =>
      have h3 : ¬ x.size - A ≤ 1 := by simp at hlr; omega
      simp [h3]
  · have hk : kindN ((61 : UInt8).toNat : Int) = 5 := rfl
    have hs : signS 5 = ⟨#[61, 61]⟩ := rfl
    have hs2 : (⟨#[61, 61]⟩ : ByteArray).size = 2 := rfl
    have h2 := heq ⟨#[61, 61]⟩
    rw [hs2] at h2
    simp only [hk, hs, hs2, h2, hd2]
    cases r with
    | nil => simp at hlr ⊢
    | cons d r =>
      have h1 : 2 ≤ x.size - A := by simp at hlr; omega
      by_cases e : d = 61 <;> simp [e, h1]

theorem field_nokind {l : List UInt8} (h : fieldB l = true) : ∀ c ∈ l, isK c = false := by
  intro c hc
  unfold fieldB spell at h
  cases l with
  | nil => simp at hc
  | cons x r =>
    simp only [Bool.and_eq_true, List.all_eq_true] at h
    have key : lodB (c.toNat : Int) = true ∨ smallB (c.toNat : Int) = true := by
      rcases List.mem_cons.1 hc with e | hc
      · exact Or.inr (by rw [e]; exact h.1.2)
      · exact Or.inl (h.2 _ hc)
    cases ho : isK c with
    | false => rfl
    | true =>
      rcases kind_sign ho with rfl | rfl | rfl | rfl | rfl <;> (rcases key with k | k <;> (revert k; decide))

theorem editO_back {x : Ed} (h1 : namedE x = true) (h2 : rightE x = true) : editO (wordE x).data.toList = some x := by
  obtain ⟨k, n, t⟩ := x
  have hr : (1 ≤ k ∧ k ≤ 5) ∧ (k ≠ 4 ∨ t.size = 0) := by
    unfold rightE at h2
    simp only [Bool.and_eq_true, Bool.or_eq_true, decide_eq_true_eq] at h2
    exact h2
  obtain ⟨⟨hk1, hk5⟩, hk4⟩ := hr
  have hno := field_nokind h1
  simp only at hno
  have key : ∀ (c : UInt8) (r : List UInt8), isK c = true → (n.data.toList ++ c :: r).takeWhile (fun c => !isK c) = n.data.toList ∧ (n.data.toList ++ c :: r).dropWhile (fun c => !isK c) = c :: r := fun c r hc => by
    have hkl : n.data.toList.length < (n.data.toList ++ c :: r).length := by simp
    have hg : (n.data.toList ++ c :: r)[n.data.toList.length] = c := by simp
    obtain ⟨e1, e2⟩ := k_split hkl (by rw [List.take_left' rfl]; exact hno) (by rw [hg]; exact hc)
    rw [List.take_left' rfl] at e1
    rw [hg, show n.data.toList ++ c :: r = (n.data.toList ++ [c]) ++ r by simp, List.drop_left' (by simp)] at e2
    refine ⟨e1, ?_⟩
    rw [show n.data.toList ++ c :: r = (n.data.toList ++ [c]) ++ r by simp]
    exact e2
  have hcs : k = 1 ∨ k = 2 ∨ k = 3 ∨ k = 4 ∨ k = 5 := by omega
  have hback : (⟨n.data.toList.toArray⟩ : ByteArray) = n := ba_back n
  have htb : (⟨t.data.toList.toArray⟩ : ByteArray) = t := ba_back t
  rw [wordE_data]
  simp only
  rcases hcs with rfl | rfl | rfl | rfl | rfl
  · obtain ⟨e1, e2⟩ := key 58 (61 :: writeL t.data.toList) rfl
    rw [show (signS 1).data.toList ++ writeL t.data.toList = 58 :: 61 :: writeL t.data.toList from rfl]
    unfold editO
    rw [e1, e2]
    simp only
    rw [if_neg (by decide), if_pos trivial, read_write]
    simp only
    rw [hback, htb]
    rfl
  · obtain ⟨e1, e2⟩ := key 43 (61 :: writeL t.data.toList) rfl
    rw [show (signS 2).data.toList ++ writeL t.data.toList = 43 :: 61 :: writeL t.data.toList from rfl]
    unfold editO
    rw [e1, e2]
    simp only
    rw [if_neg (by decide), if_pos trivial, read_write]
    simp only
    rw [hback, htb]
    rfl
  · obtain ⟨e1, e2⟩ := key 45 (61 :: writeL t.data.toList) rfl
    rw [show (signS 3).data.toList ++ writeL t.data.toList = 45 :: 61 :: writeL t.data.toList from rfl]
    unfold editO
    rw [e1, e2]
    simp only
    rw [if_neg (by decide), if_pos trivial, read_write]
    simp only
    rw [hback, htb]
    rfl
  · have h0 : t.size = 0 := by
      rcases hk4 with h | h
      · exact absurd rfl h
      · exact h
    have ht : t = ⟨#[]⟩ := ba_eq (List.length_eq_zero_iff.1 (by simpa using h0))
    subst ht
    obtain ⟨e1, e2⟩ := key 126 [] rfl
    rw [show (signS 4).data.toList ++ writeL (⟨#[]⟩ : ByteArray).data.toList = [126] from rfl]
    unfold editO
    rw [e1, e2]
    simp only
    rw [if_pos (by decide), if_pos trivial, hback]
  · obtain ⟨e1, e2⟩ := key 61 (61 :: writeL t.data.toList) rfl
    rw [show (signS 5).data.toList ++ writeL t.data.toList = 61 :: 61 :: writeL t.data.toList from rfl]
    unfold editO
    rw [e1, e2]
    simp only
    rw [if_neg (by decide), if_pos trivial, read_write]
    simp only
    rw [hback, htb]
    rfl

theorem edits_back (p : List Ed) (h : ∀ x ∈ p, namedE x = true ∧ rightE x = true) : editsW ((p.map wordE).map (·.data.toList)) = some p := by
  induction p with
  | nil => rfl
  | cons x p ih =>
    have hx := h x (by simp)
    simp only [List.map_cons, editsW]
    rw [editO_back hx.1 hx.2, ih fun y hy => h y (by simp [hy])]
    rfl

theorem sign_noblank (k : Int) : (32 : UInt8) ∉ (signS k).data.toList := by
  unfold signS
  repeat' split
  all_goals decide

theorem wordE_noblank {x : Ed} (h1 : namedE x = true) : (32 : UInt8) ∉ (wordE x).data.toList := by
  rw [wordE_data, List.mem_append, List.mem_append]
  rintro (h | h | h)
  · exact noblank_mem (field_noblank h1) h
  · exact sign_noblank _ h
  · exact noblank_mem (write_noblank _) h

theorem wordE_pos (x : Ed) : 0 < (wordE x).size := by
  have := (sign_size x.1).2
  unfold wordE
  rw [ByteArray.size_append, ByteArray.size_append]
  omega

/-- A line of edits is read back. -/
theorem lineE_back (p : List Ed) (h : ∀ x ∈ p, namedE x = true ∧ rightE x = true) : editsW (wordsAns (lineE p).data.toList) = some p := by
  cases p with
  | nil => rfl
  | cons x p =>
    have hne : (lineE (x :: p)).data.toList ≠ [] := by
      intro e
      have := lineB_ne (ws := (x :: p).map wordE) (by simp) (fun y hy => by obtain ⟨z, _, rfl⟩ := List.mem_map.1 hy; exact wordE_pos z)
      rw [Lib.toList_data] at this
      unfold lineE at e
      rw [e] at this
      cases this
    unfold wordsAns
    rw [if_neg hne]
    unfold lineE
    rw [lineB_data, split_join _ (by simp) (fun y hy => by
      obtain ⟨z, hz, rfl⟩ := List.mem_map.1 hy
      obtain ⟨u, hu, rfl⟩ := List.mem_map.1 hz
      exact wordE_noblank (h u hu).1)]
    exact edits_back _ h

/-- What Print and Parse answer. -/
def prE (l : List Ed) : ByteArray := if mayE l = 0 then lineE l else ⟨#[]⟩
def codeL (o : Option (List Ed)) : Int := match o with | none => 4 | some p => mayE p
def ansL (o : Option (List Ed)) : List Ed := match o with | none => [] | some p => if mayE p = 0 then p else []

theorem line_parsed {l : List Ed} (h : mayE l = 0) : codeL (editsW (wordsAns (prE l).data.toList)) = 0 ∧ ansL (editsW (wordsAns (prE l).data.toList)) = l := by
  obtain ⟨_, h1, h2, _⟩ := mayE_zero h
  unfold prE
  rw [if_pos h, lineE_back l fun x hx => ⟨h1 x hx, h2 x hx⟩]
  exact ⟨h, by unfold ansL; simp only; rw [if_pos h]⟩

end Go.Proofs.YtelcongbnmfegabGreatDoor

/-
  The contracts of word and Print of edits.
-/
namespace Go.Proofs.YtelcongbnmfegabGreatDoor
open Go.RowKit Go.Lib

def kC (o : Int) : UInt8 := if o = 1 then 58 else if o = 2 then 43 else if o = 3 then 45 else if o = 4 then 126 else 61

theorem kC_at (m : Nat) (h : m < 5) : Utf8.encode (((⟨#[58, 43, 45, 126, 61]⟩ : ByteArray)[m]'h).toNat : Int) = ⟨#[kC ((m : Int) + 1)]⟩ := by
  have : m = 0 ∨ m = 1 ∨ m = 2 ∨ m = 3 ∨ m = 4 := by omega
  rcases this with rfl | rfl | rfl | rfl | rfl <;> decide +revert

theorem sign_wipe : signS 4 = ⟨#[kC 4]⟩ := rfl
theorem sign_else {o : Int} (h1 : 1 ≤ o) (h2 : o ≤ 5) (h4 : o ≠ 4) : signS o = ⟨#[kC o]⟩ ++ ⟨#[61]⟩ := by
  have : o = 1 ∨ o = 2 ∨ o = 3 ∨ o = 5 := by omega
  rcases this with rfl | rfl | rfl | rfl <;> rfl

theorem rightE_range {x : Ed} (h : rightE x = true) : (1 ≤ x.1 ∧ x.1 ≤ 5) ∧ (x.1 = 4 → x.2.2.size = 0) := by
  unfold rightE at h
  rw [Bool.and_eq_true, Bool.and_eq_true, Bool.or_eq_true] at h
  refine ⟨⟨of_decide_eq_true h.1.1, of_decide_eq_true h.1.2⟩, fun e => ?_⟩
  rcases h.2 with k | k
  · exact absurd e (of_decide_eq_true k)
  · exact of_decide_eq_true k

set_option maxHeartbeats 4000000 in
set_option maxRecDepth 100000 in
theorem word_edit (x : Ed) (w : World) (hp : PlainAt w) (h1 : 1 ≤ x.1 ∧ x.1 ≤ 5) (h2 : x.2.1.size ≤ 32) (h3 : x.2.2.size ≤ 128) (h4 : x.1 = 4 → x.2.2.size = 0) :
    Calls Tryz.prog 24 #[.agg #[.int .i64 x.1, .string x.2.1, .string x.2.2]] w fun e w' => e = .returned (.string (wordE x)) ∧ Below w.heap.size w w' := by
  obtain ⟨xo, xf, xt⟩ := x
  simp only at h1 h2 h3 h4 ⊢
  obtain ⟨W, hW⟩ : ∃ W, w.alloc (.cells #[.int .i64 xo, .string xf, .string xt] 24) = W := ⟨_, rfl⟩
  obtain ⟨F, hF⟩ : ∃ F, w.heap.size = F := ⟨_, rfl⟩
  have hbw : Below w.heap.size w W := by rw [← hW]; exact (Below.refl _ _).alloc (Nat.le_refl _) _
  have hbox : BoxE W F (xo, xf, xt) := by rw [← hW, ← hF]; exact boxE_new w (xo, xf, xt)
  have hwl2 := writeL_len xt.data.toList
  have hwl3 : xt.data.toList.length = xt.size := by simp
  have HW : Hid (∀ n, Calls Tryz.prog 50 #[.string xt] (W.drewN n) fun e w' => e = .returned (.string ⟨(writeL xt.data.toList).toArray⟩) ∧ Below (W.drewN n).heap.size (W.drewN n) w') := fun n => write_any xt (W.drewN n) (hp.on (belE_drew hbw n)) (by omega)
  obtain ⟨wt, hwt⟩ : ∃ wt : ByteArray, ⟨(writeL xt.data.toList).toArray⟩ = wt := ⟨_, rfl⟩
  have hwts : wt.size ≤ 384 := by rw [← hwt]; show (writeL xt.data.toList).toArray.size ≤ 384; rw [List.size_toArray]; omega
  rw [hwt] at HW
  obtain ⟨S2, hS2⟩ : ∃ S2 : ByteArray, xf ++ ⟨#[kC xo]⟩ = S2 := ⟨_, rfl⟩
  have hS2s : S2.size ≤ 33 := by rw [← hS2, ByteArray.size_append]; show _ + 1 ≤ _; omega
  obtain ⟨S3, hS3⟩ : ∃ S3 : ByteArray, S2 ++ ⟨#[61]⟩ = S3 := ⟨_, rfl⟩
  have hS3s : S3.size ≤ 34 := by rw [← hS3, ByteArray.size_append]; show _ + 1 ≤ _; omega
  obtain ⟨S4, hS4⟩ : ∃ S4 : ByteArray, S3 ++ wt = S4 := ⟨_, rfl⟩
  have hA : ∀ w, Sem.run Tryz.prog (Op.stringOp .add xf ⟨#[kC xo]⟩) w = .ok (.string S2) w := fun w => by rw [← hS2]; exact run_string_add_sum _ _ _ (by show xf.size + 1 ≤ _; omega)
  have hB : ∀ w, Sem.run Tryz.prog (Op.stringOp .add S2 ⟨#[61]⟩) w = .ok (.string S3) w := fun w => by rw [← hS3]; exact run_string_add_sum _ _ _ (by show S2.size + 1 ≤ _; omega)
  have hC : ∀ w, Sem.run Tryz.prog (Op.stringOp .add S3 wt) w = .ok (.string S4) w := fun w => by rw [← hS4]; exact run_string_add_sum _ _ _ (by omega)
  obtain ⟨m, hm5, hxo⟩ : ∃ m : Nat, m < 5 ∧ xo = m + 1 := ⟨(xo - 1).toNat, by omega, by omega⟩
  have hw : IntKind.i64.wrap (xo - 1) = (m : Int) := by rw [hxo]; rw [show (m : Int) + 1 - 1 = m by omega]; exact wrap_i64E _ (by omega) (by omega)
  have hm0 : (0 : Int) ≤ m := by omega
  have hm5z : (m : Int) < 5 := by omega
  have hsg := kC_at m hm5
  rw [← hxo] at hsg
  have hA2 : ∀ w, Sem.run Tryz.prog (Op.stringOp .add xf (Utf8.encode (((⟨#[58, 43, 45, 126, 61]⟩ : ByteArray)[m]'hm5).toNat : Int))) w = .ok (.string S2) w := by rw [hsg]; exact hA
  obtain ⟨c0, c1, c2⟩ := hbox.cells
  have HBW := hid hbw
  simp only at c0 c1 c2
  by_cases hk : xo = 4
  · have hkb : (xo == 4) = true := by rw [hk]; rfl
    have HV : Hid (wordE (xo, xf, xt) = S2) := by
      show _ = _
      have ht0 : xt.data.toList = [] := List.length_eq_zero_iff.1 (by rw [hwl3]; exact h4 hk)
      rw [← hS2]
      unfold wordE
      simp only
      rw [ht0, show writeL [] = [] from rfl, hk, sign_wipe]
      exact ba_eq (by simp)
    clear hwl2 hwl3 hwt hS2 hS3 hS4 hwts hS2s hS3s h1 h2 h3 h4 hp hA hB hC hxo hsg hbox hbw HW hk
    go_enter Tryz.func24, Tryz.ntmps24
    rw [hF]
    go_wp2_with fail
    go_quiet (fail)
    go_wp2_with fail
    go_ret
    rw [← hF]
    exact ⟨by rw [HV.out]; rfl, belE_drew HBW.out _⟩
  · have hkb : (xo == 4) = false := beq_eq_false_iff_ne.2 hk
    have HV : Hid (wordE (xo, xf, xt) = S4) := by
      show _ = _
      rw [← hS4, ← hS3, ← hS2, ← hwt]
      unfold wordE
      simp only
      rw [sign_else h1.1 h1.2 hk]
      exact ba_eq (by simp)
    clear hwl2 hwl3 hwt hS2 hS3 hS4 hwts hS2s hS3s h1 h2 h3 h4 hp hA hxo hsg hbox hbw hk
    go_enter Tryz.func24, Tryz.ntmps24
    rw [hF]
    go_wp2_with fail
    go_quiet (fail)
    go_wp2_with (go_at_call 50; refine (HW.out _).mono ?_; rintro o w2 ⟨rfl, hb2⟩)
    go_ret
    rw [← hF]
    exact ⟨by rw [HV.out]; rfl, (belE_drew HBW.out _).trans (hb2.mono HBW.out.size)⟩

theorem joinE_any (ws : List ByteArray) (p : Option Addr) (cap : Nat) (w : World) {n0 : Nat} (h : OwnT n0 w (.slice p ws.length cap) ws) (hn : ws.length ≤ 128) (hs : ∀ x ∈ ws, x.size ≤ 418) :
    Calls Tryz.prog 25 #[.slice p ws.length cap, .string ⟨#[32]⟩] w fun e w' => e = .returned (.string ⟨(Lib.join (ws.map (·.data.toList)) [32]).toArray⟩) ∧ Below w.heap.size w w' := by
  rcases h.2 with ⟨_, h0⟩ | ⟨g, c, cur, hv, _, hg, hcap, _, hsz, htk⟩
  · obtain rfl := List.length_eq_zero_iff.1 h0
    refine (Tryz.strings_Join_none p cap _ w).mono ?_
    rintro e w' ⟨rfl, rfl⟩
    exact ⟨rfl, Below.refl _ _⟩
  · injection hv with hp hl hc
    subst hp
    subst hc
    refine (Tryz.strings_Join g 0 cap ws ⟨#[32]⟩ w (fun j x hj => ?_) (Array.getElem?_eq_some_iff.1 hg).1 (by omega) (by omega) ?_).mono ?_
    · have hjl := (List.getElem?_eq_some_iff.1 hj).1
      rw [Nat.zero_add, cell_of_row w g j cur _ _ hg, ← Array.getElem?_toList]
      have : (ws.map Value.string)[j]? = cur.toList[j]? := by rw [← htk, List.getElem?_take, if_pos (by omega)]
      rw [← this, List.getElem?_map, hj]; rfl
    · have h1 := join_len (ws.map (·.data.toList)) 418 (fun l hl => by
        obtain ⟨x, hx, rfl⟩ := List.mem_map.1 hl
        have := hs x hx
        simpa using this)
      rw [List.length_map] at h1
      have h2 : ws.length * 419 ≤ 128 * 419 := Nat.mul_le_mul_right _ hn
      show (Lib.join (ws.map (·.data.toList)) [32]).length ≤ _
      omega
    · rintro e w' ⟨rfl, hb⟩
      exact ⟨rfl, hb⟩

set_option maxHeartbeats 8000000 in
set_option maxRecDepth 100000 in
theorem pprintE_plain (v : Value) (p : List Ed) (w : World) (hp : PlainAt w) (hv : KE.Is w v p) (hf : FitE p) :
    Calls Tryz.prog 11 #[v] w fun e w' => e = .returned (.tuple #[.string (prE p), .int .i64 (mayE p)]) ∧ Below w.heap.size w w' := by
  obtain ⟨i0, hi0, hz0, hz1, hz2⟩ := info_parts Tryz.infoStr
  have HI := hid hi0
  have HN := hid (pmayE_raw v p w hv hf)
  have HP := hid hp
  by_cases hm : mayE p = 0
  · obtain ⟨hl16, hn, hr, hs⟩ := mayE_zero hm
    have HAL := hid (fun x (hx : x ∈ p) => And.intro (hn x hx) (And.intro (hr x hx) (hs x hx)))
    have HM := hid hm
    rw [hm] at HN
    obtain ⟨q, cap, rfl, hd⟩ := hv
    have HD := hid hd
    have HPR : Hid (prE p = lineB (p.map wordE)) := by show _ = _; unfold prE lineE; rw [if_pos hm]
    clear hm hn hr hs hf hp hi0 hd
    go_enter Tryz.func11, Tryz.ntmps11
    go_wp2_with fail
    refine HN.out.mono ?_
    rintro e w1 ⟨rfl, hb1⟩
    have HB1 := hid hb1
    have HP1 := hid (HP.out.on hb1)
    have HD1 : Hid (p = [] ∨ ∃ b off, q = some ⟨b, off, none⟩ ∧ KE.At w1 b off p) := by
      rcases HD.out with h | ⟨b, off, h1, h2⟩
      · exact Or.inl h
      · exact Or.inr ⟨b, off, h1, Kind.at_kept h2 hb1⟩
    clear hb1
    go_wp2_with fail
    go_loopg [5, 15] p.length (fun g vs vi wr => ∃ i : Nat, vi = .int .i64 i ∧ i ≤ p.length ∧ p.length - i ≤ g ∧ Hid (Below w1.heap.size w1 wr) ∧ Hid (OwnT w1.heap.size wr vs ((p.take i).map wordE)))
    case atStart => exact ⟨0, rfl, by omega, by omega, Below.refl _ _, World.ownsRow_nil _ _ _ _⟩
    case round =>
      obtain ⟨i, rfl, hi, hgk, HB, HO⟩ := hrel
      by_cases hlt : i < p.length
      · have hltz : (i : Int) < (p.length : Int) := by omega
        have hiz : (0 : Int) ≤ i := by omega
        obtain ⟨b, off, rfl, hat⟩ : ∃ b off, q = some ⟨b, off, none⟩ ∧ KE.At w1 b off p := by
          rcases HD1.out with h | h
          · subst h; simp at hlt
          · exact h
        obtain ⟨c0, c1, c2⟩ := ke_cells (Kind.at_kept hat HB.out) i hlt
        obtain ⟨hn, hr, hs⟩ := HAL.out _ (List.getElem_mem hlt)
        obtain ⟨hor, h4⟩ := rightE_range hr
        have hns := fieldB_len hn
        have hss := of_decide_eq_true hs
        have htk : (p.take (i + 1)).map wordE = (p.take i).map wordE ++ [wordE p[i]] := by
          rw [List.take_succ_eq_append_getElem hlt, List.map_append]; simp
        have hns2 : (p[i]).2.1.size ≤ 32 := by simpa using hns
        have hal2 : ((p.take i).map wordE).length = i := by rw [List.length_map, List.length_take]; omega
        obtain ⟨x, hx⟩ : ∃ x, p[i] = x := ⟨_, rfl⟩
        rw [hx] at c0 c1 c2 hor hns2 hss htk h4
        have HWT : Hid (∀ W, Below w1.heap.size w1 W → Calls Tryz.prog 24 #[.agg #[.int .i64 x.1, .string x.2.1, .string x.2.2]] W fun e w' => e = .returned (.string (wordE x)) ∧ Below W.heap.size W w') := fun W hb => word_edit x W (HP1.out.on hb) hor hns2 hss h4
        obtain ⟨acc, hacc⟩ : ∃ acc, (p.take i).map wordE = acc := ⟨_, rfl⟩
        rw [hacc] at HO htk hal2
        obtain ⟨wd, hwd⟩ : ∃ wd, wordE x = wd := ⟨_, rfl⟩
        rw [hwd] at HWT htk
        have HTK := hid htk
        have HAC := hid hal2
        have hal3 : acc.length ≤ 16 := by omega
        have hsz := HB.out.size
        obtain ⟨xo, xf, xt⟩ := x
        simp only at c0 c1 c2 HWT
        clear hat hn hr hs hx htk hns hss hor hns2 hwd hacc hal2 h4
        go_wp2_with (first
          | (at_builtin; refine wpList_append_own _ rfl _ _ 32 rfl w1.heap.size 9 i0 (.string ⟨#[]⟩) 1 16 Tryz.underlying32 HI.out hz0 hz1 hz2 rfl (by decide) _ _ _ rfl HO3.out _ 1 1 [.string wd] rfl rfl (by intro j u hj; match j, hj with | 0, hj => simp at hj; subst hj; simp [Addr.add]) (by intro u hu; simp at hu; subst hu; rfl) (by unfold maxLen; omega) (by omega) (by have := hb2.size; simp at this ⊢; omega) ?_; intro v4 w4 hown4 hg4 hnil4; have HO4 := hid hown4; have HG4 := hid hg4; clear hown4 hg4 hnil4)
          | (go_at_call 24; refine (HWT.out _ (HB.out.alloc hsz _)).mono ?_; rintro e w2 ⟨rfl, hb2⟩; have HO3 : Hid (OwnT w1.heap.size (w2.alloc (.cells #[.string wd] 9)) _ acc) := hid ((OwnT.on (OwnT.on HO.out ((Below.refl _ wr).alloc (Nat.le_refl _) _)) hb2).on ((Below.refl _ _).alloc (Nat.le_refl _) _))))
        go_roundg (p.length - (i + 1))
        case measure => omega
        refine ⟨i + 1, by go_num, by omega, by omega, ?_, ?_⟩
        · have hb3 : Below w1.heap.size w1 (w2.alloc (.cells #[.string wd] 9)) := (bel_then (HB.out.alloc hsz _) (HB.out.alloc hsz _).size hb2).alloc (Nat.le_trans (HB.out.alloc hsz _).size hb2.size) _
          exact hb3.grown HG4.out hb3.size (fun k hk => (World.ownsRow.lt HO3.out k hk).1)
        · rw [HTK.out]
          show OwnT _ _ _ _
          unfold OwnT
          rw [List.length_append, List.map_append]
          exact HO4.out
      · have hltz : ¬ (i : Int) < (p.length : Int) := by omega
        have htk2 : p.take i = p := List.take_of_length_le (by omega)
        rw [htk2] at HO
        have hws : ∀ y ∈ p.map wordE, y.size ≤ 418 := fun y hy => by
          obtain ⟨t, ht, rfl⟩ := List.mem_map.1 hy
          obtain ⟨a, _, c⟩ := HAL.out t ht
          exact wordE_len a c
        have hwl : (p.map wordE).length ≤ 128 := by rw [List.length_map]; omega
        obtain ⟨ws, hwe⟩ : ∃ ws, p.map wordE = ws := ⟨_, rfl⟩
        rw [hwe] at HPR
        have HLN : Hid (lineB ws = ⟨(Lib.join (ws.map (·.data.toList)) [32]).toArray⟩) := by show _ = _; rfl
        rw [hwe] at HO hws hwl
        clear htk2 hwe
        obtain ⟨p4, cap4, hv4⟩ := own_slice HO.out
        subst hv4
        have HJ := hid (joinE_any ws p4 cap4 wr HO.out hwl hws)
        clear hws hwl
        go_wp2_with (first | (go_at_call 25; refine HJ.out.mono ?_; rintro e w2 ⟨rfl, hb2⟩))
        go_ret2
        exact ⟨by rw [HM.out, HPR.out, HLN.out]; rfl, bel_then (bel_then HB1.out HB1.out.size HB.out) (bel_then HB1.out HB1.out.size HB.out).size hb2⟩
  · have hne : (mayE p != 0) = true := by rw [bne_iff_ne]; exact hm
    have HA : Hid (prE p = ⟨#[]⟩) := by show _ = _; unfold prE; rw [if_neg hm]
    obtain ⟨r, hr⟩ : ∃ r, mayE p = r := ⟨_, rfl⟩
    rw [hr] at hne HN
    have HR := hid hr
    clear hm hr hv hf hp
    go_enter Tryz.func11, Tryz.ntmps11
    go_wp2_with fail
    refine HN.out.mono ?_
    rintro e w1 ⟨rfl, hb1⟩
    have HB1 := hid hb1
    clear hb1
    go_wp2_with fail
    go_ret2
    exact ⟨by rw [HR.out, HA.out]; rfl, HB1.out⟩

end Go.Proofs.YtelcongbnmfegabGreatDoor

/-
  An append of a row that came in, whatever its length; a row of fields whose texts lie elsewhere.
-/
namespace Go.Proofs.YtelcongbnmfegabGreatDoor
open Go.RowKit Go.Lib

theorem grownBy_refl (w : World) (g : Option Nat) : w.grownBy w g := ⟨rfl, rfl, rfl, Nat.le_refl _, fun _ _ _ => rfl⟩

theorem wpList_append_rows {ops : Array Oper} {rest : List Oper} {o : Oper} {a : Act} {Q : Exit → Act → World → Prop} (w : World) (hgd : o.guard = none) (s x : Operand) (t : TypeId)
    (ho : o.op = .call { callee := .builtin .append, args := #[s, x], argTypes := #[t, t] })
    (base : Nat) (e : TypeId) (i : TypeInfo) (z : Value) (size bytes : Nat) (ht : Tryz.prog.underlying t = some (.slice e)) (hi : Tryz.prog.info? e = some i) (hz : i.zero = some z)
    (hsize : i.size = size) (hby : i.bytes = bytes) (hzs : z.cells.size = size) (hsz : 0 < size)
    (v : Value) (n : Nat) (xs : List Value) (hs : a.eval s = v) (hown : w.ownsRow base e size v n xs)
    (p : Option Addr) (m c : Nat) (news : List Value) (hx : a.eval x = .slice p m c) (hl : news.length = m * size)
    (hsrc : m = 0 ∨ ∃ ad, p = some ad ∧ ∀ j u, news[j]? = some u → w.cell? (ad.add j) = some u) (h1 : ∀ u ∈ news, u.oneCell' = true)
    (h63 : n + m ≤ maxLen) (hbytes : (n + m) * bytes ≤ 140737488355328) (hbase : base ≤ w.heap.size)
    (h : ∀ v' w', w'.ownsRow base e size v' (n + m) (xs ++ news) → w.grownBy w' v.ownBlock → wpList Tryz.prog ops Q rest (a.put o.dst v') w') :
    wpList Tryz.prog ops Q (o :: rest) a w := by
  rcases hsrc with rfl | ⟨ad, rfl, hc⟩
  · have hn : news = [] := List.length_eq_zero_iff.1 (by simpa using hl)
    subst hn
    obtain ⟨q, cap, hv, hcap, hq⟩ : ∃ q cap, v = .slice q n cap ∧ n ≤ cap ∧ (q = none → n = 0 ∧ cap = 0) := by
      rcases hown.2 with ⟨hv, h0⟩ | ⟨g, cap, cur, hv, _, _, hc, _⟩
      · exact ⟨none, 0, by rw [hv, h0], by omega, fun _ => ⟨h0, rfl⟩⟩
      · exact ⟨_, cap, hv, hc, fun h => by cases h⟩
    have hrun : (Builtin.append_ #[t, t] o.type #[.slice q n cap, .slice p 0 c]).run Tryz.prog w = .ok (.slice q n cap) w := by
      cases q with
      | none =>
        obtain ⟨rfl, rfl⟩ := hq rfl
        cases p <;> simp [Builtin.append_, run_underlying ht, Builtin.lenOf, Builtin.firstCells, sizeOf, typeInfo, hi, loadCells, loadCellsFrom]
      | some q =>
        cases p <;> simp [Builtin.append_, run_underlying ht, Builtin.lenOf, Builtin.firstCells, sizeOf, typeInfo, hi, storeCells, loadCells, loadCellsFrom, hcap]
    rw [hv] at hs
    refine wpList_plain hgd fun K hK' => ?_
    unfold Oper.wp
    simp [execOp, ho, resolve, invoke, builtin, hs, hx, hrun, Result.andThen]
    refine hK' _ _ (h _ _ ?_ (grownBy_refl _ _))
    rw [← hv, List.append_nil]
    exact hown
  · exact wpList_append_own _ hgd s x t ho base e i z size bytes ht hi hz hsize hby hzs hsz v n xs hs hown ad m c news hx hl hc h1 h63 hbytes hbase (fun v' w' h2 h3 _ => h v' w' h2 h3)

/-- v owns a row of the fields d, in a block at or behind n0; their texts lie anywhere. -/
def RowX (n0 : Nat) (w : World) (v : Value) (d : List Fx) : Prop := w.ownsRow n0 35 2 v d.length (cellsX d)

theorem RowX.is {n0 : Nat} {w : World} {v : Value} {d : List Fx} (h1 : RowX n0 w v d) (h2 : ∀ x ∈ d, x.at w) : IsXs w v d := by
  rcases h1.2 with ⟨rfl, h0⟩ | ⟨g, c, cur, rfl, _, hg, _, _, hsz, htk⟩
  · obtain rfl := List.length_eq_zero_iff.1 h0
    exact ⟨none, 0, rfl, Or.inl rfl, fun x hx => by simp at hx⟩
  · refine ⟨_, c, rfl, Or.inr ⟨g, 0, rfl, fun i hi => ?_⟩, h2⟩
    obtain ⟨c0, c1⟩ := cellsX_get d i hi
    have e : ∀ j, j < d.length * 2 → (cellsX d)[j]? = cur[j]? := fun j hj => by
      rw [← htk, List.getElem?_take, if_pos hj, Array.getElem?_toList]
    rw [Nat.zero_add, cell_of_row w g _ cur _ _ hg, cell_of_row w g _ cur _ _ hg, ← e _ (by omega), ← e _ (by omega)]
    exact ⟨c0, c1⟩

/-- What a slice of fields gives an append. -/
theorem src_xs {w : World} {p : Option Addr} {d : List Fx} (h : d = [] ∨ ∃ b off, p = some ⟨b, off, none⟩ ∧ XsAt w b off d) :
    d.length = 0 ∨ ∃ ad, p = some ad ∧ ∀ j u, (cellsX d)[j]? = some u → w.cell? (ad.add j) = some u := by
  rcases h with rfl | ⟨b, off, rfl, hx⟩
  · exact Or.inl rfl
  · refine Or.inr ⟨_, rfl, fun j u hu => ?_⟩
    have hj : j < d.length * 2 := by
      have := (List.getElem?_eq_some_iff.1 hu).1
      rwa [cellsX_len] at this
    have hk : j / 2 < d.length := by omega
    obtain ⟨c0, c1⟩ := cellsX_get d (j / 2) hk
    obtain ⟨m0, m1⟩ := hx (j / 2) hk
    rw [addr_add]
    by_cases e : j % 2 = 0
    · have ej : j = j / 2 * 2 := by omega
      rw [ej] at hu ⊢
      rw [c0] at hu
      rw [m0]; exact hu
    · have ej : j = j / 2 * 2 + 1 := by omega
      rw [ej] at hu ⊢
      rw [c1] at hu
      rw [← Nat.add_assoc, m1]; exact hu

/-- What a slice of texts gives an append. -/
theorem src_ts {w : World} {p : Option Addr} {ts : List ByteArray} (h : TxtAt w p ts) :
    ts.length = 0 ∨ ∃ ad, p = some ad ∧ ∀ j u, (ts.map Value.string)[j]? = some u → w.cell? (ad.add j) = some u := by
  rcases h with rfl | ⟨b, off, rfl, hx⟩
  · exact Or.inl rfl
  · refine Or.inr ⟨_, rfl, fun j u hu => ?_⟩
    have hj : j < ts.length := by simpa using (List.getElem?_eq_some_iff.1 hu).1
    rw [addr_add, hx j hj]
    rw [List.getElem?_map, List.getElem?_eq_getElem hj] at hu
    exact hu

theorem txts_one (ts : List ByteArray) : ∀ u ∈ ts.map Value.string, u.oneCell' = true := by
  intro u hu
  obtain ⟨t, _, rfl⟩ := List.mem_map.1 hu
  rfl

/-- What the reference's Texts answers. -/
def RtPost (w : World) (ts : List ByteArray) (e : Ending) (w' : World) : Prop := (∃ p c, e = .returned (.slice p ts.length c) ∧ TxtAt w p ts) ∧ w' = w

set_option maxHeartbeats 2000000 in
set_option maxRecDepth 100000 in
theorem rtexts_any (v : Value) (nm : ByteArray) (d : List Fx) (w : World) (hv : IsXs w v d) (hf : FitX d) :
    Calls Tryz.prog 8 #[v, .string nm] w fun e w' => RtPost w (textsOf (d.map Fx.fld) nm) e w' := by
  obtain ⟨p, cap, rfl, hd, ht⟩ := hv
  have HT := hid ht
  have HD := hid hd
  have hl := hf.1
  unfold maxLen at hl
  clear ht hd hf
  go_enter Tryz.func8, Tryz.ntmps8
  go_wp2_with fail
  go_loopg [5] d.length (fun g vi wr => ∃ i : Nat, vi = .int .i64 i ∧ i ≤ d.length ∧ d.length - i ≤ g ∧ w = wr ∧ Hid (∀ j (h : j < d.length), j < i → d[j].name ≠ nm))
  case atStart => exact ⟨0, rfl, by omega, by omega, rfl, fun j _ h => by omega⟩
  case round =>
    obtain ⟨i, rfl, hi, hg, rfl, HJ⟩ := hrel
    by_cases hlt : i < d.length
    · have hltz : (i : Int) < (d.length : Int) := by omega
      have hiz : (0 : Int) ≤ i := by omega
      obtain ⟨b, off, rfl, hxs⟩ : ∃ b off, p = some ⟨b, off, none⟩ ∧ XsAt w b off d := by
        rcases HD.out with h | h
        · subst h; simp at hlt
        · exact h
      obtain ⟨c0, c1⟩ := hxs i hlt
      have hxi : (d[i]).at w := HT.out _ (List.getElem_mem hlt)
      have hyes : d[i].name = nm → textsOf (d.map Fx.fld) nm = d[i].txt := fun e => by
        have := textsOf_at (d.map Fx.fld) nm i (by rw [List.length_map]; exact hlt) (fun j hj => by simp only [List.getElem_map]; exact HJ.out j (by omega) hj) (by simp only [List.getElem_map]; exact e)
        simpa [Fx.fld] using this
      have hnx : d[i].name ≠ nm → ∀ j (h : j < d.length), j < i + 1 → d[j].name ≠ nm := fun e j h hj => by
        by_cases ej : j = i
        · subst ej; exact e
        · exact HJ.out j h (by omega)
      obtain ⟨x, hx⟩ : ∃ x, d[i] = x := ⟨_, rfl⟩
      rw [hx] at c0 c1 hxi hyes hnx
      have HXI := hid hxi
      have HYES := hid hyes
      have HNX := hid hnx
      clear hxs hxi hx hyes hnx
      unfold Fx.sl at c1
      cases hq : (x.name.toList == nm.toList) with
      | true =>
        have hq2 : x.name = nm := by rw [toList_eq, decide_eq_true_eq] at hq; exact hq
        have HQ := hid (HYES.out hq2)
        clear hq2
        go_wp2_with fail
        go_ret
        rw [HQ.out]
        exact ⟨⟨_, _, rfl, HXI.out⟩, rfl⟩
      | false =>
        have hq2 : x.name ≠ nm := by rw [toList_eq, decide_eq_false_iff_not] at hq; exact hq
        have HQ := hid (HNX.out hq2)
        clear hq2
        go_wp2_with fail
        go_roundg (d.length - (i + 1))
        case measure => omega
        exact ⟨i + 1, by go_num, by omega, by omega, rfl, HQ.out⟩
    · have hltz : ¬ (i : Int) < (d.length : Int) := by omega
      have H0 : Hid (textsOf (d.map Fx.fld) nm = []) := textsOf_no _ _ (fun j hj => by
        rw [List.length_map] at hj
        simp only [List.getElem_map]
        exact HJ.out j hj (by omega))
      go_wp2_with fail
      go_ret
      rw [H0.out]
      exact ⟨⟨none, 0, rfl, Or.inl rfl⟩, rfl⟩

end Go.Proofs.YtelcongbnmfegabGreatDoor

/-
  Rows of fields: cells copied, cleared, moved; a field taken out of a row, a field laid into it.
-/
namespace Go.Proofs.YtelcongbnmfegabGreatDoor
open Go.RowKit Go.Lib

/-- copy within rows, whatever the elements' size. -/
theorem run_copyK {P : Program} (w : World) (dT sT ty elem : TypeId) (i0 : TypeInfo) (hu : P.underlying dT = some (.slice elem)) (hi : P.info? elem = some i0) (g o dLen dCap : Nat) (a : Addr) (sLen sCap : Nat) (cur : Array Value) (t : TypeId) (cs : List Value)
    (hg : w.heap[g]? = some (.cells cur t (0, 0))) (m : Nat) (hm : Nat.min sLen dLen = m) (hn : cs.length = m * i0.size)
    (hsrc : ∀ j v, cs[j]? = some v → w.cell? (a.add j) = some v) (hfit : o + cs.length ≤ cur.size) (h1 : ∀ v ∈ cs, v.oneCell' = true) :
    (Builtin.copy_ #[dT, sT] ty #[.slice (some ⟨g, o, none⟩) dLen dCap, .slice (some a) sLen sCap]).run P w =
      .ok (goInt m) (w.setRow g (cur.toList.take o ++ cs ++ cur.toList.drop (o + cs.length)).toArray) := by
  have hfc := run_firstCells_some (P := P) w i0.size m a sLen sCap cs hn hsrc
  have hst := run_storeCells_at P g o t cs 0 cur w hg (by simpa using hfit) h1
  simp only [Nat.add_zero] at hst
  simp [Builtin.copy_, run_underlying hu, Builtin.lenOf, sizeOf, typeInfo, hi, hm, hfc, hst]

/-- clear of fields in a row. -/
theorem run_clearX (w : World) (ty : TypeId) (g o n c : Nat) (hn : 0 < n) (hc : ∀ j, j < n * 2 → (w.cell? ⟨g, o + j, none⟩).isSome = true) (hf : ∀ j, j < n * 2 → w.frozen? ⟨g, o + j, none⟩ = false) :
    ∃ zs : List Value, (Builtin.clear_ #[22] ty #[.slice (some ⟨g, o, none⟩) n c]).run Tryz.prog w = .ok (.tuple #[]) (w.setCells g o zs) := by
  have hv : ∀ w, (zeroValue 35).run Tryz.prog w = .ok (.agg #[.string ⟨#[]⟩, .slice none 0 0]) w := Tryz.zeroValue35
  obtain ⟨zs, hzs⟩ : ∃ zs, (Builtin.zeroCells (Value.agg #[.string ⟨#[]⟩, .slice none 0 0]).cells n).toList = zs := ⟨_, rfl⟩
  have hl : zs.length = n * 2 := by rw [← hzs, Array.length_toList, size_zeroCells]; rfl
  have h1 : ∀ v ∈ zs, v.oneCell' = true := by
    intro v hm
    rw [← hzs] at hm
    simp only [Builtin.zeroCells, Array.toList_map, List.mem_map] at hm
    obtain ⟨i, _, rfl⟩ := hm
    have h3 : i % (Value.agg #[.string ⟨#[]⟩, .slice none 0 0]).cells.size < 2 := Nat.mod_lt _ (by decide)
    obtain ⟨m, hm⟩ : ∃ m, i % (Value.agg #[.string ⟨#[]⟩, .slice none 0 0]).cells.size = m := ⟨_, rfl⟩
    rw [hm] at h3 ⊢
    rcases (show m = 0 ∨ m = 1 by omega) with rfl | rfl <;> rfl
  refine ⟨zs, ?_⟩
  have hst := run_storeCells_cells (P := Tryz.prog) g o zs 0 w (by rw [hl]; simpa using hc) (by rw [hl]; simpa using hf) h1
  simp only [Nat.add_zero] at hst
  obtain ⟨m, rfl⟩ : ∃ m, n = m + 1 := ⟨n - 1, by omega⟩
  simp [Builtin.clear_, run_underlying Tryz.underlying22, hv, hzs, hst]

theorem cellsX_ones (d : List Fx) : ∀ u ∈ cellsX d, u.oneCell' = true := by
  intro u hu
  obtain ⟨x, _, hx⟩ := List.mem_flatMap.1 hu
  simp [encX, Fx.sl] at hx
  rcases hx with rfl | rfl <;> rfl

theorem cellsX_take (d : List Fx) (k : Nat) : cellsX (d.take k) = (cellsX d).take (k * 2) := by
  by_cases hk : k ≤ d.length
  · have e : cellsX d = cellsX (d.take k) ++ cellsX (d.drop k) := by rw [← cellsX_append, List.take_append_drop]
    have hl : (cellsX (d.take k)).length = k * 2 := by rw [cellsX_len, List.length_take]; omega
    rw [e, ← hl, List.take_left]
  · have e1 : d.take k = d := List.take_of_length_le (by omega)
    have e2 : (cellsX d).take (k * 2) = cellsX d := List.take_of_length_le (by rw [cellsX_len]; omega)
    rw [e1, e2]

theorem cellsX_drop (d : List Fx) (k : Nat) : cellsX (d.drop k) = (cellsX d).drop (k * 2) := by
  by_cases hk : k ≤ d.length
  · have e : cellsX d = cellsX (d.take k) ++ cellsX (d.drop k) := by rw [← cellsX_append, List.take_append_drop]
    have hl : (cellsX (d.take k)).length = k * 2 := by rw [cellsX_len, List.length_take]; omega
    rw [e, ← hl, List.drop_left]
  · have e1 : d.drop k = [] := List.drop_of_length_le (by omega)
    have e2 : (cellsX d).drop (k * 2) = [] := List.drop_of_length_le (by rw [cellsX_len]; omega)
    rw [e1, e2]
    rfl

/-- A row of fields, and the block that it lies in. -/
theorem rowX_block {N g n cap : Nat} {w : World} {o : List Fx} (h : RowX N w (.slice (some ⟨g, 0, none⟩) n cap) o) :
    o.length = n ∧ N ≤ g ∧ n ≤ cap ∧ cap ≤ maxLen ∧ ∃ cur : Array Value, w.heap[g]? = some (.cells cur 35 (0, 0)) ∧ cur.size = cap * 2 ∧ cur.toList.take (n * 2) = cellsX o := by
  rcases h.2 with ⟨hv, _⟩ | ⟨g', cap', cur, hv, h1, h2, h3, h4, h5, h6⟩
  · cases hv
  · injection hv with e1 e2 e3
    injection e1 with e1
    injection e1 with e1 _ _
    subst e1 e2 e3
    exact ⟨rfl, h1, h3, h4, cur, h2, h5, h6⟩

theorem rowX_mk {N g n cap : Nat} {w : World} {o : List Fx} {cur : Array Value} (hn : o.length = n) (h1 : N ≤ g) (h2 : w.heap[g]? = some (.cells cur 35 (0, 0))) (h3 : n ≤ cap) (h4 : cap ≤ maxLen) (h5 : cur.size = cap * 2) (h6 : cur.toList.take (n * 2) = cellsX o) :
    RowX N w (.slice (some ⟨g, 0, none⟩) n cap) o := by
  subst hn
  exact ⟨cellsX_len o, Or.inr ⟨g, cap, cur, rfl, h1, h2, h3, h4, h5, h6⟩⟩

/-- Cells of the row behind its end written over. -/
theorem rowX_past {N g n cap : Nat} {o : List Fx} (vs : List Value) : ∀ (w : World) (p : Nat), RowX N w (.slice (some ⟨g, 0, none⟩) n cap) o → o.length = n → n * 2 ≤ p → RowX N (w.setCells g p vs) (.slice (some ⟨g, 0, none⟩) n cap) o := by
  induction vs with
  | nil => intro w p h _ _; exact h
  | cons v vs ih =>
    intro w p h hn hp
    rw [World.setCells]
    refine ih _ _ ?_ hn (by omega)
    subst hn
    have h1 := (World.ownsRow.stored h p v).1
    rw [List.set_eq_of_length_le (by rw [cellsX_len]; exact hp)] at h1
    exact h1

theorem grown_setsX {g : Nat} (vs : List Value) : ∀ (w w0 : World) (p : Nat), w0.grownBy w (some g) → w0.grownBy (w.setCells g p vs) (some g) := by
  induction vs with
  | nil => intro w w0 p h; exact h
  | cons v vs ih => intro w w0 p h; rw [World.setCells]; exact ih _ _ _ (grown_trans h (grown_set w g p v))

theorem grown_setRow (w : World) (g : Nat) (cs : Array Value) : w.grownBy (w.setRow g cs) (some g) :=
  ⟨rfl, rfl, rfl, by simp [World.setRow], fun k _ hne => setRow_other w g k _ (fun e => hne (by rw [e]))⟩

theorem grown_setRowD (w : World) (g : Nat) (cs : Array Value) : w.grownBy (w.drew.setRow g cs) (some g) :=
  ⟨rfl, rfl, rfl, by simp [World.setRow], fun k _ hne => setRow_other w.drew g k _ (fun e => hne (by rw [e]))⟩

/-- The row behind 'append(s[:i], s[i+1:]...)'. -/
theorem rowX_del {N g n cap i : Nat} {w : World} {o : List Fx} {cur : Array Value} (hn : o.length = n) (hi : i < n) (h1 : N ≤ g) (h2 : w.heap[g]? = some (.cells cur 35 (0, 0))) (h3 : n ≤ cap) (h4 : cap ≤ maxLen) (h5 : cur.size = cap * 2) (h6 : cur.toList.take (n * 2) = cellsX o) :
    RowX N (w.setRow g (cur.toList.take (i * 2) ++ cellsX (o.drop (i + 1)) ++ cur.toList.drop (i * 2 + (cellsX (o.drop (i + 1))).length)).toArray) (.slice (some ⟨g, 0, none⟩) (n - 1) cap) (o.eraseIdx i) := by
  have hl : (cellsX (o.drop (i + 1))).length = (n - (i + 1)) * 2 := by rw [cellsX_len, List.length_drop, hn]
  have hc : cur.toList.length = cap * 2 := by rw [Array.length_toList, h5]
  have e1 : cur.toList.take (i * 2) = cellsX (o.take i) := by
    rw [cellsX_take, ← h6, List.take_take]
    congr 1
    omega
  refine rowX_mk (by rw [List.length_eraseIdx, if_pos (by omega), hn]) h1 (setRow_heap w g cur _ _ _ h2) (by omega) h4 ?_ ?_
  · simp only [List.size_toArray, List.length_append, List.length_take, List.length_drop, hl, hc]
    omega
  · rw [e1, ← cellsX_append, List.eraseIdx_eq_take_drop_succ]
    show List.take _ (_ ++ _) = _
    rw [List.take_append_of_le_length (by rw [cellsX_len]; simp; omega), List.take_of_length_le (by rw [cellsX_len]; simp; omega)]

/-- The row behind 'copy(s[i+1:], s[i:])' and 'copy(s[i:], x)', where there is room. -/
theorem rowX_ins {N g n cap i : Nat} {w : World} {o : List Fx} {x : Fx} {cur : Array Value} (hn : o.length = n) (hi : i ≤ n) (h1 : N ≤ g) (h2 : w.heap[g]? = some (.cells cur 35 (0, 0))) (h3 : n + 1 ≤ cap) (h4 : cap ≤ maxLen) (hs : cur.size = cap * 2)
    (h6 : cur.toList.take (i * 2) = cellsX (o.take i)) (h7 : (cur.toList.drop (i * 2)).take 2 = encX x) (h8 : (cur.toList.drop ((i + 1) * 2)).take ((n - i) * 2) = cellsX (o.drop i)) :
    RowX N w (.slice (some ⟨g, 0, none⟩) (n + 1) cap) (o.take i ++ x :: o.drop i) := by
  refine rowX_mk (by simp; omega) h1 h2 h3 h4 hs ?_
  have hc : cur.toList.length = cap * 2 := by rw [Array.length_toList, hs]
  have e : cur.toList.take ((n + 1) * 2) = cur.toList.take (i * 2) ++ ((cur.toList.drop (i * 2)).take 2 ++ (cur.toList.drop ((i + 1) * 2)).take ((n - i) * 2)) := by
    rw [show (n + 1) * 2 = i * 2 + (2 + (n - i) * 2) by omega, List.take_add, List.take_add, List.drop_drop]
    rw [show i * 2 + 2 = (i + 1) * 2 by omega]
  rw [e, h6, h7, h8]
  show _ = cellsX (o.take i ++ ([x] ++ o.drop i))
  rw [cellsX_append, cellsX_append]
  simp [cellsX]

end Go.Proofs.YtelcongbnmfegabGreatDoor

/-
  A name's place among fields that rise by name; a value with other texts for a name, as a field is taken out and laid in.
-/
namespace Go.Proofs.YtelcongbnmfegabGreatDoor
open Go.RowKit

structure Place (r : List Fld) (n : ByteArray) (c : Nat) (F : Bool) : Prop where
  le : c ≤ r.length
  lt : ∀ k (h : k < r.length), ltB (r[k]).1 n = true ↔ k < c
  pre : r.filter (fun f => ltB f.1 n) = r.take c
  here : F = true → ∃ h : c < r.length, (r[c]).1 = n
  no : F = false → ∀ h : c < r.length, (r[c]).1 ≠ n
  post : r.filter (fun f => ltB n f.1) = r.drop (if F then c + 1 else c)

theorem filter_all {r : List Fld} {p : Fld → Bool} (h : ∀ f ∈ r, p f = true) : r.filter p = r := List.filter_eq_self.2 h
theorem filter_no {r : List Fld} {p : Fld → Bool} (h : ∀ f ∈ r, p f = false) : r.filter p = [] := List.filter_eq_nil_iff.2 fun f hf => by rw [h f hf]; simp

theorem place_of : ∀ (r : List Fld) (_ : Rising r) (n : ByteArray), ∃ c F, Place r n c F
  | [], _, n => ⟨0, false, ⟨Nat.le_refl _, fun k h => (by simp at h), rfl, fun h => (by cases h), fun _ h => (by simp at h), rfl⟩⟩
  | f :: r, h, n => by
    obtain ⟨hf, hr⟩ := List.pairwise_cons.1 h
    rcases ltB_cases f.1 n with k | k | k
    · obtain ⟨c, F, P⟩ := place_of r hr n
      refine ⟨c + 1, F, ⟨by have := P.le; simp; omega, fun j hj => ?_, ?_, fun e => ?_, fun e hc => ?_, ?_⟩⟩
      · cases j with
        | zero => simp [k]
        | succ j => simpa using P.lt j (by simpa using hj)
      · rw [List.filter_cons_of_pos (p := fun (f : Fld) => ltB f.1 n) k, P.pre]; rfl
      · obtain ⟨h1, h2⟩ := P.here e
        exact ⟨by simpa using h1, by simpa using h2⟩
      · simpa using P.no e (by simpa using hc)
      · rw [List.filter_cons_of_neg (by rw [ltB_asymm k]; simp), P.post]
        cases F <;> rfl
    · subst k
      refine ⟨0, true, ⟨Nat.zero_le _, fun j hj => ?_, ?_, fun _ => ⟨by simp, rfl⟩, fun e => (by cases e), ?_⟩⟩
      · cases j with
        | zero => simp [ltB_irrefl]
        | succ j =>
          have := hf _ (List.getElem_mem (l := r) (n := j) (by simpa using hj))
          simp [ltB_asymm this]
      · refine filter_no fun g hg => ?_
        rcases List.mem_cons.1 hg with rfl | hg
        · exact ltB_irrefl _
        · exact ltB_asymm (hf g hg)
      · rw [List.filter_cons_of_neg (by rw [ltB_irrefl]; simp)]
        exact filter_all hf
    · have hall : ∀ g ∈ f :: r, ltB n g.1 = true := fun g hg => by
        rcases List.mem_cons.1 hg with rfl | hg
        · exact k
        · exact ltB_trans k (hf g hg)
      refine ⟨0, false, ⟨Nat.zero_le _, fun j hj => ?_, ?_, fun e => (by cases e), fun _ hc => ?_, ?_⟩⟩
      · have := hall _ (List.getElem_mem hj)
        simp [ltB_asymm this]
      · exact filter_no fun g hg => ltB_asymm (hall g hg)
      · exact (ltB_ne k).symm
      · exact filter_all hall

/-- The value with other texts, by the place. -/
theorem setF_place {r : List Fld} {n : ByteArray} {c : Nat} {F : Bool} (P : Place r n c F) (ts : List ByteArray) :
    setF r n ts = r.take c ++ ((if ts.isEmpty then [] else [(n, ts)]) ++ r.drop (if F then c + 1 else c)) := by
  unfold setF
  rw [P.pre, P.post]

theorem erase_take {α : Type} (l : List α) (c : Nat) (h : c < l.length) : (l.eraseIdx c).take c = l.take c ∧ (l.eraseIdx c).drop c = l.drop (c + 1) := by
  rw [List.eraseIdx_eq_take_drop_succ]
  have hl : (l.take c).length = c := by rw [List.length_take]; omega
  constructor
  · rw [List.take_append_of_le_length (by omega), List.take_of_length_le (by omega)]
  · have := List.drop_left (l₁ := l.take c) (l₂ := l.drop (c + 1))
    rwa [hl] at this

theorem apart_sym {x y : Fx} (h : x.sl.ownBlock = none ∨ x.sl.ownBlock ≠ y.sl.ownBlock) : y.sl.ownBlock = none ∨ y.sl.ownBlock ≠ x.sl.ownBlock := by
  rcases h with h | h
  · cases hy : y.sl.ownBlock with
    | none => exact Or.inl rfl
    | some k => right; rw [h]; simp
  · exact Or.inr h.symm

theorem apart_ins {a b : List Fx} {x : Fx} (h : Apart (a ++ b)) (hx : ∀ y ∈ a ++ b, y.sl.ownBlock = none ∨ y.sl.ownBlock ≠ x.sl.ownBlock) : Apart (a ++ x :: b) := by
  unfold Apart at *
  obtain ⟨h1, h2, h3⟩ := List.pairwise_append.1 h
  refine List.pairwise_append.2 ⟨h1, List.pairwise_cons.2 ⟨fun y hy => apart_sym (hx y (by simp [hy])), h2⟩, fun y hy z hz => ?_⟩
  rcases List.mem_cons.1 hz with rfl | hz
  · exact hx y (by simp [hy])
  · exact h3 y hy z hz

theorem apart_less {a b : List Fx} (h : Apart b) (hs : List.Sublist a b) : Apart a := List.Pairwise.sublist hs h

end Go.Proofs.YtelcongbnmfegabGreatDoor

/-
  The operations of a region that draws its order, taken one by one by hand: what yields a value, what is passed over. No program.
-/

namespace Go.Proofs.YtelcongbnmfegabGreatDoor


theorem at_drop0 {ops : Array Oper} {i : Nat} {oi : Oper} {rest : List Oper} (h : ops.toList.drop i = oi :: rest) : ops[i]? = some oi := by
  rw [← Array.getElem?_toList, ← List.head?_drop, h]; rfl

section
variable {P : Program} {ops : Array Oper} {Q : Exit → Act → World → Prop} {md : Region.Mode} {S : World → Prop}
/-- Operation number i of a drawn region is taken first: it yields v. -/
theorem take_val {i fuel : Nat} {listed : Array Bool} {a : Act} {w : World} (v : Value) {oi : Oper} {rest : List Oper} (hd : ops.toList.drop i = oi :: rest)
    (hs : Region.noSelect ops = true) (hf : Region.free md ops listed i = true) (hr : (Region.ready md ops listed).contains i = true)
    (hQ : ∀ c a w, Q (.panic c) (a.put oi.dst v) w → Q (.panic c) a w) (hw : Region.wanted oi (yielded ops a.tmps) = true) (hy : ∀ w, S w → (execOp a.eval oi).run P w = .ok (.value v) w) (hS : S w)
    (h : wpAnyH P md ops Q S fuel (listed.setIfInBounds i true) (a.put oi.dst v) w) : wpAnyH P md ops Q S (fuel + 1) listed a w :=
  wpAnyH_take (at_drop0 hd) hs hf hr hQ (Or.inl ⟨hw, hy⟩) hS h
/-- Operation number i of a drawn region is passed over. -/
theorem take_not {i fuel : Nat} {listed : Array Bool} {a : Act} {w : World} {oi : Oper} {rest : List Oper} (hd : ops.toList.drop i = oi :: rest)
    (hs : Region.noSelect ops = true) (hf : Region.free md ops listed i = true) (hr : (Region.ready md ops listed).contains i = true)
    (hQ : ∀ c a w, Q (.panic c) (a.put oi.dst undef) w → Q (.panic c) a w) (hw : Region.wanted oi (yielded ops a.tmps) = false) (hS : S w)
    (h : wpAnyH P md ops Q S fuel (listed.setIfInBounds i true) (a.put oi.dst undef) w) : wpAnyH P md ops Q S (fuel + 1) listed a w :=
  wpAnyH_take (at_drop0 hd) hs hf hr hQ (Or.inr ⟨hw, rfl⟩) hS h
end

end Go.Proofs.YtelcongbnmfegabGreatDoor

/-
  The words tk_val, tk_not, tk_call, tk_on, tk_end of a drawn region taken by hand (Tak) are written out where a text is laid (inst.py): here are their imports alone.
-/
namespace Go.Proofs.YtelcongbnmfegabGreatDoor

end Go.Proofs.YtelcongbnmfegabGreatDoor
