/-
  Texts of this claim, one behind the other: Edd Rname Re0 Hp0 Hbx Txr Txh Rmay Siz Renc Wri Pri Fix0 Fix Byt Rwr Sze0 Rpr Rnm Rnn Sam Ncd Nms Rrd Txs Lin0 Rwd.
-/
import Derived.Test.YtelcongbnmfegaaGreatDoorPb
import Derived.Test.YtelcongbnmfegaaGreatDoorPa
import Derived.Laws.StructEq
import Derived.Deep.CutRange
import Derived.Shelf.SlicesQ.IndexFunc
import Derived.Lib.Join
/-
  The plain mathematics of edits: a difference makes the one value of the other; edits in two pieces; what may be of a value by its parts.
-/
namespace Go.Proofs.YtelcongbnmfegaaGreatDoor
open Go.RowKit

/-- What makes a field be just what it is. -/
def setsE (f : Fld) : List Ed := match f.2 with
  | [] => []
  | t :: ts => (1, f.1, t) :: ts.map fun u => (2, f.1, u)

/-- The difference of two values, gone through side by side. -/
def diffE : List Fld → List Fld → List Ed
  | [], [] => []
  | a :: ar, [] => (4, a.1, ⟨#[]⟩) :: diffE ar []
  | [], b :: br => setsE b ++ diffE [] br
  | a :: ar, b :: br => if ltB a.1 b.1 then (4, a.1, ⟨#[]⟩) :: diffE ar (b :: br)
      else if a.1 = b.1 then (if a.2 = b.2 then diffE ar br else setsE b ++ diffE ar br)
      else setsE b ++ diffE (a :: ar) br

/-- What Diff answers. -/
def codeDf (a b : List Fld) : Int := if mayB a = false ∨ mayB b = false then 3 else if 16 < (diffE a b).length then 5 else 0
def ansDf (a b : List Fld) : List Ed := if codeDf a b = 0 then diffE a b else []

theorem codeDf_zero {a b : List Fld} (h : codeDf a b = 0) : mayB a = true ∧ mayB b = true ∧ (diffE a b).length ≤ 16 := by
  unfold codeDf at h
  split at h
  · omega
  · rename_i h1
    split at h
    · omega
    · rename_i h2
      rw [not_or] at h1
      exact ⟨by simpa using h1.1, by simpa using h1.2, by omega⟩

theorem ltN_ltB (a b : ByteArray) : ltN a b = ltB a b := by
  unfold ltN
  exact sless_of rfl

/-- A value may be by its parts. -/
theorem mayR {fs : List Fld} (h : mayB fs = true) : fs.length ≤ 16 ∧ (∀ f ∈ fs, fitsB f = true) ∧ Rising fs := by
  have hs := (may_parts h).2
  have step : ∀ i, (hi : i + 1 < fs.length) → ltB (fs[i]).1 (fs[i + 1]).1 = true := fun i hi => by
    have := hs (i + 1) hi
    unfold stepOk at this
    rw [Bool.and_eq_true, Bool.or_eq_true] at this
    rcases this.2 with h | h
    · have := of_decide_eq_true h; omega
    · rw [ltN_ltB, Nat.add_sub_cancel, List.getD_eq_getElem?_getD, List.getD_eq_getElem?_getD, List.getElem?_eq_getElem hi, List.getElem?_eq_getElem (show i < fs.length by omega)] at h
      exact h
  refine ⟨(may_parts h).1, may_fits h, List.pairwise_iff_getElem.2 fun i j hi hj hij => ?_⟩
  induction j with
  | zero => omega
  | succ j ih =>
    by_cases e : i = j
    · subst e; exact step i hj
    · exact ltB_trans (ih (by omega) (by omega)) (step j hj)

theorem mayR_of {fs : List Fld} (h1 : fs.length ≤ 16) (h2 : ∀ f ∈ fs, fitsB f = true) (h3 : Rising fs) : mayB fs = true := by
  refine may_yes h1 fun i hi => ?_
  unfold stepOk
  have e : fs.getD i default = fs[i] := by rw [List.getD_eq_getElem?_getD, List.getElem?_eq_getElem hi]; rfl
  rw [e, h2 _ (List.getElem_mem hi), Bool.true_and, Bool.or_eq_true]
  by_cases h0 : i = 0
  · exact Or.inl (decide_eq_true h0)
  · right
    have e2 : fs.getD (i - 1) default = fs[i - 1] := by rw [List.getD_eq_getElem?_getD, List.getElem?_eq_getElem (show i - 1 < fs.length by omega)]; rfl
    rw [e2, ltN_ltB]
    exact h3.get (by omega) hi

theorem fitsP {f : Fld} (h : fitsB f = true) : fieldB f.1.data.toList = true ∧ f.2 ≠ [] ∧ f.2.length ≤ 8 ∧ ∀ t ∈ f.2, t.size ≤ 128 := by
  unfold fitsB at h
  simp only [Bool.and_eq_true, decide_eq_true_eq, Bool.not_eq_true'] at h
  obtain ⟨⟨⟨h1, h2⟩, h3⟩, h4⟩ := h
  refine ⟨h1, ?_, h3, fun t ht => ?_⟩
  · intro e; rw [e] at h2; simp at h2
  · have := List.any_eq_false.1 h4 t ht
    unfold longB at this
    simp at this
    exact this

theorem fitsO {f : Fld} (h1 : fieldB f.1.data.toList = true) (h2 : f.2 ≠ []) (h3 : f.2.length ≤ 8) (h4 : ∀ t ∈ f.2, t.size ≤ 128) : fitsB f = true := by
  unfold fitsB
  simp only [Bool.and_eq_true, decide_eq_true_eq, Bool.not_eq_true']
  refine ⟨⟨⟨h1, ?_⟩, h3⟩, List.any_eq_false.2 fun t ht => ?_⟩
  · cases hf : f.2 with
    | nil => exact absurd hf h2
    | cons _ _ => rfl
  · have := h4 t ht
    unfold longB
    simp
    exact this

theorem may_nobareE {fs : List Fld} (h : mayB fs = true) : NoBare fs := fun f hf => (fitsP ((mayR h).2.1 f hf)).2.1

theorem okR_may {fs : List Fld} (h : mayB fs = true) : OkR 0 fs where
  rise := (mayR h).2.2
  full := may_nobareE h
  len := (mayR h).1
  each := fun f hf => by
    obtain ⟨a, _, b, c⟩ := fitsP ((mayR h).2.1 f hf)
    exact ⟨a, b, c⟩

/-- Of a value on its way just the numbers may be wrong. -/
theorem okR_mayB {k : Nat} {r : List Fld} (h : OkR k r) : mayB r = (decide (r.length ≤ 16) && r.all fun f => decide (f.2.length ≤ 8)) := by
  rw [Bool.eq_iff_iff, Bool.and_eq_true, decide_eq_true_eq, List.all_eq_true]
  constructor
  · intro hm
    refine ⟨(mayR hm).1, fun f hf => decide_eq_true (fitsP ((mayR hm).2.1 f hf)).2.2.1⟩
  · rintro ⟨h1, h2⟩
    refine mayR_of h1 (fun f hf => ?_) h.rise
    obtain ⟨a, _, c⟩ := h.each f hf
    exact fitsO a (h.full f hf) (of_decide_eq_true (h2 f hf)) c

theorem do_set (r : List Fld) (n t : ByteArray) : doE r (1, n, t) = (0, setF r n [t]) := by unfold doE; simp
theorem do_add (r : List Fld) (n t : ByteArray) : doE r (2, n, t) = (0, setF r n (textsOf r n ++ [t])) := by unfold doE; simp
theorem do_wipe (r : List Fld) (n t : ByteArray) : doE r (4, n, t) = (0, setF r n []) := by unfold doE; simp

theorem run_set (r : List Fld) (n t : ByteArray) (l : List Ed) : runE r ((1, n, t) :: l) = runE (setF r n [t]) l := by
  simp only [runE, do_set, if_true]

theorem run_add {r : List Fld} (hr : Rising r) (n : ByteArray) (cur : List ByteArray) (u : ByteArray) (l : List Ed) : runE (setF r n cur) ((2, n, u) :: l) = runE (setF r n (cur ++ [u])) l := by
  have e : textsOf (setF r n cur) n = cur := by rw [textsOf_set hr, if_pos rfl]
  simp only [runE, do_add, if_true]
  rw [e, setF_set]

theorem run_adds {r : List Fld} (hr : Rising r) (n : ByteArray) (l : List Ed) : ∀ (ts cur : List ByteArray), runE (setF r n cur) ((ts.map fun u => (2, n, u)) ++ l) = runE (setF r n (cur ++ ts)) l
  | [], cur => by simp
  | u :: ts, cur => by
    rw [List.map_cons, List.cons_append, run_add hr, run_adds hr n l ts, List.append_assoc]
    rfl

theorem run_sets {r : List Fld} (hr : Rising r) (f : Fld) (hf : f.2 ≠ []) (l : List Ed) : runE r (setsE f ++ l) = runE (setF r f.1 f.2) l := by
  unfold setsE
  cases h : f.2 with
  | nil => exact absurd h hf
  | cons t ts =>
    simp only [List.cons_append]
    rw [run_set, run_adds hr]
    rfl

theorem run_wipe (r : List Fld) (n : ByteArray) (l : List Ed) : runE r ((4, n, ⟨#[]⟩) :: l) = runE (setF r n []) l := by
  simp only [runE, do_wipe, if_true]

theorem tx_cons_same {a : Fld} {ar : List Fld} : textsOf (a :: ar) a.1 = a.2 := by simp [textsOf]
theorem tx_cons_other {a : Fld} {ar : List Fld} {m : ByteArray} (h : a.1 ≠ m) : textsOf (a :: ar) m = textsOf ar m := by simp [textsOf, h]

open Classical in
/-- What a run of a difference leaves. -/
def DiffSays (A B r : List Fld) : Prop :=
  (runE r (diffE A B)).1 = 0 ∧ Rising (runE r (diffE A B)).2 ∧ NoBare (runE r (diffE A B)).2 ∧
    ∀ m, textsOf (runE r (diffE A B)).2 m = if m ∈ A.map (fun f : Fld => f.1) ∨ m ∈ B.map (fun f : Fld => f.1) then textsOf B m else textsOf r m

theorem ite_iff {α : Type} {p q : Prop} {_ : Decidable p} {_ : Decidable q} {x y : α} (h : p ↔ q) : (if p then x else y) = if q then x else y := by
  by_cases hp : p
  · rw [if_pos hp, if_pos (h.1 hp)]
  · rw [if_neg hp, if_neg fun hq => hp (h.2 hq)]

theorem rise_out {a : Fld} {ar : List Fld} (h : Rising (a :: ar)) : a.1 ∉ ar.map (·.1) := fun hm => by
  obtain ⟨f, hf, e⟩ := List.mem_map.1 hm
  exact ltB_ne ((List.pairwise_cons.1 h).1 f hf) e.symm

theorem rise_below {n : ByteArray} {a : Fld} {ar : List Fld} (h : Rising (a :: ar)) (hn : ltB n a.1 = true) : n ∉ (a :: ar).map (·.1) := fun hm => by
  obtain ⟨f, hf, e⟩ := List.mem_map.1 hm
  rcases List.mem_cons.1 hf with rfl | hf
  · exact ltB_ne hn e.symm
  · exact ltB_ne (ltB_trans hn ((List.pairwise_cons.1 h).1 f hf)) e.symm

theorem out_texts {v : List Fld} {n : ByteArray} (h : n ∉ v.map (·.1)) : textsOf v n = [] := textsOf_out fun f hf e => h (List.mem_map.2 ⟨f, hf, e⟩)

theorem diff_run (A B : List Fld) : Rising A → Rising B → NoBare B → ∀ r : List Fld, Rising r → NoBare r → (∀ m, m ∈ A.map (·.1) ∨ m ∈ B.map (·.1) → textsOf r m = textsOf A m) → DiffSays A B r := by
  induction A, B using diffE.induct with
  | case1 => intro _ _ _ r hr nr _; exact ⟨by simp [diffE, runE], by simpa [diffE, runE] using hr, by simpa [diffE, runE] using nr, fun m => by simp [diffE, runE]⟩
  | case2 a ar ih =>
    intro hA hB nB r hr nr ht
    have ha := rise_out hA
    obtain ⟨i1, i2, i3, i4⟩ := ih (List.pairwise_cons.1 hA).2 hB nB (setF r a.1 []) (setF_rising hr _ _) (setF_nobare nr _ _) (fun m hm => by
      have hm1 : m ∈ ar.map (·.1) := by simpa using hm
      have hne : m ≠ a.1 := fun e => ha (e ▸ hm1)
      rw [textsOf_set hr, if_neg hne, ht m (Or.inl (by simp at hm1 ⊢; exact Or.inr hm1)), tx_cons_other (fun e => hne e.symm)])
    unfold DiffSays
    rw [diffE, run_wipe]
    refine ⟨i1, i2, i3, fun m => ?_⟩
    rw [i4 m, textsOf_set hr]
    by_cases e : m = a.1
    · subst e
      rw [if_pos (by simp : a.1 ∈ (a :: ar).map (·.1) ∨ a.1 ∈ ([] : List Fld).map (·.1)), if_pos rfl]
      have : textsOf ([] : List Fld) a.1 = [] := rfl
      rw [this]
      split <;> rfl
    · have hiff : (m ∈ (a :: ar).map (·.1) ∨ m ∈ ([] : List Fld).map (·.1)) ↔ (m ∈ ar.map (·.1) ∨ m ∈ ([] : List Fld).map (·.1)) := by simp [e]
      rw [if_neg e]
      exact ite_iff hiff.symm
  | case3 b br ih =>
    intro hA hB nB r hr nr ht
    have hb := rise_out hB
    obtain ⟨i1, i2, i3, i4⟩ := ih hA (List.pairwise_cons.1 hB).2 (fun f hf => nB f (by simp [hf])) (setF r b.1 b.2) (setF_rising hr _ _) (setF_nobare nr _ _) (fun m hm => by
      have hm1 : m ∈ br.map (·.1) := by simpa using hm
      have hne : m ≠ b.1 := fun e => hb (e ▸ hm1)
      rw [textsOf_set hr, if_neg hne, ht m (Or.inr (by simp at hm1 ⊢; exact Or.inr hm1))])
    unfold DiffSays
    rw [diffE, run_sets hr b (nB b (by simp))]
    refine ⟨i1, i2, i3, fun m => ?_⟩
    rw [i4 m, textsOf_set hr]
    by_cases e : m = b.1
    · subst e
      rw [if_pos (by simp : b.1 ∈ ([] : List Fld).map (·.1) ∨ b.1 ∈ (b :: br).map (·.1)), if_pos rfl, tx_cons_same, if_neg (by simpa using hb)]
    · have hiff : (m ∈ ([] : List Fld).map (·.1) ∨ m ∈ (b :: br).map (·.1)) ↔ (m ∈ ([] : List Fld).map (·.1) ∨ m ∈ br.map (·.1)) := by simp [e]
      rw [if_neg e, tx_cons_other (fun k => e k.symm)]
      exact ite_iff hiff.symm
  | case4 a ar b br hlt ih =>
    intro hA hB nB r hr nr ht
    have ha := rise_out hA
    have hab := rise_below hB hlt
    obtain ⟨i1, i2, i3, i4⟩ := ih (List.pairwise_cons.1 hA).2 hB nB (setF r a.1 []) (setF_rising hr _ _) (setF_nobare nr _ _) (fun m hm => by
      have hne : m ≠ a.1 := fun e => by
        subst e
        rcases hm with h | h
        · exact ha h
        · exact hab h
      rw [textsOf_set hr, if_neg hne, ht m (by rcases hm with h | h; exact Or.inl (by rw [List.map_cons]; exact List.mem_cons_of_mem _ h); exact Or.inr h), tx_cons_other (fun e => hne e.symm)])
    unfold DiffSays
    rw [diffE, if_pos hlt, run_wipe]
    refine ⟨i1, i2, i3, fun m => ?_⟩
    rw [i4 m, textsOf_set hr]
    by_cases e : m = a.1
    · subst e
      rw [if_pos (by simp : a.1 ∈ (a :: ar).map (·.1) ∨ a.1 ∈ (b :: br).map (·.1)), if_pos rfl, out_texts hab]
      split <;> rfl
    · have hiff : (m ∈ (a :: ar).map (·.1) ∨ m ∈ (b :: br).map (·.1)) ↔ (m ∈ ar.map (·.1) ∨ m ∈ (b :: br).map (·.1)) := by rw [List.map_cons (l := ar), List.mem_cons]; simp [e]
      rw [if_neg e]
      exact ite_iff hiff.symm
  | case5 a ar b br hlt hab heq ih =>
    intro hA hB nB r hr nr ht
    have ha := rise_out hA
    have hb := rise_out hB
    obtain ⟨i1, i2, i3, i4⟩ := ih (List.pairwise_cons.1 hA).2 (List.pairwise_cons.1 hB).2 (fun f hf => nB f (by simp [hf])) r hr nr (fun m hm => by
      have hne : a.1 ≠ m := fun e => by
        subst e
        rcases hm with h | h
        · exact ha h
        · rw [hab] at h; exact hb h
      rw [ht m (by rcases hm with h | h; exact Or.inl (by rw [List.map_cons]; exact List.mem_cons_of_mem _ h); exact Or.inr (by rw [List.map_cons]; exact List.mem_cons_of_mem _ h)), tx_cons_other hne])
    unfold DiffSays
    rw [diffE, if_neg hlt, if_pos hab, if_pos heq]
    refine ⟨i1, i2, i3, fun m => ?_⟩
    rw [i4 m]
    by_cases e : m = a.1
    · subst e
      have hno : ¬ (a.1 ∈ ar.map (·.1) ∨ a.1 ∈ br.map (·.1)) := fun h => by
        rcases h with h | h
        · exact ha h
        · rw [hab] at h; exact hb h
      rw [if_neg hno, if_pos (by simp : a.1 ∈ (a :: ar).map (·.1) ∨ a.1 ∈ (b :: br).map (·.1)), ht a.1 (by simp), tx_cons_same, hab, tx_cons_same, heq]
    · have e2 : m ≠ b.1 := by rw [← hab]; exact e
      have hiff : (m ∈ (a :: ar).map (·.1) ∨ m ∈ (b :: br).map (·.1)) ↔ (m ∈ ar.map (·.1) ∨ m ∈ br.map (·.1)) := by rw [List.map_cons, List.map_cons, List.mem_cons, List.mem_cons]; simp [e, e2]
      rw [tx_cons_other (fun k => e2 k.symm)]
      exact ite_iff hiff.symm
  | case6 a ar b br hlt hab heq ih =>
    intro hA hB nB r hr nr ht
    have ha := rise_out hA
    have hb := rise_out hB
    obtain ⟨i1, i2, i3, i4⟩ := ih (List.pairwise_cons.1 hA).2 (List.pairwise_cons.1 hB).2 (fun f hf => nB f (by simp [hf])) (setF r b.1 b.2) (setF_rising hr _ _) (setF_nobare nr _ _) (fun m hm => by
      have hne : a.1 ≠ m := fun e => by
        subst e
        rcases hm with h | h
        · exact ha h
        · rw [hab] at h; exact hb h
      rw [textsOf_set hr, if_neg (fun e => hne (by rw [hab, e])), ht m (by rcases hm with h | h; exact Or.inl (by rw [List.map_cons]; exact List.mem_cons_of_mem _ h); exact Or.inr (by rw [List.map_cons]; exact List.mem_cons_of_mem _ h)), tx_cons_other hne])
    unfold DiffSays
    rw [diffE, if_neg hlt, if_pos hab, if_neg heq, run_sets hr b (nB b (by simp))]
    refine ⟨i1, i2, i3, fun m => ?_⟩
    rw [i4 m, textsOf_set hr]
    by_cases e : m = b.1
    · subst e
      have hno : ¬ (b.1 ∈ ar.map (·.1) ∨ b.1 ∈ br.map (·.1)) := fun h => by
        rcases h with h | h
        · rw [← hab] at h; exact ha h
        · exact hb h
      rw [if_neg hno, if_pos rfl, if_pos (by simp : b.1 ∈ (a :: ar).map (·.1) ∨ b.1 ∈ (b :: br).map (·.1)), tx_cons_same]
    · have e2 : m ≠ a.1 := by rw [hab]; exact e
      have hiff : (m ∈ (a :: ar).map (·.1) ∨ m ∈ (b :: br).map (·.1)) ↔ (m ∈ ar.map (·.1) ∨ m ∈ br.map (·.1)) := by rw [List.map_cons, List.map_cons, List.mem_cons, List.mem_cons]; simp [e, e2]
      rw [if_neg e, tx_cons_other (fun k => e k.symm)]
      exact ite_iff hiff.symm
  | case7 a ar b br hlt hab ih =>
    intro hA hB nB r hr nr ht
    have hb := rise_out hB
    have hba : ltB b.1 a.1 = true := by
      rcases ltB_cases a.1 b.1 with h | h | h
      · exact absurd h hlt
      · exact absurd h hab
      · exact h
    have hbA := rise_below hA hba
    obtain ⟨i1, i2, i3, i4⟩ := ih hA (List.pairwise_cons.1 hB).2 (fun f hf => nB f (by simp [hf])) (setF r b.1 b.2) (setF_rising hr _ _) (setF_nobare nr _ _) (fun m hm => by
      have hne : m ≠ b.1 := fun e => by
        subst e
        rcases hm with h | h
        · exact hbA h
        · exact hb h
      rw [textsOf_set hr, if_neg hne, ht m (by rcases hm with h | h; exact Or.inl h; exact Or.inr (by rw [List.map_cons]; exact List.mem_cons_of_mem _ h))])
    unfold DiffSays
    rw [diffE, if_neg hlt, if_neg hab, run_sets hr b (nB b (by simp))]
    refine ⟨i1, i2, i3, fun m => ?_⟩
    rw [i4 m, textsOf_set hr]
    by_cases e : m = b.1
    · subst e
      have hno : ¬ (b.1 ∈ (a :: ar).map (·.1) ∨ b.1 ∈ br.map (·.1)) := fun h => by
        rcases h with h | h
        · exact hbA h
        · exact hb h
      rw [if_neg hno, if_pos rfl, if_pos (by simp : b.1 ∈ (a :: ar).map (·.1) ∨ b.1 ∈ (b :: br).map (·.1)), tx_cons_same]
    · have hiff : (m ∈ (a :: ar).map (·.1) ∨ m ∈ (b :: br).map (·.1)) ↔ (m ∈ (a :: ar).map (·.1) ∨ m ∈ br.map (·.1)) := by rw [List.map_cons (l := br), List.mem_cons]; simp [e]
      rw [if_neg e, tx_cons_other (fun k => e k.symm)]
      exact ite_iff hiff.symm

/-- A difference makes the one of the other. -/
theorem diff_makes {a b : List Fld} (ha : mayB a = true) (hb : mayB b = true) : (runE a (diffE a b)).1 = 0 ∧ (runE a (diffE a b)).2 = b := by
  have hA := (mayR ha).2.2
  have hB := (mayR hb).2.2
  obtain ⟨h1, h2, h3, h4⟩ := diff_run a b hA hB (may_nobareE hb) a hA (may_nobareE ha) (fun m _ => rfl)
  refine ⟨h1, value_unique h2 hB h3 (may_nobareE hb) fun m => ?_⟩
  rw [h4 m]
  split
  · rfl
  · rename_i h
    rw [not_or] at h
    rw [out_texts h.1, out_texts h.2]

theorem sets_ok {f : Fld} (h : fitsB f = true) : ∀ x ∈ setsE f, namedE x = true ∧ rightE x = true ∧ shortE x = true := by
  obtain ⟨h1, h2, h3, h4⟩ := fitsP h
  intro x hx
  unfold setsE at hx
  cases hf : f.2 with
  | nil => rw [hf] at hx; cases hx
  | cons t ts =>
    rw [hf] at hx h4
    rcases List.mem_cons.1 hx with rfl | hx
    · exact ⟨h1, by unfold rightE; simp, decide_eq_true (h4 t (by simp))⟩
    · obtain ⟨u, hu, rfl⟩ := List.mem_map.1 hx
      exact ⟨h1, by unfold rightE; simp, decide_eq_true (h4 u (by simp [hu]))⟩

theorem wipe_ok {f : Fld} (h : fitsB f = true) : namedE (4, f.1, ⟨#[]⟩) = true ∧ rightE (4, f.1, ⟨#[]⟩) = true ∧ shortE (4, f.1, ⟨#[]⟩) = true := ⟨(fitsP h).1, rfl, rfl⟩

theorem diff_ok (A B : List Fld) : (∀ f ∈ A, fitsB f = true) → (∀ f ∈ B, fitsB f = true) → ∀ x ∈ diffE A B, namedE x = true ∧ rightE x = true ∧ shortE x = true := by
  induction A, B using diffE.induct with
  | case1 => intro _ _ x hx; simp [diffE] at hx
  | case2 a ar ih =>
    intro hA hB x hx
    rw [diffE] at hx
    rcases List.mem_cons.1 hx with rfl | hx
    · exact wipe_ok (hA a (by simp))
    · exact ih (fun f hf => hA f (by simp [hf])) hB x hx
  | case3 b br ih =>
    intro hA hB x hx
    rw [diffE] at hx
    rcases List.mem_append.1 hx with hx | hx
    · exact sets_ok (hB b (by simp)) x hx
    · exact ih hA (fun f hf => hB f (by simp [hf])) x hx
  | case4 a ar b br hlt ih =>
    intro hA hB x hx
    rw [diffE, if_pos hlt] at hx
    rcases List.mem_cons.1 hx with rfl | hx
    · exact wipe_ok (hA a (by simp))
    · exact ih (fun f hf => hA f (by simp [hf])) hB x hx
  | case5 a ar b br hlt hab heq ih =>
    intro hA hB x hx
    rw [diffE, if_neg hlt, if_pos hab, if_pos heq] at hx
    exact ih (fun f hf => hA f (by simp [hf])) (fun f hf => hB f (by simp [hf])) x hx
  | case6 a ar b br hlt hab heq ih =>
    intro hA hB x hx
    rw [diffE, if_neg hlt, if_pos hab, if_neg heq] at hx
    rcases List.mem_append.1 hx with hx | hx
    · exact sets_ok (hB b (by simp)) x hx
    · exact ih (fun f hf => hA f (by simp [hf])) (fun f hf => hB f (by simp [hf])) x hx
  | case7 a ar b br hlt hab ih =>
    intro hA hB x hx
    rw [diffE, if_neg hlt, if_neg hab] at hx
    rcases List.mem_append.1 hx with hx | hx
    · exact sets_ok (hB b (by simp)) x hx
    · exact ih hA (fun f hf => hB f (by simp [hf])) x hx

/-- Apply of a difference that Diff tells. -/
theorem diff_applies {a b : List Fld} (h : codeDf a b = 0) : codeA a (diffE a b) = 0 ∧ ansA a (diffE a b) = b := by
  obtain ⟨h1, h2, h3⟩ := codeDf_zero h
  obtain ⟨e1, e2⟩ := diff_makes h1 h2
  have ho := diff_ok a b (mayR h1).2.1 (mayR h2).2.1
  have hc : codeA a (diffE a b) = 0 := codeA_of h1 (mayE_of h3 (fun x hx => (ho x hx).1) (fun x hx => (ho x hx).2.1) (fun x hx => (ho x hx).2.2)) e1 (by rw [e2]; exact h2)
  refine ⟨hc, ?_⟩
  unfold ansA
  rw [if_pos hc, e2]

/-- Edits in two pieces. -/
theorem pieces_yes {v : List Fld} {a b : List Ed} (h1 : codeA v a = 0) (h2 : codeA v (a ++ b) = 0) : codeA (ansA v a) b = 0 ∧ ansA (ansA v a) b = ansA v (a ++ b) := by
  obtain ⟨m1, m2, m3, m4⟩ := codeA_zero h1
  obtain ⟨n1, n2, n3, n4⟩ := codeA_zero h2
  have e1 : ansA v a = (runE v a).2 := by unfold ansA; rw [if_pos h1]
  have er := runE_append v a b
  rw [if_pos m3] at er
  have hmb : mayE b = 0 := by
    obtain ⟨k1, k2, k3, k4⟩ := mayE_zero n2
    rw [List.length_append] at k1
    exact mayE_of (by omega) (fun x hx => k2 x (by simp [hx])) (fun x hx => k3 x (by simp [hx])) (fun x hx => k4 x (by simp [hx]))
  have hc : codeA (ansA v a) b = 0 := by
    rw [e1]
    exact codeA_of m4 hmb (by rw [← er]; exact n3) (by rw [← er]; exact n4)
  refine ⟨hc, ?_⟩
  unfold ansA at hc ⊢
  rw [if_pos h1] at hc ⊢
  rw [if_pos hc, if_pos h2, er]

theorem pieces_no {v : List Fld} {a b : List Ed} (h1 : codeA v a = 0) (h2 : codeA v (a ++ b) ≠ 0) (hl : (a ++ b).length ≤ 16) : codeA (ansA v a) b ≠ 0 := by
  intro hc
  obtain ⟨m1, m2, m3, m4⟩ := codeA_zero h1
  have e1 : ansA v a = (runE v a).2 := by unfold ansA; rw [if_pos h1]
  rw [e1] at hc
  obtain ⟨n1, n2, n3, n4⟩ := codeA_zero hc
  have er := runE_append v a b
  rw [if_pos m3] at er
  refine h2 (codeA_of m1 ?_ (by rw [er]; exact n3) (by rw [er]; exact n4))
  obtain ⟨k1, k2, k3, k4⟩ := mayE_zero m2
  obtain ⟨j1, j2, j3, j4⟩ := mayE_zero n2
  exact mayE_of hl (fun x hx => (List.mem_append.1 hx).elim (k2 x) (j2 x)) (fun x hx => (List.mem_append.1 hx).elim (k3 x) (j3 x)) (fun x hx => (List.mem_append.1 hx).elim (k4 x) (j4 x))

end Go.Proofs.YtelcongbnmfegaaGreatDoor

/-
  The contracts of the reference's class and Field.
-/
namespace Go.Proofs.YtelcongbnmfegaaGreatDoor
open Go.RowKit

def cls (n : Int) : Int := if bigB n then 1 else if smallB n then 2 else if digB n then 3 else if n = 45 ∨ n = 46 then 4 else 0

theorem cls_cases (n : Int) :
    (cls n = 1 ∧ bigB n = true ∧ smallB n = false ∧ letB n = true ∧ lodB n = true ∧ idB n = true) ∨
    (cls n = 2 ∧ bigB n = false ∧ smallB n = true ∧ letB n = true ∧ lodB n = true ∧ idB n = true) ∨
    (cls n = 3 ∧ bigB n = false ∧ smallB n = false ∧ letB n = false ∧ lodB n = true ∧ idB n = true) ∨
    (cls n = 4 ∧ bigB n = false ∧ smallB n = false ∧ letB n = false ∧ lodB n = false ∧ idB n = true) ∨
    (cls n = 0 ∧ bigB n = false ∧ smallB n = false ∧ letB n = false ∧ lodB n = false ∧ idB n = false) := by
  cases h1 : bigB n
  · cases h2 : smallB n
    · cases h3 : digB n
      · by_cases h4 : n = 45 ∨ n = 46
        · right; right; right; left
          refine ⟨by simp [cls, h1, h2, h3, h4], rfl, rfl, by simp [letB, h1, h2], by simp [lodB, letB, h1, h2, h3], ?_⟩
          rcases h4 with rfl | rfl <;> decide
        · right; right; right; right
          have h45 : (n == 45) = false := beq_eq_false_iff_ne.2 fun e => h4 (.inl e)
          have h46 : (n == 46) = false := beq_eq_false_iff_ne.2 fun e => h4 (.inr e)
          exact ⟨by simp [cls, h1, h2, h3, h4], rfl, rfl, by simp [letB, h1, h2], by simp [lodB, letB, h1, h2, h3], by simp [idB, lodB, letB, h1, h2, h3, h45, h46]⟩
      · right; right; left
        exact ⟨by simp [cls, h1, h2, h3], rfl, rfl, by simp [letB, h1, h2], by simp [lodB, h3], by simp [idB, lodB, h3]⟩
    · right; left
      exact ⟨by simp [cls, h1, h2], rfl, rfl, by simp [letB, h2], by simp [lodB, letB, h2], by simp [idB, lodB, letB, h2]⟩
  · left
    have h2 : smallB n = false := by
      rw [bigB_true] at h1
      rw [Bool.eq_false_iff, Ne, smallB_true]; omega
    exact ⟨by simp [cls, h1], rfl, h2, by simp [letB, h1], by simp [lodB, letB, h1], by simp [idB, lodB, letB, h1]⟩

set_option maxHeartbeats 400000 in
theorem class_any (n : Int) (w : World) : Calls Tryz.prog 63 #[.int .u8 n] w fun e w' => e = .returned (.int .i64 (cls n)) ∧ w' = w := by
  go_enter Tryz.func63, Tryz.ntmps63
  go_wp2
  all_goals go_ret
  all_goals refine ⟨ret_int ?_, rfl⟩
  all_goals (simp_all [cls, bigB, smallB, digB]; try omega)

set_option maxHeartbeats 1000000 in
theorem rfield_any (s : ByteArray) (w : World) (hs : s.size ≤ maxLen) :
    Calls Tryz.prog 34 #[.string s] w fun e w' => e = .returned (.bool (fieldB s.data.toList)) ∧ w' = w := by
  unfold maxLen at hs
  have HE := hid (spell_empty smallB lodB s)
  have HG := hid (spell_long smallB lodB s)
  have HF := hid (spell_first smallB lodB s)
  have HA := hid (spell_at smallB lodB s)
  have HT := hid (spell_true smallB lodB s)
  have HB : Hid (fieldB s.data.toList = spell smallB lodB s.data.toList) := rfl
  go_enter Tryz.func34, Tryz.ntmps34
  go_wp2
  go_loop [3] (fun i => ∃ k : Nat, k ≤ s.size ∧ i = .int .i64 k ∧ (∀ j, j < k → (hj : j < s.size) → (j = 0 → smallB (s[j].toNat : Int) = true) ∧ (1 ≤ j → lodB (s[j].toNat : Int) = true))) (fun i => s.size - (intOf i).toNat)
  case atStart => exact ⟨0, by omega, rfl, fun j h => by omega⟩
  case round =>
    obtain ⟨k, hk, rfl, hall⟩ := hrel
    have HL := hid hall
    clear hall
    by_cases hlt : k < s.size
    · rcases Nat.eq_zero_or_pos k with h0 | h0
      · have HZ := hid h0
        have hz : ((k : Int) == 0) = true := by rw [h0]; rfl
        clear h0
        rcases cls_cases (s[k].toNat : Int) with h | h | h | h | h
        all_goals
          have HC := hid h
          clear h
          go_wp2_with (go_at_call 63; refine (class_any _ _).mono ?_; rintro e w' ⟨rfl, rfl⟩; rw [HC.out.1])
          first
          | (go_ret; exact ⟨ret_bool (by rw [HB.out]; have hz' := HZ.out; subst hz'; exact (HF.out hlt (by first | exact HC.out.2.1 | exact HC.out.2.2.1 | exact HC.out.2.2.2.2.1 | exact HC.out.2.2.2.2.2)).symm), rfl⟩)
          | (go_round
             case rel =>
               refine ⟨k + 1, by omega, by go_num, fun j h1 hj => ?_⟩
               have hz' := HZ.out
               have hj0 : j = k := by omega
               subst hj0
               exact ⟨fun _ => (by first | exact HC.out.2.1 | exact HC.out.2.2.1 | exact HC.out.2.2.2.2.1 | exact HC.out.2.2.2.2.2), fun _ => by omega⟩
             case measure => simp [intOf]; omega)
      · have HZ := hid h0
        have hz : ((k : Int) == 0) = false := by rw [beq_eq_false_iff_ne]; omega
        clear h0
        rcases cls_cases (s[k].toNat : Int) with h | h | h | h | h
        all_goals
          have HC := hid h
          clear h
          go_wp2_with (go_at_call 63; refine (class_any _ _).mono ?_; rintro e w' ⟨rfl, rfl⟩; rw [HC.out.1])
          first
          | (go_ret; exact ⟨ret_bool (by rw [HB.out]; exact (HA.out k HZ.out hlt (by first | exact HC.out.2.2.2.1 | exact HC.out.2.2.2.2.1 | exact HC.out.2.2.2.2.2)).symm), rfl⟩)
          | (go_round
             case rel =>
               refine ⟨k + 1, by omega, by go_num, fun j h1 hj => ?_⟩
               by_cases hjk : j = k
               · subst hjk
                 exact ⟨fun e => by have := HZ.out; omega, fun _ => (by first | exact HC.out.2.2.2.1 | exact HC.out.2.2.2.2.1 | exact HC.out.2.2.2.2.2)⟩
               · exact HL.out j (by omega) hj
             case measure => simp [intOf]; omega)
    · have hks : k = s.size := by omega
      rcases Nat.eq_zero_or_pos s.size with hz | hz
      · have hn : ¬ (0 : Int) < (s.size : Int) := by omega
        have HZ := hid hz
        clear hz hks
        go_wp2_with fail
        go_ret
        exact ⟨ret_bool (by rw [HB.out]; exact (HE.out HZ.out).symm), rfl⟩
      · have hn : (0 : Int) < (s.size : Int) := by omega
        by_cases hm : s.size ≤ 32
        · have hm' : (s.size : Int) ≤ 32 := by omega
          have HK := hid hks
          clear hks
          go_wp2_with fail
          go_ret
          refine ⟨ret_bool (by rw [HB.out]; exact (HT.out hz hm ((HL.out 0 (by have := HK.out; omega) hz).1 rfl) (fun j h1 hj => (HL.out j (by have := HK.out; omega) hj).2 h1)).symm), rfl⟩
        · have hm' : ¬ (s.size : Int) ≤ 32 := by omega
          clear hks
          go_wp2_with fail
          go_ret
          exact ⟨ret_bool (by rw [HB.out]; exact (HG.out (by omega)).symm), rfl⟩

end Go.Proofs.YtelcongbnmfegaaGreatDoor

/-
  The contracts of the reference's May and Same of edits, of sign and kind.
-/
namespace Go.Proofs.YtelcongbnmfegaaGreatDoor
open Go.RowKit

theorem ke_cells {w : World} {b off : Nat} {p : List Ed} (h : KE.At w b off p) (i : Nat) (hi : i < p.length) :
    w.cell? ⟨b, off + i * 3, none⟩ = some (.int .i64 (p[i]).1) ∧ w.cell? ⟨b, off + i * 3 + 1, none⟩ = some (.string (p[i]).2.1) ∧ w.cell? ⟨b, off + i * 3 + 2, none⟩ = some (.string (p[i]).2.2) :=
  ⟨h i hi 0 _ rfl, h i hi 1 _ rfl, h i hi 2 _ rfl⟩

theorem all_snocE {p : List Ed} {f : Ed → Bool} {i : Nat} (h : i < p.length) : (p.take (i + 1)).all f = ((p.take i).all f && f p[i]) := by
  rw [List.take_succ_eq_append_getElem h, List.all_append]
  simp

set_option maxHeartbeats 4000000 in
set_option maxRecDepth 100000 in
theorem rmayE_any (v : Value) (p : List Ed) (w : World) (hv : KE.Is w v p) (hf : FitE p) :
    Calls Tryz.prog 14 #[v] w fun e w' => e = .returned (.int .i64 (mayE p)) ∧ w' = w := by
  obtain ⟨q, cap, rfl, hd⟩ := hv
  have hl := hf.1
  unfold maxLen at hl
  have HD := hid hd
  have HF := hid hf.2
  obtain ⟨r, hr⟩ : ∃ r, mayE p = r := ⟨_, rfl⟩
  rw [hr]
  have HR := hid hr
  clear hd hf hr
  by_cases h8 : 16 < p.length
  · have h8z : (16 : Int) < (p.length : Int) := by omega
    have H0 : Hid (r = 5) := by show _ = _; rw [← HR.out]; unfold mayE; rw [if_pos h8]
    clear h8
    go_enter Tryz.func14, Tryz.ntmps14
    go_wp2_with fail
    go_ret
    exact ⟨ret_int H0.out.symm, rfl⟩
  · have h8z : ¬ (16 : Int) < (p.length : Int) := by omega
    have HR2 : Hid (r = if p.all namedE = false then 2 else if p.all rightE = false then 1 else if p.all shortE = false then 5 else 0) := by show _ = _; rw [← HR.out]; unfold mayE; rw [if_neg h8]
    clear h8
    go_enter Tryz.func14, Tryz.ntmps14
    go_wp2_with fail
    go_loopg [3, 4, 5, 6] p.length (fun g v3 v4 v5 vi wr => ∃ i : Nat, vi = .int .i64 i ∧ i ≤ p.length ∧ p.length - i ≤ g ∧ v3 = .bool ((p.take i).all namedE) ∧ v4 = .bool ((p.take i).all rightE) ∧ v5 = .bool ((p.take i).all shortE) ∧ w = wr)
    case atStart => exact ⟨0, rfl, by omega, by omega, by simp, by simp, by simp, rfl⟩
    case round =>
    obtain ⟨i, rfl, hi, hgk, rfl, rfl, rfl, rfl⟩ := hrel
    by_cases hlt : i < p.length
    · have hltz : (i : Int) < (p.length : Int) := by omega
      have hiz : (0 : Int) ≤ (i : Int) := by omega
      obtain ⟨b, off, rfl, hat⟩ : ∃ b off, q = some ⟨b, off, none⟩ ∧ KE.At w b off p := by
        rcases HD.out with h | h
        · subst h; simp at hlt
        · exact h
      obtain ⟨c0, c1, c2⟩ := ke_cells hat i hlt
      have hfx := HF.out _ (List.getElem_mem hlt)
      have HN := hid (all_snocE (f := namedE) hlt)
      have HG := hid (all_snocE (f := rightE) hlt)
      have HS := hid (all_snocE (f := shortE) hlt)
      obtain ⟨x, hx⟩ : ∃ x, p[i] = x := ⟨_, rfl⟩
      rw [hx] at c0 c1 c2 hfx HN HG HS
      obtain ⟨xo, xf, xt⟩ := x
      simp only at c0 c1 c2
      obtain ⟨B1, hB1⟩ : ∃ B, (p.take i).all namedE = B := ⟨_, rfl⟩
      obtain ⟨B2, hB2⟩ : ∃ B, (p.take i).all rightE = B := ⟨_, rfl⟩
      obtain ⟨B3, hB3⟩ : ∃ B, (p.take i).all shortE = B := ⟨_, rfl⟩
      rw [hB1] at HN ⊢
      rw [hB2] at HG ⊢
      rw [hB3] at HS ⊢
      obtain ⟨hs1, hs2, hs3, hs4⟩ := hfx
      simp only at hs1 hs2 hs3 hs4
      have HFC : Hid (∀ W, Calls Tryz.prog 34 #[.string xf] W fun e w' => e = .returned (.bool (fieldB xf.data.toList)) ∧ w' = W) := fun W => rfield_any xf W hs1
      unfold maxLen at hs2
      clear hat hx hB1 hB2 hB3 hs1
      go_upto_region 7 with fail
      go_cut [3] from 10 to 67 (fun v wx => w = wx ∧ v = .bool (B1 && fieldB xf.data.toList))
      case first =>
        cases B1 with
        | false =>
          go_wp2_with fail
          go_meet
          case rel => exact ⟨rfl, rfl⟩
        | true =>
          go_wp2_with (first | (go_at_call 34; refine (HFC.out _).mono ?_; rintro e w1 ⟨rfl, rfl⟩))
          go_meet
          case rel => exact ⟨rfl, rfl⟩
      case rest =>
      obtain ⟨rfl, rfl⟩ := hcut
      go_upto_region 8 with fail
      go_cut [4] from 10 to 67 (fun v wx => w = wx ∧ v = .bool (B2 && rightE (xo, xf, xt)))
      case first =>
        have HRM : Hid (rightE (xo, xf, xt) = (decide (1 ≤ xo) && decide (xo ≤ 5) && (decide (xo ≠ 4) || decide (xt.size = 0)))) := rfl
        cases B2 with
        | false =>
          go_wp2_with fail
          go_meet
          case rel => exact ⟨rfl, rfl⟩
        | true =>
          by_cases g1 : 1 ≤ xo
          · have d1 : decide (1 ≤ xo) = true := decide_eq_true g1
            by_cases g2 : xo ≤ 5
            · have d2 : decide (xo ≤ 5) = true := decide_eq_true g2
              by_cases g3 : xo = 4
              · have d3 : (xo != 4) = false := by simp [g3]
                by_cases g4 : xt.size = 0
                · have e4 := sempty_of g4
                  have HV : Hid (rightE (xo, xf, xt) = true) := by show _ = _; rw [HRM.out, d1, d2, decide_eq_true g4]; simp
                  clear g4 g3
                  go_wp2_with fail
                  go_meet
                  case rel => exact ⟨rfl, by rw [HV.out]; rfl⟩
                · have e4 := sfull_of g4
                  have HV : Hid (rightE (xo, xf, xt) = false) := by show _ = _; rw [HRM.out, d1, d2, decide_eq_false g4, decide_eq_false (by simp [g3])]; rfl
                  clear g4 g3
                  go_wp2_with fail
                  go_meet
                  case rel => exact ⟨rfl, by rw [HV.out]; rfl⟩
              · have d3 : (xo != 4) = true := by simp [g3]
                have HV : Hid (rightE (xo, xf, xt) = true) := by show _ = _; rw [HRM.out, d1, d2, decide_eq_true (by simpa using g3)]; rfl
                clear g3
                go_wp2_with fail
                go_meet
                case rel => exact ⟨rfl, by rw [HV.out]; rfl⟩
            · have d2 : decide (xo ≤ 5) = false := decide_eq_false g2
              have HV : Hid (rightE (xo, xf, xt) = false) := by show _ = _; rw [HRM.out, d1, d2]; rfl
              go_wp2_with fail
              go_meet
              case rel => exact ⟨rfl, by rw [HV.out]; rfl⟩
          · have d1 : decide (1 ≤ xo) = false := decide_eq_false g1
            have HV : Hid (rightE (xo, xf, xt) = false) := by show _ = _; rw [HRM.out, d1]; rfl
            go_wp2_with fail
            go_meet
            case rel => exact ⟨rfl, by rw [HV.out]; rfl⟩
      case rest =>
      obtain ⟨rfl, rfl⟩ := hcut
      have HSM : Hid (shortE (xo, xf, xt) = decide (xt.size ≤ 128)) := rfl
      cases B3 with
      | false =>
        go_wp2_with fail
        go_roundg (p.length - (i + 1))
        case measure => omega
        case rel => exact ⟨i + 1, by go_num, by omega, by omega, by rw [HN.out]; rfl, by rw [HG.out], by rw [HS.out]; rfl, rfl⟩
      | true =>
        by_cases g1 : xt.size ≤ 128
        · have g1z : (xt.size : Int) ≤ 128 := by omega
          have HV : Hid (shortE (xo, xf, xt) = true) := by show _ = _; rw [HSM.out]; exact decide_eq_true g1
          go_wp2_with fail
          go_roundg (p.length - (i + 1))
          case measure => omega
          case rel => exact ⟨i + 1, by go_num, by omega, by omega, by rw [HN.out]; rfl, by rw [HG.out], by rw [HS.out, HV.out]; rfl, rfl⟩
        · have g1z : ¬ (xt.size : Int) ≤ 128 := by omega
          have HV : Hid (shortE (xo, xf, xt) = false) := by show _ = _; rw [HSM.out]; exact decide_eq_false g1
          go_wp2_with fail
          go_roundg (p.length - (i + 1))
          case measure => omega
          case rel => exact ⟨i + 1, by go_num, by omega, by omega, by rw [HN.out]; rfl, by rw [HG.out], by rw [HS.out, HV.out]; rfl, rfl⟩
    · have hltz : ¬ (i : Int) < (p.length : Int) := by omega
      rw [List.take_of_length_le (by omega)]
      cases h1 : p.all namedE with
      | false =>
        have H0 : Hid (r = 2) := by show _ = _; rw [HR2.out, h1]; rfl
        clear h1
        go_wp2_with fail
        go_ret
        exact ⟨ret_int H0.out.symm, rfl⟩
      | true =>
        cases h2 : p.all rightE with
        | false =>
          have H0 : Hid (r = 1) := by show _ = _; rw [HR2.out, h1, h2]; rfl
          clear h1 h2
          go_wp2_with fail
          go_ret
          exact ⟨ret_int H0.out.symm, rfl⟩
        | true =>
          cases h3 : p.all shortE with
          | false =>
            have H0 : Hid (r = 5) := by show _ = _; rw [HR2.out, h1, h2, h3]; rfl
            clear h1 h2 h3
            go_wp2_with fail
            go_ret
            exact ⟨ret_int H0.out.symm, rfl⟩
          | true =>
            have H0 : Hid (r = 0) := by show _ = _; rw [HR2.out, h1, h2, h3]; rfl
            clear h1 h2 h3
            go_wp2_with fail
            go_ret
            exact ⟨ret_int H0.out.symm, rfl⟩

theorem Tryz.infoEd : (Tryz.prog.info? 46).map (fun i => (i.zero, i.size, i.bytes)) = some (some (.agg #[.int .i64 0, .string ⟨#[]⟩, .string ⟨#[]⟩]), 3, 40) := by kernel_rfl

theorem neq_edit (a b : Ed) (w : World) : (binOp .neq 46 (.agg #[.int .i64 a.1, .string a.2.1, .string a.2.2]) (.agg #[.int .i64 b.1, .string b.2.1, .string b.2.2])).run Tryz.prog w = .ok (.bool (!decide (a = b))) w := by
  obtain ⟨a1, a2, a3⟩ := a
  obtain ⟨b1, b2, b3⟩ := b
  have hS : Tryz.prog.underlying 46 = some (.struct (Tryz.prog.fieldsOf 46)) := by kernel_rfl
  have hp : Tryz.prog.stoodInHeld 46 = false := by kernel_rfl
  have u9 := Tryz.underlying9
  have a9 := Tryz.isAgg9
  have z9 := Tryz.sizeOf9
  have u3 := Tryz.underlying3
  have a3' := Tryz.isAgg3
  have z3 := Tryz.sizeOf3
  rw [run_neq_struct, show (10000 : Nat) = 9999 + 1 from rfl, run_equalIn_agg w 9999 46 _ _ hS hp]
  simp only [Program.fieldsOf, Tryz.underlying46]
  go_simp
  by_cases h1 : a1 = b1
  · subst h1
    by_cases h2 : a2 = b2
    · subst h2
      by_cases h3 : a3 = b3
      · subst h3; simp
      · have e3 := beq_eq_false_iff_ne.1 (seq_false h3)
        simp [h3, e3]
    · have e2 := beq_eq_false_iff_ne.1 (seq_false h2)
      simp [h2, e2]
  · simp [h1]

set_option maxHeartbeats 2000000 in
set_option maxRecDepth 100000 in
theorem rsameE_any (v u : Value) (p q : List Ed) (w : World) (hv : KE.Is w v p) (hu : KE.Is w u q) (hl1 : p.length ≤ maxLen) :
    Calls Tryz.prog 17 #[v, u] w fun e w' => e = .returned (.bool (decide (p = q))) ∧ ∃ n, w' = w.drewN n := by
  unfold maxLen at hl1
  obtain ⟨a1, k1, rfl, hd1⟩ := hv
  obtain ⟨a2, k2, rfl, hd2⟩ := hu
  obtain ⟨r, hr⟩ : ∃ r, decide (p = q) = r := ⟨_, rfl⟩
  rw [hr]
  have HR := hid hr
  have HD1 := hid hd1
  have HD2 := hid hd2
  clear hr hd1 hd2
  by_cases hl : p.length = q.length
  · have hb : ((p.length : Int) != (q.length : Int)) = false := by simp [hl]
    have HL := hid hl
    clear hl
    go_enter Tryz.func17, Tryz.ntmps17
    go_wp2_with fail
    go_loopg [5] p.length (fun g vi wr => ∃ i m : Nat, vi = .int .i64 i ∧ i ≤ p.length ∧ p.length - i ≤ g ∧ wr = w.drewN m ∧ Hid (∀ j, j < i → p[j]? = q[j]?))
    case atStart => exact ⟨0, 0, rfl, by omega, by omega, rfl, fun j h => by omega⟩
    case round =>
      obtain ⟨i, m, rfl, hi, hg, rfl, HJ⟩ := hrel
      by_cases hlt : i < p.length
      · have hlt2 : i < q.length := by rw [← HL.out]; exact hlt
        have i1 : (0 : Int) ≤ ↑i := by omega
        have i2 : (↑i : Int) < ↑p.length := by omega
        have i3 : (↑i : Int) < ↑q.length := by omega
        rcases HD1.out with hn | ⟨b1, o1, rfl, k1⟩
        · rw [hn] at hlt; simp at hlt
        rcases HD2.out with hn | ⟨b2, o2, rfl, k2⟩
        · rw [hn] at hlt2; simp at hlt2
        obtain ⟨x0, x1, x2⟩ := ke_cells k1 i hlt
        obtain ⟨y0, y1, y2⟩ := ke_cells k2 i hlt2
        have hne := fun W => neq_edit p[i] q[i] W
        have G1 := hid (List.getElem?_eq_getElem hlt)
        have G2 := hid (List.getElem?_eq_getElem hlt2)
        obtain ⟨x, hx⟩ : ∃ x, p[i] = x := ⟨_, rfl⟩
        obtain ⟨y, hy⟩ : ∃ y, q[i] = y := ⟨_, rfl⟩
        rw [hx] at x0 x1 x2 hne G1
        rw [hy] at y0 y1 y2 hne G2
        clear k1 k2 hx hy
        by_cases hst : x = y
        · have hd := decide_eq_true hst
          rw [hd] at hne
          have HS := hid hst
          clear hst hd
          go_wp2_with fail
          go_quiet (fail)
          go_wp2_with fail
          go_roundg (p.length - (i + 1))
          case measure => omega
          refine ⟨i + 1, _, by go_num, by omega, by omega, rfl, fun j hj => ?_⟩
          by_cases e : j = i
          · subst e; rw [G1.out, G2.out, HS.out]
          · exact HJ.out j (by omega)
        · have hd := decide_eq_false hst
          rw [hd] at hne
          have H0 : Hid (r = false) := HR.out.symm.trans (decide_eq_false fun e => hst (by
            have := G1.out
            rw [e, G2.out] at this
            exact (Option.some.inj this).symm))
          clear hst hd
          go_wp2_with fail
          go_quiet (fail)
          go_wp2_with fail
          go_ret
          exact ⟨ret_bool H0.out.symm, _, by rw [World.drewN_drewN]⟩
      · have hltz : ¬ (i : Int) < (p.length : Int) := by omega
        have H0 : Hid (r = true) := HR.out.symm.trans (decide_eq_true (List.ext_getElem? fun j => by
          by_cases hj : j < p.length
          · exact HJ.out j (by omega)
          · rw [List.getElem?_eq_none (by omega), List.getElem?_eq_none (by have := HL.out; omega)]))
        go_wp2_with fail
        go_ret
        exact ⟨ret_bool H0.out.symm, _, rfl⟩
  · have hb : ((p.length : Int) != (q.length : Int)) = true := by simp; omega
    have H0 : Hid (r = false) := HR.out.symm.trans (decide_eq_false fun e => hl (by rw [e]))
    clear hl
    go_enter Tryz.func17, Tryz.ntmps17
    go_wp2_with fail
    go_ret
    exact ⟨ret_bool H0.out.symm, 0, rfl⟩

/-- A kind's sign. -/
def signS (k : Int) : ByteArray := if k = 1 then ⟨#[58, 61]⟩ else if k = 2 then ⟨#[43, 61]⟩ else if k = 3 then ⟨#[45, 61]⟩ else if k = 4 then ⟨#[126]⟩ else ⟨#[61, 61]⟩

set_option maxHeartbeats 2000000 in
theorem rsign_any (k : Int) (w : World) : Calls Tryz.prog 41 #[.int .i64 k] w fun e w' => e = .returned (.string (signS k)) ∧ w' = w := by
  by_cases h1 : k = 1
  · subst h1
    go_enter Tryz.func41, Tryz.ntmps41
    go_wp2_with fail
    go_ret
    exact ⟨rfl, rfl⟩
  · by_cases h2 : k = 2
    · subst h2
      go_enter Tryz.func41, Tryz.ntmps41
      go_wp2_with fail
      go_ret
      exact ⟨rfl, rfl⟩
    · by_cases h3 : k = 3
      · subst h3
        go_enter Tryz.func41, Tryz.ntmps41
        go_wp2_with fail
        go_ret
        exact ⟨rfl, rfl⟩
      · by_cases h4 : k = 4
        · subst h4
          go_enter Tryz.func41, Tryz.ntmps41
          go_wp2_with fail
          go_ret
          exact ⟨rfl, rfl⟩
        · have b1 : (k == 1) = false := beq_eq_false_iff_ne.2 h1
          have b2 : (k == 2) = false := beq_eq_false_iff_ne.2 h2
          have b3 : (k == 3) = false := beq_eq_false_iff_ne.2 h3
          have b4 : (k == 4) = false := beq_eq_false_iff_ne.2 h4
          have H0 : Hid (signS k = ⟨#[61, 61]⟩) := by show _ = _; unfold signS; rw [if_neg h1, if_neg h2, if_neg h3, if_neg h4]
          clear h1 h2 h3 h4
          go_enter Tryz.func41, Tryz.ntmps41
          go_wp2_with fail
          go_ret
          rw [H0.out]
          exact ⟨rfl, rfl⟩

/-- The kind of a sign's first byte, or 0. -/
def kindN (c : Int) : Int := if c = 58 then 1 else if c = 43 then 2 else if c = 45 then 3 else if c = 126 then 4 else if c = 61 then 5 else 0

theorem kindN_range (c : Int) : 0 ≤ kindN c ∧ kindN c ≤ 5 := by
  unfold kindN
  repeat' split
  all_goals omega

end Go.Proofs.YtelcongbnmfegaaGreatDoor

/-
  The contract of May of edits.
-/
namespace Go.Proofs.YtelcongbnmfegaaGreatDoor
open Go.RowKit Go.Sort Go.Lib

set_option maxHeartbeats 1000000 in
theorem emis_any (x : Ed) (w : World) (hs : x.2.1.size ≤ maxLen) : Calls Tryz.prog 31 #[.agg (encE x).toArray] w fun e w' => e = .returned (.bool (!namedE x)) ∧ Grown w w' := by
  obtain ⟨o, a, t⟩ := x
  simp only [encE, namedE] at hs ⊢
  go_enter Tryz.func31, Tryz.ntmps31
  go_wp2_with (go_at_call 62; refine (field_any _ _ hs).mono ?_; rintro e w' ⟨rfl, rfl⟩)
  go_ret
  exact ⟨rfl, (Grown.refl _).alloc _⟩

set_option maxHeartbeats 1000000 in
theorem elong_any (x : Ed) (w : World) : Calls Tryz.prog 33 #[.agg (encE x).toArray] w fun e w' => e = .returned (.bool (!shortE x)) ∧ Grown w w' := by
  obtain ⟨o, a, t⟩ := x
  simp only [encE, shortE]
  have HE : Hid (decide ((128 : Int) < t.size) = !decide (t.size ≤ 128)) := by
    show _ = _
    rw [Bool.eq_iff_iff]; simp; omega
  go_enter Tryz.func33, Tryz.ntmps33
  go_wp2_with fail
  go_ret
  exact ⟨ret_bool HE.out, (Grown.refl _).alloc _⟩

set_option maxHeartbeats 2000000 in
theorem eunm_any (x : Ed) (w : World) : Calls Tryz.prog 32 #[.agg (encE x).toArray] w fun e w' => e = .returned (.bool (!rightE x)) ∧ Grown w w' := by
  obtain ⟨o, a, t⟩ := x
  simp only [encE]
  by_cases h4 : o = 4
  · have HE : Hid ((!t.toList.isEmpty) = !rightE (o, a, t)) := by
      show _ = _
      unfold rightE
      have e1 : decide (1 ≤ o) = true := decide_eq_true (by omega)
      have e2 : decide (o ≤ 5) = true := decide_eq_true (by omega)
      have e3 : decide (o ≠ 4) = false := decide_eq_false (by omega)
      simp only [e1, e2, e3, Bool.true_and, Bool.false_or]
      congr 1
      by_cases hz : t.size = 0
      · rw [sempty_of hz, decide_eq_true hz]
      · rw [sfull_of hz, decide_eq_false hz]
    subst h4
    go_enter Tryz.func32, Tryz.ntmps32
    go_wp2_with fail
    go_ret
    exact ⟨ret_bool HE.out, (Grown.refl _).alloc _⟩
  · by_cases h5 : o = 1 ∨ o = 2 ∨ o = 3 ∨ o = 5
    · have HE : Hid (false = !rightE (o, a, t)) := by
        show _ = _
        unfold rightE
        have e1 : decide (1 ≤ o) = true := decide_eq_true (by omega)
        have e2 : decide (o ≤ 5) = true := decide_eq_true (by omega)
        have e3 : decide (o ≠ 4) = true := decide_eq_true (by omega)
        simp only [e1, e2, e3, Bool.true_and, Bool.true_or, Bool.not_true]
      rcases h5 with rfl | rfl | rfl | rfl <;>
      · go_enter Tryz.func32, Tryz.ntmps32
        go_wp2_with fail
        go_ret
        exact ⟨ret_bool HE.out, (Grown.refl _).alloc _⟩
    · have HE : Hid (true = !rightE (o, a, t)) := by
        show _ = _
        unfold rightE
        by_cases e1 : 1 ≤ o
        · have e2 : decide (o ≤ 5) = false := decide_eq_false (by omega)
          simp [e2]
        · simp [e1]
      have n1 : (o == 1) = false := by simp; omega
      have n2 : (o == 2) = false := by simp; omega
      have n3 : (o == 3) = false := by simp; omega
      have n4 : (o == 4) = false := by simp; omega
      have n5 : (o == 5) = false := by simp; omega
      clear h4 h5
      go_enter Tryz.func32, Tryz.ntmps32
      go_wp2_with fail
      go_ret
      exact ⟨ret_bool HE.out, (Grown.refl _).alloc _⟩

/-- An edit whose texts a machine can hold. -/
def Ef : Type := { x : Ed // x.2.1.size ≤ maxLen ∧ x.2.2.size ≤ maxLen ∧ -9223372036854775808 ≤ x.1 ∧ x.1 ≤ 9223372036854775807 }
def efNone : Ef := ⟨(0, ⟨#[]⟩, ⟨#[]⟩), Nat.zero_le _, Nat.zero_le _, by decide, by decide⟩

set_option maxHeartbeats 1000000 in
theorem hasE_none (p : Option Addr) (c : Nat) (fv : Value) (w : World) :
    Calls Tryz.prog 30 #[.slice p 0 c, fv] w fun e w' => e = .returned (.bool false) ∧ w' = w := by
  have hix : Calls Tryz.prog 61 #[.slice p 0 c, fv] w fun e w' => e = .returned (.int .i64 (-1)) ∧ w' = w := by
    go_enter Tryz.func61, Tryz.ntmps61
    go_wp2_with fail
    refine wp_loop_rounds 1 ?_
    rw [rounds_succ]
    go_wp2_with fail
    go_ret
    exact ⟨rfl, rfl⟩
  have HX := hid hix
  clear hix
  go_enter Tryz.func30, Tryz.ntmps30
  go_wp2_with (first | (go_at_call 61; refine HX.out.mono ?_; rintro e w1 ⟨rfl, rfl⟩))
  go_ret
  exact ⟨rfl, rfl⟩

theorem ke_enc {w : World} {b off : Nat} {p : List Ed} (h : KE.At w b off p) (j : Nat) (hj : j < p.length) (i : Nat) (v : Value) (hv : (encE p[j])[i]? = some v) : w.cell? ⟨b, off + j * 3 + i, none⟩ = some v := h j hj i v hv

theorem hasE_any (f : Ed → Bool) (k : Nat) (lb : Array Value) (ent : ∀ args w, (callFunc k args).run Tryz.prog w = .ok (.enter k args) w) (v : Value) (p : List Ed) (w : World) (hv : KE.Is w v p) (hf : FitE p)
    (hk : ∀ (W : World) (x : Ed), Below w.heap.size w W → x.2.1.size ≤ maxLen → x.2.2.size ≤ maxLen → (-9223372036854775808 ≤ x.1 ∧ x.1 ≤ 9223372036854775807) → Calls Tryz.prog k (#[.agg (encE x).toArray] ++ lb) W fun e w' => e = .returned (.bool (f x)) ∧ Below w.heap.size w w') :
    Calls Tryz.prog 30 #[v, .func (.func k) #[] lb] w fun e w' => e = .returned (.bool (p.any f)) ∧ Below w.heap.size w w' := by
  obtain ⟨q, cap, rfl, hd⟩ := hv
  by_cases h0 : p = []
  · subst h0
    refine (hasE_none q cap _ w).mono ?_
    rintro e w' ⟨rfl, rfl⟩
    exact ⟨rfl, Below.refl _ _⟩
  · rcases hd with hd | ⟨b, off, rfl, hx⟩
    · exact absurd hd h0
    · have hlen : 0 < p.length := List.length_pos_iff.2 h0
      have hl := hf.1
      unfold maxLen at hl
      have hfn : ∀ x ∈ p, x.2.1.size ≤ maxLen ∧ x.2.2.size ≤ maxLen ∧ -9223372036854775808 ≤ x.1 ∧ x.1 ≤ 9223372036854775807 := hf.2
      obtain ⟨zs, hzs⟩ : ∃ zs : List Ef, zs.map (·.1) = p := ⟨p.attachWith _ hfn, List.attachWith_map_subtype_val ..⟩
      have hzl : zs.length = p.length := by rw [← hzs, List.length_map]
      letI : Inhabited Ef := ⟨efNone⟩
      have hc := AnyQ.slices_ContainsFunc (α := Ef) Tryz.hasEdt 3 Tryz.isAgg46 Tryz.sizeOf46 (fun x => encE x.1) (fun _ => rfl) (fun x => f x.1) k lb ent b off p.length cap zs w
        (fun W x hb => hk W x.1 hb x.2.1 x.2.2.1 x.2.2.2) (by omega) (by omega) (cell_block (hx 0 hlen 0 _ rfl))
        (fun j hj i u hu => by
          have hj' : j < p.length := by omega
          rw [getElem!_pos zs j hj] at hu
          have e : (zs[j]).1 = p[j] := by subst hzs; simp
          rw [e] at hu
          exact ke_enc hx j hj' i u hu)
      change Calls Tryz.prog 30 _ _ _ at hc
      refine hc.mono ?_
      rintro e w' ⟨rfl, hb⟩
      refine ⟨ret_bool ?_, hb⟩
      rw [List.take_of_length_le (by omega), ← hzs]
      simp [List.any_map, Function.comp_def]

theorem enters_emis : ∀ args w, (callFunc 31 args).run Tryz.prog w = .ok (.enter 31 args) w := enters_of Tryz.func31 (by kernel_rfl) rfl
theorem enters_eunm : ∀ args w, (callFunc 32 args).run Tryz.prog w = .ok (.enter 32 args) w := enters_of Tryz.func32 (by kernel_rfl) rfl
theorem enters_elong : ∀ args w, (callFunc 33 args).run Tryz.prog w = .ok (.enter 33 args) w := enters_of Tryz.func33 (by kernel_rfl) rfl

theorem any_notE (p : List Ed) (f : Ed → Bool) : p.any (fun x => !f x) = !p.all f := by
  induction p with
  | nil => rfl
  | cons x p ih => simp only [List.any_cons, List.all_cons, ih, Bool.not_and]

theorem hasMisE (v : Value) (p : List Ed) (w : World) (hv : KE.Is w v p) (hf : FitE p) : Calls Tryz.prog 30 #[v, .func (.func 31) #[] #[]] w fun e w' => e = .returned (.bool (!p.all namedE)) ∧ Below w.heap.size w w' := by
  have := hasE_any (fun x => !namedE x) 31 #[] enters_emis v p w hv hf (fun W x hb h1 _ _ => (emis_any x W h1).mono fun _ _ ⟨h2, h3⟩ => ⟨h2, hb.trans (h3.below.mono hb.size)⟩)
  rwa [any_notE] at this
theorem hasUnmE (v : Value) (p : List Ed) (w : World) (hv : KE.Is w v p) (hf : FitE p) : Calls Tryz.prog 30 #[v, .func (.func 32) #[] #[]] w fun e w' => e = .returned (.bool (!p.all rightE)) ∧ Below w.heap.size w w' := by
  have := hasE_any (fun x => !rightE x) 32 #[] enters_eunm v p w hv hf (fun W x hb _ _ _ => (eunm_any x W).mono fun _ _ ⟨h2, h3⟩ => ⟨h2, hb.trans (h3.below.mono hb.size)⟩)
  rwa [any_notE] at this
theorem hasLngE (v : Value) (p : List Ed) (w : World) (hv : KE.Is w v p) (hf : FitE p) : Calls Tryz.prog 30 #[v, .func (.func 33) #[] #[]] w fun e w' => e = .returned (.bool (!p.all shortE)) ∧ Below w.heap.size w w' := by
  have := hasE_any (fun x => !shortE x) 33 #[] enters_elong v p w hv hf (fun W x hb _ _ _ => (elong_any x W).mono fun _ _ ⟨h2, h3⟩ => ⟨h2, hb.trans (h3.below.mono hb.size)⟩)
  rwa [any_notE] at this

set_option maxHeartbeats 2000000 in
set_option maxRecDepth 100000 in
theorem pmayE_raw (v : Value) (p : List Ed) (w : World) (hv : KE.Is w v p) (hf : FitE p) :
    Calls Tryz.prog 13 #[v] w fun e w' => e = .returned (.int .i64 (mayE p)) ∧ Below w.heap.size w w' := by
  obtain ⟨q, cap, hvv⟩ : ∃ q cap, v = .slice q p.length cap := by obtain ⟨q, cap, h, _⟩ := hv; exact ⟨q, cap, h⟩
  subst hvv
  have HV := hid hv
  have HF := hid hf
  have H1 := hid (hasMisE _ p w hv hf)
  obtain ⟨m, hm⟩ : ∃ m, mayE p = m := ⟨_, rfl⟩
  rw [hm]
  have HM := hid hm
  clear hm hv hf
  unfold mayE at HM
  by_cases h16 : 16 < p.length
  · have h16z : (16 : Int) < (p.length : Int) := by omega
    have HR : Hid (5 = m) := by have := HM.out; rw [if_pos h16] at this; exact this
    go_enter Tryz.func13, Tryz.ntmps13
    go_wp2_with fail
    go_ret
    exact ⟨ret_int HR.out, Below.refl _ _⟩
  · have h16z : ¬ (16 : Int) < (p.length : Int) := by omega
    rw [if_neg h16] at HM
    cases a1 : p.all namedE with
    | false =>
      rw [a1] at H1
      have HR : Hid (2 = m) := by have := HM.out; rw [if_pos a1] at this; exact this
      go_enter Tryz.func13, Tryz.ntmps13
      go_wp2_with (go_at_call 30; refine H1.out.mono ?_; rintro e w1 ⟨rfl, hb1⟩)
      go_ret
      exact ⟨ret_int HR.out, hb1⟩
    | true =>
      rw [a1] at H1
      rw [if_neg (by rw [a1]; simp)] at HM
      have H2 : Hid (∀ W, Below w.heap.size w W → Calls Tryz.prog 30 #[.slice q p.length cap, .func (.func 32) #[] #[]] W fun e w' => e = .returned (.bool (!p.all rightE)) ∧ Below W.heap.size W w') := fun W hb => hasUnmE _ p W (Kind.is_kept HV.out hb) HF.out
      have H3 : Hid (∀ W, Below w.heap.size w W → Calls Tryz.prog 30 #[.slice q p.length cap, .func (.func 33) #[] #[]] W fun e w' => e = .returned (.bool (!p.all shortE)) ∧ Below W.heap.size W w') := fun W hb => hasLngE _ p W (Kind.is_kept HV.out hb) HF.out
      cases a2 : p.all rightE with
      | false =>
        rw [a2] at H2
        have HR : Hid (1 = m) := by have := HM.out; rw [if_pos a2] at this; exact this
        go_enter Tryz.func13, Tryz.ntmps13
        go_wp2_with (first | (go_at_call 30; refine H1.out.mono ?_; rintro e w1 ⟨rfl, hb1⟩) | (go_at_call 30; refine (H2.out w1 hb1).mono ?_; rintro e w2 ⟨rfl, hb2⟩))
        go_ret
        exact ⟨ret_int HR.out, bel_then hb1 hb1.size hb2⟩
      | true =>
        rw [a2] at H2
        rw [if_neg (by rw [a2]; simp)] at HM
        have h12 : Hid (∀ w1 w2, Below w.heap.size w w1 → Below w1.heap.size w1 w2 → Below w.heap.size w w2) := fun w1 w2 h k => bel_then h h.size k
        cases a3 : p.all shortE with
        | false =>
          rw [a3] at H3
          have HR : Hid (5 = m) := by have := HM.out; rw [if_pos a3] at this; exact this
          go_enter Tryz.func13, Tryz.ntmps13
          go_wp2_with (first | (go_at_call 30; refine H1.out.mono ?_; rintro e w1 ⟨rfl, hb1⟩) | (go_at_call 30; refine (H2.out w1 hb1).mono ?_; rintro e w2 ⟨rfl, hb2⟩; have hb12 := h12.out _ _ hb1 hb2) | (go_at_call 30; refine (H3.out w2 hb12).mono ?_; rintro e w3 ⟨rfl, hb3⟩))
          go_ret
          exact ⟨ret_int HR.out, bel_then hb12 hb12.size hb3⟩
        | true =>
          rw [a3] at H3
          have HR : Hid (0 = m) := by have := HM.out; rw [if_neg (by rw [a3]; simp)] at this; exact this
          go_enter Tryz.func13, Tryz.ntmps13
          go_wp2_with (first | (go_at_call 30; refine H1.out.mono ?_; rintro e w1 ⟨rfl, hb1⟩) | (go_at_call 30; refine (H2.out w1 hb1).mono ?_; rintro e w2 ⟨rfl, hb2⟩; have hb12 := h12.out _ _ hb1 hb2) | (go_at_call 30; refine (H3.out w2 hb12).mono ?_; rintro e w3 ⟨rfl, hb3⟩))
          go_ret
          exact ⟨ret_int HR.out, bel_then hb12 hb12.size hb3⟩

end Go.Proofs.YtelcongbnmfegaaGreatDoor

/-
  An edit in a block of its own.
-/
namespace Go.Proofs.YtelcongbnmfegaaGreatDoor
open Go.RowKit Go.Lib

theorem belE_drew {B : Nat} {a w : World} (h : Below B a w) (n : Nat) : Below B a (w.drewN n) := ⟨h.os, h.tape, h.output, h.size, h.block⟩

def BoxE (w : World) (g : Nat) (x : Ed) : Prop := w.heap[g]? = some (.cells #[.int .i64 x.1, .string x.2.1, .string x.2.2] 46 (0, 0))
theorem BoxE.cells {w : World} {g : Nat} {x : Ed} (h : BoxE w g x) : w.cell? ⟨g, 0, none⟩ = some (.int .i64 x.1) ∧ w.cell? ⟨g, 1, none⟩ = some (.string x.2.1) ∧ w.cell? ⟨g, 2, none⟩ = some (.string x.2.2) := by
  rw [Lib.cell_of_heap h, Lib.cell_of_heap h, Lib.cell_of_heap h]
  exact ⟨rfl, rfl, rfl⟩
theorem BoxE.lt {w : World} {g : Nat} {x : Ed} (h : BoxE w g x) : g < w.heap.size := (Array.getElem?_eq_some_iff.1 h).1
theorem BoxE.on {w w' : World} {g : Nat} {x : Ed} (h : BoxE w g x) (hb : Below w.heap.size w w') : BoxE w' g x := (hb.block g h.lt).trans h
theorem boxE_new (w : World) (x : Ed) : BoxE (w.alloc (.cells #[.int .i64 x.1, .string x.2.1, .string x.2.2] 46)) w.heap.size x := heap_alloc_new w _
theorem boxE_put {W : World} {R : Nat} {x : Ed} (h : BoxE W R x) (y : Ed) :
    BoxE (((W.setCell ⟨R, 0, none⟩ (.int .i64 y.1)).setCell ⟨R, 1, none⟩ (.string y.2.1)).setCell ⟨R, 2, none⟩ (.string y.2.2)) R y :=
  heap_setCell_same _ R 2 _ _ _ (heap_setCell_same _ R 1 _ _ _ (heap_setCell_same W R 0 _ _ _ h))
theorem boxE_text {W : World} {R : Nat} {x : Ed} (h : BoxE W R x) (t : ByteArray) : BoxE (W.setCell ⟨R, 2, none⟩ (.string t)) R (x.1, x.2.1, t) := heap_setCell_same W R 2 _ _ _ h
theorem boxE_free {W : World} {R : Nat} {x : Ed} (h : BoxE W R x) : W.frozen? ⟨R, 0, none⟩ = false ∧ W.frozen? ⟨R, 1, none⟩ = false ∧ W.frozen? ⟨R, 2, none⟩ = false :=
  ⟨Lib.frozen_of_heap h 0, Lib.frozen_of_heap h 1, Lib.frozen_of_heap h 2⟩
theorem belE_put {B R : Nat} {w W : World} (h : Below B w W) (hR : B ≤ R) (y : Ed) : Below B w (((W.setCell ⟨R, 0, none⟩ (.int .i64 y.1)).setCell ⟨R, 1, none⟩ (.string y.2.1)).setCell ⟨R, 2, none⟩ (.string y.2.2)) :=
  ((h.setCell (p := ⟨R, 0, none⟩) hR _).setCell (p := ⟨R, 1, none⟩) hR _).setCell (p := ⟨R, 2, none⟩) hR _

end Go.Proofs.YtelcongbnmfegaaGreatDoor

/-
  The contracts of the reference's plain, digit and hex.
-/
namespace Go.Proofs.YtelcongbnmfegaaGreatDoor
open Go.RowKit

theorem plainB_of (n : Int) (h : plainRuns.any (fun r => decide (r.1 ≤ n) && decide (n ≤ r.2)) = true) : plainB n = true := h

theorem plain_ranges (n : Int) (g0 : (45 == n) = false) (g1 : (46 == n) = false) (g2 : (95 == n) = false) (g3 : (124 == n) = false) (g4 : (42 == n) = false) (g5 : (64 == n) = false) (g6 : (47 == n) = false) (g7 : (58 == n) = false) (g8 : (43 == n) = false) (g9 : (44 == n) = false) :
    plainB n = (decide (48 ≤ n) && decide (n ≤ 57) || decide (65 ≤ n) && decide (n ≤ 90) || decide (97 ≤ n) && decide (n ≤ 122)) := by
  rw [beq_eq_false_iff_ne] at *
  unfold plainB plainRuns
  simp only [List.any_cons, List.any_nil, Bool.or_false]
  have e : ∀ k : Int, k ≠ n → (decide (k ≤ n) && decide (n ≤ k)) = false := fun k hk => by
    rw [Bool.and_eq_false_iff, decide_eq_false_iff_not, decide_eq_false_iff_not]; omega
  rw [e 45 g0, e 46 g1, e 95 g2, e 124 g3, e 42 g4, e 64 g5, e 47 g6, e 58 g7, e 43 g8, e 44 g9]
  simp only [Bool.or_false]
  generalize (decide (97 ≤ n) && decide (n ≤ 122)) = a
  generalize (decide (65 ≤ n) && decide (n ≤ 90)) = b
  generalize (decide (48 ≤ n) && decide (n ≤ 57)) = c
  cases a <;> cases b <;> cases c <;> rfl

set_option maxHeartbeats 4000000 in
set_option maxRecDepth 100000 in
theorem rplain_any (n : Int) (w : World) : Calls Tryz.prog 73 #[.int .u8 n] w fun e w' => e = .returned (.bool (plainB n)) ∧ w' = w := by
  have sign : ∀ k : Nat, k < 10 → ∀ c : Int, ([45, 46, 95, 124, 42, 64, 47, 58, 43, 44] : List Int)[k]? = some c → plainB c = true := by
    intro k hk c hc
    have : ∀ c ∈ ([45, 46, 95, 124, 42, 64, 47, 58, 43, 44] : List Int), plainB c = true := by decide
    exact this c (List.mem_of_getElem? hc)
  by_cases h : ∃ k : Nat, k < 10 ∧ ([45, 46, 95, 124, 42, 64, 47, 58, 43, 44] : List Int)[k]? = some n
  · obtain ⟨k, hk, hn⟩ := h
    have HP := hid (sign k hk n hn)
    clear sign
    have : k = 0 ∨ k = 1 ∨ k = 2 ∨ k = 3 ∨ k = 4 ∨ k = 5 ∨ k = 6 ∨ k = 7 ∨ k = 8 ∨ k = 9 := by omega
    rcases this with rfl | rfl | rfl | rfl | rfl | rfl | rfl | rfl | rfl | rfl
    all_goals
      simp only [List.getElem?_cons_zero, List.getElem?_cons_succ, Option.some.injEq] at hn
      subst hn
      go_enter Tryz.func73, Tryz.ntmps73
      go_wp2
      refine wp_loop_rounds 11 ?_
      repeat (rw [rounds_succ]; go_wp2)
      go_ret
      exact ⟨ret_bool HP.out.symm, rfl⟩
  · have hne : ∀ k : Nat, k < 10 → ∀ c : Int, ([45, 46, 95, 124, 42, 64, 47, 58, 43, 44] : List Int)[k]? = some c → (c == n) = false := fun k hk c hc => by
      rw [beq_eq_false_iff_ne]
      intro e
      subst e
      exact h ⟨k, hk, hc⟩
    have g0 := hne 0 (by decide) 45 rfl; have g1 := hne 1 (by decide) 46 rfl; have g2 := hne 2 (by decide) 95 rfl; have g3 := hne 3 (by decide) 124 rfl; have g4 := hne 4 (by decide) 42 rfl
    have g5 := hne 5 (by decide) 64 rfl; have g6 := hne 6 (by decide) 47 rfl; have g7 := hne 7 (by decide) 58 rfl; have g8 := hne 8 (by decide) 43 rfl; have g9 := hne 9 (by decide) 44 rfl
    have HR := hid (plain_ranges n g0 g1 g2 g3 g4 g5 g6 g7 g8 g9)
    clear hne h sign
    have z0 : ((⟨#[45, 46, 95, 124, 42, 64, 47, 58, 43, 44]⟩ : ByteArray)[0]'(by decide)).toNat = 45 := rfl
    have z1 : ((⟨#[45, 46, 95, 124, 42, 64, 47, 58, 43, 44]⟩ : ByteArray)[1]'(by decide)).toNat = 46 := rfl
    have z2 : ((⟨#[45, 46, 95, 124, 42, 64, 47, 58, 43, 44]⟩ : ByteArray)[2]'(by decide)).toNat = 95 := rfl
    have z3 : ((⟨#[45, 46, 95, 124, 42, 64, 47, 58, 43, 44]⟩ : ByteArray)[3]'(by decide)).toNat = 124 := rfl
    have z4 : ((⟨#[45, 46, 95, 124, 42, 64, 47, 58, 43, 44]⟩ : ByteArray)[4]'(by decide)).toNat = 42 := rfl
    have z5 : ((⟨#[45, 46, 95, 124, 42, 64, 47, 58, 43, 44]⟩ : ByteArray)[5]'(by decide)).toNat = 64 := rfl
    have z6 : ((⟨#[45, 46, 95, 124, 42, 64, 47, 58, 43, 44]⟩ : ByteArray)[6]'(by decide)).toNat = 47 := rfl
    have z7 : ((⟨#[45, 46, 95, 124, 42, 64, 47, 58, 43, 44]⟩ : ByteArray)[7]'(by decide)).toNat = 58 := rfl
    have z8 : ((⟨#[45, 46, 95, 124, 42, 64, 47, 58, 43, 44]⟩ : ByteArray)[8]'(by decide)).toNat = 43 := rfl
    have z9 : ((⟨#[45, 46, 95, 124, 42, 64, 47, 58, 43, 44]⟩ : ByteArray)[9]'(by decide)).toNat = 44 := rfl
    go_enter Tryz.func73, Tryz.ntmps73
    go_wp2
    refine wp_loop_rounds 11 ?_
    repeat (rw [rounds_succ]; go_wp2)
    all_goals go_ret
    all_goals refine ⟨ret_bool ?_, rfl⟩
    all_goals (rw [HR.out, Bool.eq_iff_iff]; first | (simp; omega) | simp | omega)

end Go.Proofs.YtelcongbnmfegaaGreatDoor

/-
  The contracts of the reference's digit and hex.
-/
namespace Go.Proofs.YtelcongbnmfegaaGreatDoor
open Go.RowKit

set_option maxHeartbeats 1000000 in
theorem rdigit_any (k : Nat) (hk : k < 16) (w : World) : Calls Tryz.prog 74 #[.int .u8 (k : Nat)] w fun e w' => e = .returned (.int .u8 ((hexd k).toNat : Nat)) ∧ w' = w := by
  have : k = 0 ∨ k = 1 ∨ k = 2 ∨ k = 3 ∨ k = 4 ∨ k = 5 ∨ k = 6 ∨ k = 7 ∨ k = 8 ∨ k = 9 ∨ k = 10 ∨ k = 11 ∨ k = 12 ∨ k = 13 ∨ k = 14 ∨ k = 15 := by omega
  rcases this with rfl | rfl | rfl | rfl | rfl | rfl | rfl | rfl | rfl | rfl | rfl | rfl | rfl | rfl | rfl | rfl
  all_goals
    go_enter Tryz.func74, Tryz.ntmps74
    go_wp2
    go_ret
    exact ⟨rfl, rfl⟩

/-- The number of a digit, or 16. -/
def hexN (c : UInt8) : Nat := if 48 ≤ c.toNat ∧ c.toNat ≤ 57 then c.toNat - 48 else if 97 ≤ c.toNat ∧ c.toNat ≤ 102 then c.toNat - 87 else 16

theorem hexN_table : ((List.range 256).all fun n => decide (hexv (UInt8.ofNat n) = if hexN (UInt8.ofNat n) = 16 then -1 else (hexN (UInt8.ofNat n) : Int))) = true := by kernel_rfl
theorem hexN_eq (c : UInt8) : hexv c = if hexN c = 16 then -1 else (hexN c : Int) := by
  have h := List.all_eq_true.1 hexN_table c.toNat (List.mem_range.2 c.toNat_lt)
  rw [decide_eq_true_eq, UInt8.ofNat_toNat] at h
  exact h
theorem hexN_le (c : UInt8) : hexN c ≤ 16 := by unfold hexN; split <;> (try split) <;> omega

set_option maxHeartbeats 1000000 in
theorem rhex_any (c : UInt8) (w : World) : Calls Tryz.prog 114 #[.int .u8 (c.toNat : Nat)] w fun e w' => e = .returned (.int .u8 (hexN c : Nat)) ∧ w' = w := by
  have hc := c.toNat_lt
  have HN : Hid (hexN c = if 48 ≤ c.toNat ∧ c.toNat ≤ 57 then c.toNat - 48 else if 97 ≤ c.toNat ∧ c.toNat ≤ 102 then c.toNat - 87 else 16) := rfl
  obtain ⟨r, hr⟩ : ∃ r, hexN c = r := ⟨_, rfl⟩
  rw [hr]
  rw [hr] at HN
  clear hr
  by_cases h1 : 48 ≤ c.toNat ∧ c.toNat ≤ 57
  · have a1 : decide ((48 : Int) ≤ (c.toNat : Int)) = true := decide_eq_true (by omega)
    have a2 : decide ((c.toNat : Int) ≤ 57) = true := decide_eq_true (by omega)
    have H : Hid ((c.toNat : Int) - 48 = (r : Int)) := by show _ = _; rw [HN.out, if_pos h1]; omega
    go_enter Tryz.func114, Tryz.ntmps114
    go_wp2
    go_ret
    exact ⟨congrArg (fun z => Ending.returned (.int .u8 z)) H.out, rfl⟩
  · by_cases h2 : 97 ≤ c.toNat ∧ c.toNat ≤ 102
    · have a0 : decide ((48 : Int) ≤ (c.toNat : Int)) = true := decide_eq_true (by omega)
      have a00 : decide ((c.toNat : Int) ≤ 57) = false := decide_eq_false (by omega)
      have a1 : decide ((97 : Int) ≤ (c.toNat : Int)) = true := decide_eq_true (by omega)
      have a2 : decide ((c.toNat : Int) ≤ 102) = true := decide_eq_true (by omega)
      have H : Hid ((c.toNat : Int) - 87 = (r : Int)) := by show _ = _; rw [HN.out, if_neg h1, if_pos h2]; omega
      go_enter Tryz.func114, Tryz.ntmps114
      go_wp2
      go_ret
      exact ⟨congrArg (fun z => Ending.returned (.int .u8 z)) H.out, rfl⟩
    · have H : Hid ((16 : Int) = (r : Int)) := by show _ = _; rw [HN.out, if_neg h1, if_neg h2]; rfl
      clear HN
      by_cases h3 : c.toNat < 48
      · have a1 : decide ((48 : Int) ≤ (c.toNat : Int)) = false := decide_eq_false (by omega)
        have a2 : decide ((97 : Int) ≤ (c.toNat : Int)) = false := decide_eq_false (by omega)
        go_enter Tryz.func114, Tryz.ntmps114
        go_wp2
        go_ret
        exact ⟨congrArg (fun z => Ending.returned (.int .u8 z)) H.out, rfl⟩
      · have a1 : decide ((48 : Int) ≤ (c.toNat : Int)) = true := decide_eq_true (by omega)
        have a2 : decide ((c.toNat : Int) ≤ 57) = false := decide_eq_false (by omega)
        by_cases h4 : c.toNat < 97
        · have a3 : decide ((97 : Int) ≤ (c.toNat : Int)) = false := decide_eq_false (by omega)
          go_enter Tryz.func114, Tryz.ntmps114
          go_wp2
          go_ret
          exact ⟨congrArg (fun z => Ending.returned (.int .u8 z)) H.out, rfl⟩
        · have a3 : decide ((97 : Int) ≤ (c.toNat : Int)) = true := decide_eq_true (by omega)
          have a4 : decide ((c.toNat : Int) ≤ 102) = false := decide_eq_false (by omega)
          go_enter Tryz.func114, Tryz.ntmps114
          go_wp2
          go_ret
          exact ⟨congrArg (fun z => Ending.returned (.int .u8 z)) H.out, rfl⟩

end Go.Proofs.YtelcongbnmfegaaGreatDoor

/-
  The contract of the reference's May.
-/
namespace Go.Proofs.YtelcongbnmfegaaGreatDoor
open Go.RowKit

theorem step_of {fs : List Fld} {i : Nat} {f : Fld} (h : fs.getD i default = f) (h1 : fieldB f.1.data.toList = true) (h2 : 0 < f.2.length) (h3 : f.2.length ≤ 8) (h4 : ∀ t ∈ f.2, t.size ≤ 128) (h5 : i = 0 ∨ ltN (fs.getD (i - 1) default).1 f.1 = true) : stepOk fs i = true := by
  unfold stepOk fitsB
  rw [h, h1, decide_eq_true h3]
  have e1 : f.2.isEmpty = false := by
    cases hf : f.2 with
    | nil => rw [hf] at h2; simp at h2
    | cons _ _ => rfl
  have e2 : f.2.any longB = false := by
    rw [List.any_eq_false]
    intro t ht
    have := h4 t ht
    unfold longB
    simpa using this
  rw [e1, e2]
  rcases h5 with h5 | h5
  · rw [decide_eq_true h5]; rfl
  · rw [h5]; simp

theorem step_not {fs : List Fld} {i : Nat} {f : Fld} (h : fs.getD i default = f) (hn : fieldB f.1.data.toList = false ∨ f.2.length = 0 ∨ 8 < f.2.length ∨ (∃ t ∈ f.2, 128 < t.size) ∨ (i ≠ 0 ∧ ltN (fs.getD (i - 1) default).1 f.1 = false)) : stepOk fs i = false := by
  unfold stepOk fitsB
  rw [h]
  rcases hn with hn | hn | hn | ⟨t, ht, hn⟩ | ⟨hn, hm⟩
  · rw [hn]; rfl
  · rw [List.length_eq_zero_iff] at hn
    rw [hn]; simp
  · rw [decide_eq_false (by omega)]; simp
  · have : f.2.any longB = true := by
      rw [List.any_eq_true]
      exact ⟨t, ht, by unfold longB; simpa using hn⟩
    rw [this]; simp
  · rw [decide_eq_false hn, hm]; simp

set_option maxHeartbeats 1000000 in
set_option maxRecDepth 100000 in
theorem rmay_any (v : Value) (d : List Fx) (w : World) (hv : IsXs w v d) (hf : FitX d) : Calls Tryz.prog 26 #[v] w fun e w' => e = .returned (.bool (mayB (d.map Fx.fld))) ∧ Grown w w' := by
  obtain ⟨p, cap, rfl, hd, ht⟩ := hv
  have HT := hid ht
  have HF := hid hf.2
  have hl := hf.1
  unfold maxLen at hl
  have HD := hid hd
  clear ht hf hd
  obtain ⟨r, hr⟩ : ∃ r, mayB (d.map Fx.fld) = r := ⟨_, rfl⟩
  rw [hr]
  have HR := hid hr
  clear hr
  go_enter Tryz.func26, Tryz.ntmps26
  go_wp2_with fail
  go_loopg [3] d.length (fun g vi wr => ∃ i : Nat, vi = .int .i64 i ∧ i ≤ d.length ∧ i ≤ 16 ∧ d.length - i ≤ g ∧ Grown w wr ∧ Hid (∀ j, j < i → stepOk (d.map Fx.fld) j = true))
  case atStart => exact ⟨0, rfl, by omega, by omega, by omega, Grown.refl _, fun j h => by omega⟩
  case round =>
    obtain ⟨i, rfl, hi, hi16, hg, hb, HJ⟩ := hrel
    by_cases hlt : i < d.length
    · have hltz : (i : Int) < (d.length : Int) := by omega
      have hiz : (0 : Int) ≤ i := by omega
      obtain ⟨b, off, rfl, hxs⟩ : ∃ b off, p = some ⟨b, off, none⟩ ∧ XsAt w b off d := by
        rcases HD.out with h | h
        · subst h; simp at hlt
        · exact h
      have hxr := hxs.kept hb.below
      obtain ⟨c0, c1⟩ := hxr i hlt
      have hxi : (d[i]).at wr := (HT.out _ (List.getElem_mem hlt)).kept hb.below
      have hfi := HF.out _ (List.getElem_mem hlt)
      have hsx := flds_at hlt
      obtain ⟨x, hx⟩ : ∃ x, d[i] = x := ⟨_, rfl⟩
      rw [hx] at c0 c1 hxi hfi hsx
      have HXR := hid hxr
      have HXI := hid hxi
      have hns : x.name.size ≤ maxLen := hfi.1
      have htl : x.txt.length ≤ maxLen := hfi.2.1
      unfold maxLen at htl
      have HNS := hid hns
      have HFI := hid hfi
      have HSX := hid hsx
      clear hxr hxs hxi hfi hx hsx hns
      unfold Fx.sl at c1
      have mixed := Tryz.mixed
      have HFX : Hid (∀ W, Calls Tryz.prog 34 #[.string x.name] W fun e w' => e = .returned (.bool (fieldB x.name.data.toList)) ∧ w' = W) := fun W => rfield_any x.name W HNS.out
      by_cases h16 : i = 16
      · subst h16
        have H0 : Hid (r = false) := HR.out.symm.trans (may_long (by rw [List.length_map]; omega))
        go_wp2_with fail
        go_quiet (fail)
        go_wp2_with fail
        go_ret
        exact ⟨ret_bool H0.out.symm, (hb.alloc _).drewN _⟩
      have h16z : decide ((16 : Int) ≤ (i : Int)) = false := decide_eq_false (by omega)
      cases hfx : fieldB x.name.data.toList with
      | false =>
        rw [hfx] at HFX
        have H0 : Hid (r = false) := HR.out.symm.trans (may_no (i := i) (by rw [List.length_map]; exact hlt) (step_not HSX.out (Or.inl hfx)))
        go_wp2_with fail
        refine wp_region_quiet_lit mixed (by kernel_rfl) ?_
        repeat (go_big_quiet_step (first | (go_at_call 34; refine Calls.quiet_of_same (HFX.out _))))
        refine wpQuiet_nil ?_
        intro _ hw'
        obtain ⟨nq, hw''⟩ := hw'
        subst hw''
        go_wp2_with fail
        go_ret
        exact ⟨ret_bool H0.out.symm, (hb.alloc _).drewN _⟩
      | true =>
        rw [hfx] at HFX
        by_cases h0 : i = 0
        · have h0z : decide ((0 : Int) < (i : Int)) = false := decide_eq_false (by omega)
          have h0y : decide (0 < i) = false := decide_eq_false (by omega)
          have H00 := hid h0
          clear h0
          by_cases ht0 : x.txt.length = 0
          · have ht0z : (x.txt.length : Int) = 0 := by omega
            have H0 : Hid (r = false) := HR.out.symm.trans (may_no (i := i) (by rw [List.length_map]; exact hlt) (step_not HSX.out (Or.inr (Or.inl ht0))))
            go_wp2_with fail
            refine wp_region_quiet_lit mixed (by kernel_rfl) ?_
            repeat (go_big_quiet_step (first | (go_at_call 34; refine Calls.quiet_of_same (HFX.out _))))
            refine wpQuiet_nil ?_
            intro _ hw'
            obtain ⟨nq, hw''⟩ := hw'
            subst hw''
            go_wp2_with fail
            go_ret
            exact ⟨ret_bool H0.out.symm, (hb.alloc _).drewN _⟩
          have ht0z : ¬ (x.txt.length : Int) = 0 := by omega
          have ht0d : ((x.txt.length : Int) == 0) = false := beq_eq_false_iff_ne.2 ht0z
          by_cases ht8 : 8 < x.txt.length
          · have ht8z : (8 : Int) < (x.txt.length : Int) := by omega
            have H0 : Hid (r = false) := HR.out.symm.trans (may_no (i := i) (by rw [List.length_map]; exact hlt) (step_not HSX.out (Or.inr (Or.inr (Or.inl ht8)))))
            go_wp2_with fail
            refine wp_region_quiet_lit mixed (by kernel_rfl) ?_
            repeat (go_big_quiet_step (first | (go_at_call 34; refine Calls.quiet_of_same (HFX.out _))))
            refine wpQuiet_nil ?_
            intro _ hw'
            obtain ⟨nq, hw''⟩ := hw'
            subst hw''
            go_wp2_with fail
            go_ret
            exact ⟨ret_bool H0.out.symm, (hb.alloc _).drewN _⟩
          have ht8z : decide ((8 : Int) < (x.txt.length : Int)) = false := decide_eq_false (by omega)
          have HST : Hid ((∀ t ∈ x.txt, t.size ≤ 128) → stepOk (d.map Fx.fld) (i) = true) := fun h => step_of HSX.out hfx (by show 0 < x.txt.length; omega) (by show x.txt.length ≤ 8; omega) h (Or.inl H00.out)
          obtain ⟨bt, ot, hpt, hct0⟩ : ∃ bt ot, x.p = some ⟨bt, ot, none⟩ ∧ ∀ l, (h : l < x.txt.length) → wr.cell? ⟨bt, ot + l, none⟩ = some (.string x.txt[l]) := by
            rcases HXI.out with h | h
            · exact absurd (by rw [h]; rfl) ht0
            · exact h
          have HCT0 := hid hct0
          rw [hpt] at c1
          clear hpt hct0
          go_wp2_with fail
          refine wp_region_quiet_lit mixed (by kernel_rfl) ?_
          repeat (go_big_quiet_step (first | (go_at_call 34; refine Calls.quiet_of_same (HFX.out _))))
          refine wpQuiet_nil ?_
          intro _ hw'
          obtain ⟨nq, hw''⟩ := hw'
          subst hw''
          go_wp2_with fail
          obtain ⟨W2, hW2⟩ : ∃ W2, (wr.alloc (.cells #[.string x.name, .slice (some ⟨bt, ot, none⟩) x.txt.length x.cap] 44)).drewN nq = W2 := ⟨_, rfl⟩
          have hgW : Grown wr W2 := by rw [← hW2]; exact ((Grown.refl wr).alloc _).drewN _
          have q1 : W2.cell? ⟨wr.heap.size, 1, none⟩ = some (.slice (some ⟨bt, ot, none⟩) x.txt.length x.cap) := by rw [← hW2]; exact (x_new wr ⟨x.name, some ⟨bt, ot, none⟩, x.cap, x.txt⟩ (wr.alloc _) (Below.refl _ _)).2
          have hat : ∀ l, (h : l < x.txt.length) → W2.cell? ⟨bt, ot + l, none⟩ = some (.string x.txt[l]) := fun l h => (hgW.below.cell (p := ⟨bt, ot + l, none⟩) (cell_block (HCT0.out l h))).trans (HCT0.out l h)
          have HGW := hid hgW
          have HAT := hid hat
          rw [hW2]
          clear hgW hat hW2
          go_loopg [5] x.txt.length (fun g vj W => ∃ j : Nat, vj = .int .i64 j ∧ j ≤ x.txt.length ∧ x.txt.length - j ≤ g ∧ W = W2 ∧ Hid (∀ l (h : l < x.txt.length), l < j → (x.txt[l]).size ≤ 128))
          case atStart => exact ⟨0, rfl, by omega, by omega, rfl, fun l _ h => by omega⟩
          case round =>
            obtain ⟨j, rfl, hj, hgj, rfl, HL⟩ := hrel
            by_cases hjl : j < x.txt.length
            · have hjz : (j : Int) < (x.txt.length : Int) := by omega
              have hj0 : (0 : Int) ≤ (j : Int) := by omega
              have ctj := HAT.out j hjl
              obtain ⟨t, htt⟩ : ∃ t, x.txt[j] = t := ⟨_, rfl⟩
              have HTT := hid htt
              rw [htt] at ctj
              clear htt
              by_cases hts : 128 < t.size
              · have htsz : (128 : Int) < (t.size : Int) := by omega
                have H0 : Hid (r = false) := HR.out.symm.trans (may_no (i := i) (by rw [List.length_map]; exact hlt) (step_not HSX.out (Or.inr (Or.inr (Or.inr (Or.inl ⟨t, by rw [← HTT.out]; exact List.getElem_mem hjl, hts⟩))))))
                go_wp2_with fail
                go_ret
                exact ⟨ret_bool H0.out.symm, hb.trans HGW.out⟩
              · have htsz : ¬ (128 : Int) < (t.size : Int) := by omega
                go_wp2_with fail
                go_roundg (x.txt.length - (j + 1))
                case measure => omega
                refine ⟨j + 1, by go_num, by omega, by omega, rfl, fun l hl hlj => ?_⟩
                by_cases e : l = j
                · subst e; rw [HTT.out]; omega
                · exact HL.out l hl (by omega)
            · have hjz : ¬ (j : Int) < (x.txt.length : Int) := by omega
              have H1 := hid (HST.out fun t ht => by
                obtain ⟨l, hl, rfl⟩ := List.mem_iff_getElem.1 ht
                exact HL.out l hl (by omega))
              go_wp2_with fail
              go_roundg (d.length - (i + 1))
              case measure => omega
              refine ⟨i + 1, by go_num, by omega, by omega, by omega, hb.trans HGW.out, fun l hl => ?_⟩
              by_cases e : l = i
              · subst e; exact H1.out
              · exact HJ.out l (by omega)
        · obtain ⟨k, rfl⟩ : ∃ k, i = k + 1 := ⟨i - 1, by omega⟩
          obtain ⟨e0, _⟩ := HXR.out k (by omega)
          have hsy := flds_at (d := d) (i := k) (by omega)
          obtain ⟨y, hy⟩ : ∃ y, d[k] = y := ⟨_, rfl⟩
          rw [hy] at e0 hsy
          have HSY := hid hsy
          clear hy hsy
          have k1 : (0 : Int) < (k : Int) + 1 := by omega
          have hltk : (k : Int) + 1 < (d.length : Int) := by omega
          have h16y : decide ((16 : Int) ≤ (k : Int) + 1) = false := decide_eq_false (by omega)
          have k2 : (0 : Int) ≤ (k : Int) := by omega
          have k3 : (k : Int) < (d.length : Int) := by omega
          have e1 : ∀ o, (wr.alloc o).cell? ⟨b, off + k * 2, none⟩ = some (.string y.name) := fun o => by
            rw [← e0]; exact ((Below.refl wr.heap.size wr).alloc (Nat.le_refl _) _).cell (p := ⟨b, off + k * 2, none⟩) (cell_block e0)
          cases hlt2 : Op.bytesLess y.name.toList x.name.toList with
          | false =>
            have H0 : Hid (r = false) := HR.out.symm.trans (may_no (i := k + 1) (by rw [List.length_map]; exact hlt) (step_not HSX.out (Or.inr (Or.inr (Or.inr (Or.inr ⟨by omega, by rw [Nat.add_sub_cancel, HSY.out]; exact hlt2⟩))))))
            go_wp2_with fail
            refine wp_region_quiet_lit mixed (by kernel_rfl) ?_
            repeat (go_big_quiet_step (first | (go_at_call 34; refine Calls.quiet_of_same (HFX.out _))))
            refine wpQuiet_nil ?_
            intro _ hw'
            obtain ⟨nq, hw''⟩ := hw'
            subst hw''
            go_wp2_with fail
            go_ret
            exact ⟨ret_bool H0.out.symm, (hb.alloc _).drewN _⟩
          | true =>
            by_cases ht0 : x.txt.length = 0
            · have ht0z : (x.txt.length : Int) = 0 := by omega
              have H0 : Hid (r = false) := HR.out.symm.trans (may_no (i := k + 1) (by rw [List.length_map]; exact hlt) (step_not HSX.out (Or.inr (Or.inl ht0))))
              go_wp2_with fail
              refine wp_region_quiet_lit mixed (by kernel_rfl) ?_
              repeat (go_big_quiet_step (first | (go_at_call 34; refine Calls.quiet_of_same (HFX.out _))))
              refine wpQuiet_nil ?_
              intro _ hw'
              obtain ⟨nq, hw''⟩ := hw'
              subst hw''
              go_wp2_with fail
              go_ret
              exact ⟨ret_bool H0.out.symm, (hb.alloc _).drewN _⟩
            have ht0z : ¬ (x.txt.length : Int) = 0 := by omega
            have ht0d : ((x.txt.length : Int) == 0) = false := beq_eq_false_iff_ne.2 ht0z
            by_cases ht8 : 8 < x.txt.length
            · have ht8z : (8 : Int) < (x.txt.length : Int) := by omega
              have H0 : Hid (r = false) := HR.out.symm.trans (may_no (i := k + 1) (by rw [List.length_map]; exact hlt) (step_not HSX.out (Or.inr (Or.inr (Or.inl ht8)))))
              go_wp2_with fail
              refine wp_region_quiet_lit mixed (by kernel_rfl) ?_
              repeat (go_big_quiet_step (first | (go_at_call 34; refine Calls.quiet_of_same (HFX.out _))))
              refine wpQuiet_nil ?_
              intro _ hw'
              obtain ⟨nq, hw''⟩ := hw'
              subst hw''
              go_wp2_with fail
              go_ret
              exact ⟨ret_bool H0.out.symm, (hb.alloc _).drewN _⟩
            have ht8z : decide ((8 : Int) < (x.txt.length : Int)) = false := decide_eq_false (by omega)
            have HST : Hid ((∀ t ∈ x.txt, t.size ≤ 128) → stepOk (d.map Fx.fld) (k + 1) = true) := fun h => step_of HSX.out hfx (by show 0 < x.txt.length; omega) (by show x.txt.length ≤ 8; omega) h (Or.inr (by rw [Nat.add_sub_cancel, HSY.out]; exact hlt2))
            obtain ⟨bt, ot, hpt, hct0⟩ : ∃ bt ot, x.p = some ⟨bt, ot, none⟩ ∧ ∀ l, (h : l < x.txt.length) → wr.cell? ⟨bt, ot + l, none⟩ = some (.string x.txt[l]) := by
              rcases HXI.out with h | h
              · exact absurd (by rw [h]; rfl) ht0
              · exact h
            have HCT0 := hid hct0
            rw [hpt] at c1
            clear hpt hct0
            go_wp2_with fail
            refine wp_region_quiet_lit mixed (by kernel_rfl) ?_
            repeat (go_big_quiet_step (first | (go_at_call 34; refine Calls.quiet_of_same (HFX.out _))))
            refine wpQuiet_nil ?_
            intro _ hw'
            obtain ⟨nq, hw''⟩ := hw'
            subst hw''
            go_wp2_with fail
            obtain ⟨W2, hW2⟩ : ∃ W2, (wr.alloc (.cells #[.string x.name, .slice (some ⟨bt, ot, none⟩) x.txt.length x.cap] 44)).drewN nq = W2 := ⟨_, rfl⟩
            have hgW : Grown wr W2 := by rw [← hW2]; exact ((Grown.refl wr).alloc _).drewN _
            have q1 : W2.cell? ⟨wr.heap.size, 1, none⟩ = some (.slice (some ⟨bt, ot, none⟩) x.txt.length x.cap) := by rw [← hW2]; exact (x_new wr ⟨x.name, some ⟨bt, ot, none⟩, x.cap, x.txt⟩ (wr.alloc _) (Below.refl _ _)).2
            have hat : ∀ l, (h : l < x.txt.length) → W2.cell? ⟨bt, ot + l, none⟩ = some (.string x.txt[l]) := fun l h => (hgW.below.cell (p := ⟨bt, ot + l, none⟩) (cell_block (HCT0.out l h))).trans (HCT0.out l h)
            have HGW := hid hgW
            have HAT := hid hat
            rw [hW2]
            clear hgW hat hW2
            go_loopg [5] x.txt.length (fun g vj W => ∃ j : Nat, vj = .int .i64 j ∧ j ≤ x.txt.length ∧ x.txt.length - j ≤ g ∧ W = W2 ∧ Hid (∀ l (h : l < x.txt.length), l < j → (x.txt[l]).size ≤ 128))
            case atStart => exact ⟨0, rfl, by omega, by omega, rfl, fun l _ h => by omega⟩
            case round =>
              obtain ⟨j, rfl, hj, hgj, rfl, HL⟩ := hrel
              by_cases hjl : j < x.txt.length
              · have hjz : (j : Int) < (x.txt.length : Int) := by omega
                have hj0 : (0 : Int) ≤ (j : Int) := by omega
                have ctj := HAT.out j hjl
                obtain ⟨t, htt⟩ : ∃ t, x.txt[j] = t := ⟨_, rfl⟩
                have HTT := hid htt
                rw [htt] at ctj
                clear htt
                by_cases hts : 128 < t.size
                · have htsz : (128 : Int) < (t.size : Int) := by omega
                  have H0 : Hid (r = false) := HR.out.symm.trans (may_no (i := k + 1) (by rw [List.length_map]; exact hlt) (step_not HSX.out (Or.inr (Or.inr (Or.inr (Or.inl ⟨t, by rw [← HTT.out]; exact List.getElem_mem hjl, hts⟩))))))
                  go_wp2_with fail
                  go_ret
                  exact ⟨ret_bool H0.out.symm, hb.trans HGW.out⟩
                · have htsz : ¬ (128 : Int) < (t.size : Int) := by omega
                  go_wp2_with fail
                  go_roundg (x.txt.length - (j + 1))
                  case measure => omega
                  refine ⟨j + 1, by go_num, by omega, by omega, rfl, fun l hl hlj => ?_⟩
                  by_cases e : l = j
                  · subst e; rw [HTT.out]; omega
                  · exact HL.out l hl (by omega)
              · have hjz : ¬ (j : Int) < (x.txt.length : Int) := by omega
                have H1 := hid (HST.out fun t ht => by
                  obtain ⟨l, hl, rfl⟩ := List.mem_iff_getElem.1 ht
                  exact HL.out l hl (by omega))
                go_wp2_with fail
                go_roundg (d.length - (k + 1 + 1))
                case measure => omega
                refine ⟨k + 1 + 1, by go_num, by omega, by omega, by omega, hb.trans HGW.out, fun l hl => ?_⟩
                by_cases e : l = k + 1
                · subst e; exact H1.out
                · exact HJ.out l (by omega)
    · have hltz : ¬ (i : Int) < (d.length : Int) := by omega
      have H0 : Hid (r = true) := HR.out.symm.trans (may_yes (by rw [List.length_map]; omega) (fun j hj => HJ.out j (by rw [List.length_map] at hj; omega)))
      go_wp2_with fail
      go_ret
      exact ⟨ret_bool H0.out.symm, hb⟩

end Go.Proofs.YtelcongbnmfegaaGreatDoor

/-
  The contract of Size.
-/
namespace Go.Proofs.YtelcongbnmfegaaGreatDoor
open Go.RowKit

def sizeN (fs : List Fld) : Nat := if mayB fs = true then (encL fs).length else 0

end Go.Proofs.YtelcongbnmfegaaGreatDoor

/-
  The contracts of the reference's put and Encode.
-/
namespace Go.Proofs.YtelcongbnmfegaaGreatDoor
open Go.RowKit

theorem new_byte (w : World) (c : Int) : ∀ j u, ([.int .u8 c] : List Value)[j]? = some u → (w.alloc (.cells #[.int .u8 c] 5)).cell? ((⟨w.heap.size, 0, none⟩ : Addr).add j) = some u := by
  intro j u hj
  match j, hj with
  | 0, hj => simp at hj; subst hj; simp [Addr.add]

theorem one_byte (c : Int) : ∀ u ∈ ([.int .u8 c] : List Value), u.oneCell' = true := by intro u hu; simp at hu; subst hu; rfl

theorem ownB_put {n0 : Nat} {w : World} {v : Value} {bs : List UInt8} {c : UInt8} {k : Int} {n : Nat} (h : w.ownsRow n0 5 1 v n (Lib.byteCells bs ++ [.int .u8 k])) (hn : n = bs.length + 1) (hk : (c.toNat : Int) = k) : OwnB n0 w v (bs ++ [c]) := by
  subst hn
  unfold OwnB
  have e2 : Lib.byteCells (bs ++ [c]) = Lib.byteCells bs ++ [.int .u8 k] := by simp [Lib.byteCells, hk]
  rw [e2, List.length_append]
  exact h

end Go.Proofs.YtelcongbnmfegaaGreatDoor

/-
  The contract of Write.
-/
namespace Go.Proofs.YtelcongbnmfegaaGreatDoor
open Go.RowKit

theorem room1 {l : List Value} {a : Value} {n : Nat} (h : l.length + 3 ≤ n) : (l ++ [a]).length + 1 ≤ n := by rw [List.length_append]; simp; omega
theorem room2 {l : List Value} {a b : Value} {n : Nat} (h : l.length + 3 ≤ n) : (l ++ [a] ++ [b]).length + 1 ≤ n := by rw [List.length_append, List.length_append]; simp; omega

set_option maxHeartbeats 4000000 in
set_option maxRecDepth 100000 in
theorem write_any (s : ByteArray) (w : World) (hp : PlainAt w) (hs : s.size ≤ 46912496118442) :
    Calls Tryz.prog 69 #[.string s] w fun e w' => e = .returned (.string ⟨(writeL s.data.toList).toArray⟩) ∧ Below w.heap.size w w' := by
  have HP := hid hp
  clear hp
  go_enter Tryz.func69, Tryz.ntmps69
  go_wp2_with fail
  go_loopg [4] s.size (fun g vi wr => ∃ i : Nat, vi = .int .i64 i ∧ i ≤ s.size ∧ s.size - i ≤ g ∧ Below w.heap.size w wr ∧ Lib.IsBuilder 82 5 w.heap.size w.heap.size (Lib.byteCells (writeL (s.data.toList.take i))) wr)
  case atStart => exact ⟨0, rfl, by omega, by omega, (Below.refl _ _).alloc (Nat.le_refl _) _, Lib.fresh_isBuilder _ _ _⟩
  case round =>
    obtain ⟨i, rfl, hi, hg, hb, hbu⟩ := hrel
    have HB := hid hbu
    clear hbu
    by_cases hlt : i < s.size
    · have hltz : (i : Int) < (s.size : Int) := by omega
      obtain ⟨c, hc⟩ : ∃ c, s[i] = c := ⟨_, rfl⟩
      have HPr : PlainAt wr := HP.out.on hb
      have hsz : (Lib.byteCells (writeL (s.data.toList.take i))).length + 3 ≤ 140737488355328 := by
        rw [Lib.byteCells_length]
        have := writeL_len (s.data.toList.take i)
        rw [List.length_take] at this
        omega
      have HS := hid hsz
      clear hsz
      have HW := hid (write_step s i hlt)
      rw [hc] at HW
      have HC := hid hc
      clear hc
      cases hpl : plainB (c.toNat : Int) with
      | true =>
        have HE : Hid (writeC c = [c]) := by show writeC c = [c]; unfold writeC; rw [if_pos hpl]
        go_wp2_with (first | (go_at_call 100; rw [HC.out]; refine (isPlain_any _ _ HPr).mono ?_; rintro e w1 ⟨rfl, hb1⟩) | (go_at_call 101; refine (wbyte_any w.heap.size w.heap.size _ _ _ (bld_on HB.out hb1) (Nat.le_trans (Nat.add_le_add_left (by decide) _) HS.out) (Nat.le_trans hb.size hb1.size)).mono ?_; rintro e w2 ⟨rfl, hbu2, hb2⟩))
        go_roundg (s.size - (i + 1))
        case measure => omega
        refine ⟨i + 1, by go_num, by omega, by omega, (hb.trans (hb1.mono hb.size)).trans hb2, ?_⟩
        rw [HW.out, HE.out]
        simpa [Lib.byteCells, HC.out] using hbu2
      | false =>
        have HE : Hid (writeC c = [37, hexd (c.toNat / 16), hexd (c.toNat % 16)]) := by show writeC c = _; unfold writeC; rw [if_neg (by rw [hpl]; simp)]
        have hc1 : (0 : Int) ≤ ↑c.toNat / 16 ∧ (↑c.toNat : Int) / 16 < 16 := by have := c.toNat_lt; omega
        have hc2 : (0 : Int) ≤ ↑c.toNat % 16 ∧ (↑c.toNat : Int) % 16 < 16 := by omega
        go_wp2_with (first | (go_at_call 100; rw [HC.out]; refine (isPlain_any _ _ HPr).mono ?_; rintro e w1 ⟨rfl, hb1⟩) | (go_at_call 101; refine (wbyte_any w.heap.size w.heap.size _ _ _ (bld_on HB.out hb1) (Nat.le_trans (Nat.add_le_add_left (by decide) _) HS.out) (Nat.le_trans hb.size hb1.size)).mono ?_; rintro e w2 ⟨rfl, hbu2, hb2⟩))
        go_wp2_with (go_at_call 101; refine (wbyte_any w.heap.size w.heap.size _ _ _ hbu2 (room1 HS.out) (Nat.le_trans hb.size (Nat.le_trans hb1.size hb2.size))).mono ?_; rintro e w3 ⟨rfl, hbu3, hb3⟩)
        go_wp2_with (go_at_call 101; refine (wbyte_any w.heap.size w.heap.size _ _ _ hbu3 (room2 HS.out) (Nat.le_trans hb.size (Nat.le_trans hb1.size (Nat.le_trans hb2.size hb3.size)))).mono ?_; rintro e w4 ⟨rfl, hbu4, hb4⟩)
        go_roundg (s.size - (i + 1))
        case measure => omega
        refine ⟨i + 1, by go_num, by omega, by omega, (((hb.trans (hb1.mono hb.size)).trans hb2).trans hb3).trans hb4, ?_⟩
        rw [HW.out, HE.out]
        rw [digit_at, digit_at] at hbu4
        simpa [Lib.byteCells] using hbu4
    · have hltz : ¬ (i : Int) < (s.size : Int) := by omega
      have he : s.data.toList.take i = s.data.toList := List.take_of_length_le (by simp; omega)
      have HB2 := HB.out
      rw [he] at HB2
      have HB3 := hid HB2
      clear HB2 he
      go_wp2_with (go_at_call 72; refine (Tryz.Builder_String_any _ _ _ _ HB3.out hb.size).mono ?_; rintro e w1 ⟨rfl, hb1⟩)
      go_ret
      exact ⟨rfl, hb.trans hb1⟩

end Go.Proofs.YtelcongbnmfegaaGreatDoor

/-
  The contract of Print.
-/
namespace Go.Proofs.YtelcongbnmfegaaGreatDoor
open Go.RowKit

def wordOf (n t : ByteArray) : ByteArray := n ++ ⟨#[61]⟩ ++ ⟨(writeL t.data.toList).toArray⟩
def wordsF (f : Fld) : List ByteArray := f.2.map (wordOf f.1)
def wordsL (fs : List Fld) : List ByteArray := fs.flatMap wordsF
def lineOf (fs : List Fld) : ByteArray := ⟨(Lib.join ((wordsL fs).map (·.data.toList)) [32]).toArray⟩

theorem wordsL_len {fs : List Fld} (h : ∀ f ∈ fs, fitsB f = true) (hl : fs.length ≤ 16) : (wordsL fs).length ≤ 128 := by
  have : ∀ l : List Fld, (∀ f ∈ l, fitsB f = true) → (wordsL l).length ≤ l.length * 8 := by
    intro l
    induction l with
    | nil => intro _; simp [wordsL]
    | cons f l ih =>
      intro hf
      have h1 := ih fun g hg => hf g (by simp [hg])
      have h2 := (fits_parts (hf f (by simp))).2.2.1
      have e : wordsL (f :: l) = wordsF f ++ wordsL l := rfl
      rw [e, List.length_append, List.length_cons, Nat.add_mul]
      have e2 : (wordsF f).length = f.2.length := by simp [wordsF]
      omega
  have := this fs h
  omega

theorem word_len {f : Fld} {t : ByteArray} (h : fitsB f = true) (ht : t ∈ f.2) : (wordOf f.1 t).size ≤ 417 := by
  obtain ⟨h1, _, _, h4, _⟩ := fits_parts h
  have h5 := h4 t ht
  have h6 := writeL_len t.data.toList
  have e : t.data.toList.length = t.size := by simp
  have e2 : (wordOf f.1 t).size = f.1.size + 1 + (writeL t.data.toList).length := by
    unfold wordOf
    rw [ByteArray.size_append, ByteArray.size_append]
    rfl
  omega

theorem words_len {fs : List Fld} (h : ∀ f ∈ fs, fitsB f = true) : ∀ x ∈ wordsL fs, x.size ≤ 417 := by
  intro x hx
  obtain ⟨f, hf, hx⟩ := List.mem_flatMap.1 hx
  obtain ⟨t, ht, rfl⟩ := List.mem_map.1 hx
  exact word_len (h f hf) ht

theorem join_two (l m : List UInt8) (ls : List (List UInt8)) : Lib.join (l :: m :: ls) [32] = l ++ 32 :: Lib.join (m :: ls) [32] := by simp [Lib.join, List.intercalate]

theorem join_len (ls : List (List UInt8)) (c : Nat) (h : ∀ l ∈ ls, l.length ≤ c) : (Lib.join ls [32]).length ≤ ls.length * (c + 1) := by
  induction ls with
  | nil => simp [Lib.join]
  | cons l ls ih =>
    have h1 := h l (by simp)
    have h2 := ih fun m hm => h m (by simp [hm])
    cases ls with
    | nil => simp [Lib.join]; omega
    | cons m ls =>
      rw [join_two, List.length_append, List.length_cons, List.length_cons, Nat.add_mul]
      omega

theorem join_any (ws : List ByteArray) (p : Option Addr) (cap : Nat) (w : World) {n0 : Nat} (h : OwnT n0 w (.slice p ws.length cap) ws) (hn : ws.length ≤ 128) (hs : ∀ x ∈ ws, x.size ≤ 417) :
    Calls Tryz.prog 40 #[.slice p ws.length cap, .string ⟨#[32]⟩] w fun e w' => e = .returned (.string ⟨(Lib.join (ws.map (·.data.toList)) [32]).toArray⟩) ∧ Below w.heap.size w w' := by
  rcases h.2 with ⟨_, h0⟩ | ⟨g, c, cur, hv, _, hg, hcap, _, hsz, htk⟩
  · obtain rfl := List.length_eq_zero_iff.1 h0
    refine (Tryz.strings_Join_none p cap _ w).mono ?_
    rintro e w' ⟨rfl, rfl⟩
    exact ⟨rfl, Below.refl _ _⟩
  · injection hv with hp hl hc
    subst hp
    subst hc
    refine (Tryz.strings_Join g 0 cap ws ⟨#[32]⟩ w (fun j x hj => ?_) (Array.getElem?_eq_some_iff.1 hg).1 (by omega) (by omega) ?_).mono ?_
    · have hjl := (List.getElem?_eq_some_iff.1 hj).1
      rw [Nat.zero_add, cell_of_row w g j cur _ _ hg, ← Array.getElem?_toList]
      have : (ws.map Value.string)[j]? = cur.toList[j]? := by rw [← htk, List.getElem?_take, if_pos (by omega)]
      rw [← this, List.getElem?_map, hj]; rfl
    · have h1 := join_len (ws.map (·.data.toList)) 417 (fun l hl => by
        obtain ⟨x, hx, rfl⟩ := List.mem_map.1 hl
        have := hs x hx
        simpa using this)
      rw [List.length_map] at h1
      have h2 : ws.length * 418 ≤ 128 * 418 := Nat.mul_le_mul_right _ hn
      show (Lib.join (ws.map (·.data.toList)) [32]).length ≤ _
      omega
    · rintro e w' ⟨rfl, hb⟩
      exact ⟨rfl, hb⟩

end Go.Proofs.YtelcongbnmfegaaGreatDoor

/-
  The chapter's examples: the plain answers.
-/
namespace Go.Proofs.YtelcongbnmfegaaGreatDoor
open Go.RowKit Go.Sort Go.Lib

def fixA : List Fld := [(⟨#[98]⟩, [⟨#[120]⟩]), (⟨#[97]⟩, [⟨#[121]⟩]), (⟨#[98]⟩, [⟨#[122]⟩])]
def fixN : List Fld := [(⟨#[97]⟩, [⟨#[121]⟩]), (⟨#[98]⟩, [⟨#[120]⟩, ⟨#[122]⟩])]
def fixE : List Fld := [(⟨#[97]⟩, [⟨#[120]⟩, ⟨#[]⟩])]
def fixP : List Fld := [(⟨#[98]⟩, [⟨#[49]⟩]), (⟨#[97]⟩, [⟨#[50]⟩])]
def fixQ : List Fld := [(⟨#[97]⟩, [⟨#[50]⟩]), (⟨#[98]⟩, [⟨#[49]⟩])]

theorem ltN_eq (a b : ByteArray) : ltN a b = ltB a b := by
  unfold ltN ltB
  rw [Lib.toList_data, Lib.toList_data, cb_less]

theorem mayB_eq (fs : List Fld) : mayB fs = (decide (fs.length ≤ 16) && (List.range fs.length).all fun i => fitsB (fs.getD i default) && (decide (i = 0) || ltB (fs.getD (i - 1) default).1 (fs.getD i default).1)) := by
  unfold mayB stepOk
  simp only [ltN_eq]

theorem fixA_mis : fixA.any misB = false := by decide
theorem fixA_norm : normF fixA = fixN := by decide
theorem fixN_bare : fixN.any bareB = false := by decide
theorem fixN_may : mayB fixN = true := by rw [mayB_eq]; decide
theorem fixN_line : lineOf fixN = ⟨#[97, 61, 121, 32, 98, 61, 120, 32, 98, 61, 122]⟩ := by decide
theorem fixE_may : mayB fixE = true := by decide
theorem fixE_enc : encL fixE = [1, 1, 97, 2, 1, 120, 0] := by decide
theorem fixE_dec : decodeO [1, 1, 97, 2, 1, 120, 0] = some fixE := by decide
theorem fixE_size : sizeN fixE = 7 := by decide
theorem fixP_mis : fixP.any misB = false := by decide
theorem fixP_norm : normF fixP = fixQ := by decide
theorem fixQ_bare : fixQ.any bareB = false := by decide
theorem fixQ_may : mayB fixQ = true := by rw [mayB_eq]; decide
theorem fix_write : writeL [97, 32, 98] = [97, 37, 50, 48, 98] := by decide
theorem fix_texts : textsOf fixN ⟨#[98]⟩ = [⟨#[120]⟩, ⟨#[122]⟩] := by decide
theorem fix_read : readL [97, 37, 50, 48, 98] = some [97, 32, 98] := by
  rw [readL_some (c := 97) (n := 1) (by decide)]
  show (readL [37, 50, 48, 98]).map _ = _
  rw [readL_some (c := 32) (n := 3) (by decide)]
  show ((readL [98]).map _).map _ = _
  rw [readL_some (c := 98) (n := 1) (by decide)]
  show (((readL []).map _).map _).map _ = _
  rw [readL_nil]
  rfl
theorem fix_split : splitL [98, 61, 49, 32, 97, 61, 50] = [[98, 61, 49], [97, 61, 50]] := by
  rw [splitL_yes (i := 3) (by decide)]
  show [98, 61, 49] :: splitL [97, 61, 50] = _
  rw [splitL_no (by decide)]
theorem fix_one (c : UInt8) (h : firstP [c] = some (c, 1)) : readL [c] = some [c] := by
  rw [readL_some h]
  show (readL []).map _ = _
  rw [readL_nil]
  rfl
theorem fix_words : fieldsW (splitL [98, 61, 49, 32, 97, 61, 50]) = some fixP := by
  rw [fix_split]
  have h1 : wordO [98, 61, 49] = some ([98], [49]) := by
    unfold wordO
    rw [if_neg (by decide), show (Lib.indexByte [98, 61, 49] 61).toNat = 1 by decide]
    show (readL [49]).map _ = _
    rw [fix_one 49 (by decide)]; rfl
  have h2 : wordO [97, 61, 50] = some ([97], [50]) := by
    unfold wordO
    rw [if_neg (by decide), show (Lib.indexByte [97, 61, 50] 61).toNat = 1 by decide]
    show (readL [50]).map _ = _
    rw [fix_one 50 (by decide)]; rfl
  simp only [fieldsW, h1, h2]
  rfl

end Go.Proofs.YtelcongbnmfegaaGreatDoor

/-
  fixed answers true.
-/
namespace Go.Proofs.YtelcongbnmfegaaGreatDoor
open Go.RowKit Go.Sort Go.Lib

theorem fitF_small (fs : List Fld) (h : fs.all (fun f => decide (f.1.size ≤ 100) && decide (f.2.length ≤ 100) && f.2.all fun t => decide (t.size ≤ 100)) = true) : ∀ f ∈ fs, FitF f := by
  intro f hf
  rw [List.all_eq_true] at h
  have := h f hf
  simp only [Bool.and_eq_true, decide_eq_true_eq, List.all_eq_true] at this
  exact ⟨Nat.le_trans this.1.1 (by decide), Nat.le_trans this.1.2 (by decide), fun t ht => Nat.le_trans (this.2 t ht) (by decide)⟩

theorem fitFx {d : List Fx} {fs : List Fld} (h : d.map Fx.fld = fs) (hl : fs.length ≤ 100) (hf : ∀ f ∈ fs, FitF f) : FitX d := by
  subst h
  rw [List.length_map] at hl
  exact ⟨Nat.le_trans hl (by decide), fun x hx => hf _ (List.mem_map.2 ⟨x, hx, rfl⟩)⟩

theorem fixA_fit : ∀ f ∈ fixA, FitF f := fitF_small _ (by decide)
theorem fixN_fit : ∀ f ∈ fixN, FitF f := fitF_small _ (by decide)
theorem fixE_fit : ∀ f ∈ fixE, FitF f := fitF_small _ (by decide)
theorem fixQ_fit : ∀ f ∈ fixQ, FitF f := fitF_small _ (by decide)

/-- What an answer of Norm or Parse is known by. -/
def OwnAns (w : World) (fs : List Fld) (n : Nat) (e : Ending) (w' : World) : Prop :=
  ∃ p c d, e = .returned (.tuple #[.slice p n c, .int .i64 0]) ∧ OwnXs w.heap.size w' (.slice p n c) d ∧ d.map Fx.fld = fs ∧ Below w.heap.size w w'

theorem own_len {n0 : Nat} {w : World} {u : Value} {d : List Fx} (h : OwnXs n0 w u d) : ∃ p c, u = .slice p d.length c := by
  rcases h.1.2 with ⟨rfl, h0⟩ | ⟨g, cap, cur, rfl, _⟩
  · exact ⟨none, 0, by rw [h0]⟩
  · exact ⟨_, _, rfl⟩

theorem ownAns_of {w w' : World} {u : Value} {d : List Fx} {fs : List Fld} {n : Nat} (hn : fs.length = n) (ho : OwnXs w.heap.size w' u d) (hm : d.map Fx.fld = fs) (hb : Below w.heap.size w w') : OwnAns w fs n (.returned (.tuple #[u, .int .i64 0])) w' := by
  obtain ⟨p, c, rfl⟩ := own_len ho
  have e : d.length = n := by rw [← hn, ← hm, List.length_map]
  rw [e] at ho ⊢
  exact ⟨p, c, d, rfl, ho, hm, hb⟩

theorem fix_norm (v : Value) (d : List Fx) (w : World) (hv : IsXs w v d) (hm : d.map Fx.fld = fixA) : Calls Tryz.prog 24 #[v] w fun e w' => OwnAns w fixN 2 e w' := by
  have hl : d.length = 3 := by have := congrArg List.length hm; simpa [fixA] using this
  refine (norm_any v d w hv (fitFx hm (by decide) fixA_fit) (by omega) (by rw [hm]; decide)).mono ?_
  intro e w' h
  have hp := h.ans.plain
  rw [hm, fixA_norm] at hp
  rcases hp with ⟨h1, _⟩ | ⟨_, ⟨h1, _⟩ | ⟨_, h1, _⟩ | ⟨_, _, u, o, rfl, ho, hom⟩⟩
  · rw [fixA_mis] at h1; cases h1
  · rw [fixN_bare] at h1; cases h1
  · rw [fixN_may] at h1; cases h1
  · exact ownAns_of rfl ho.1 hom h.2

theorem own_rest {n0 : Nat} {w : World} {g c : Nat} {l : List UInt8} (h : OwnB n0 w (.slice (some ⟨g, 0, none⟩) l.length c) l) : RestAt w.heap.size w (.slice (some ⟨g, 0, none⟩) l.length c) l := by
  rcases h.2 with ⟨hv, _⟩ | ⟨g', cap, cur, hv, _, hg, hc, hcm, hsz, htk⟩
  · cases hv
  · cases hv
    refine ⟨_, _, rfl, by omega, by omega, Or.inr ⟨g, 0, rfl, (Array.getElem?_eq_some_iff.1 hg).1, fun i hi => ?_⟩⟩
    rw [Nat.zero_add, cell_of_row w g i cur _ _ hg]
    have : (Lib.byteCells l)[i]? = cur.toList[i]? := by
      rw [← htk, List.getElem?_take, if_pos (by omega)]
    rw [← Array.getElem?_toList, ← this]
    simp [Lib.byteCells, hi]

theorem fix_readc (w : World) (hp : PlainAt w) : Calls Tryz.prog 79 #[.string ⟨#[97, 37, 50, 48, 98]⟩] w fun e w' => e = .returned (.tuple #[.string ⟨#[97, 32, 98]⟩, .int .i64 0]) ∧ Below w.heap.size w w' := by
  have := read_any ⟨#[97, 37, 50, 48, 98]⟩ w hp (by decide)
  rw [show (⟨#[97, 37, 50, 48, 98]⟩ : ByteArray).data.toList = [97, 37, 50, 48, 98] from rfl, fix_read] at this
  exact this

theorem fix_writec (w : World) (hp : PlainAt w) : Calls Tryz.prog 69 #[.string ⟨#[97, 32, 98]⟩] w fun e w' => e = .returned (.string ⟨#[97, 37, 50, 48, 98]⟩) ∧ Below w.heap.size w w' := by
  have := write_any ⟨#[97, 32, 98]⟩ w hp (by decide)
  rw [show (⟨#[97, 32, 98]⟩ : ByteArray).data.toList = [97, 32, 98] from rfl, fix_write] at this
  exact this

theorem fix_may (v : Value) (d : List Fx) (w : World) (hv : IsXs w v d) (hm : d.map Fx.fld = fixN) : Calls Tryz.prog 23 #[v] w fun e w' => e = .returned (.bool true) ∧ Below w.heap.size w w' := by
  have := may_any v d w hv (fitFx hm (by decide) fixN_fit)
  rw [hm, fixN_may] at this
  exact this.mono fun _ _ ⟨h1, h2⟩ => ⟨h1, h2.below⟩

theorem fix_textsc (v : Value) (d : List Fx) (w : World) (hv : IsXs w v d) (hm : d.map Fx.fld = fixN) : Calls Tryz.prog 37 #[v, .string ⟨#[98]⟩] w fun e w' => (∃ p c, e = .returned (.slice p 2 c)) ∧ Below w.heap.size w w' := by
  have hft := fitFx hm (by decide) fixN_fit
  have := texts_any v ⟨#[98]⟩ d w hv hft (fun x hx => by
    have hx' : x.fld ∈ fixN := by rw [← hm]; exact List.mem_map.2 ⟨x, hx, rfl⟩
    have h2 : ∀ f ∈ fixN, f.2.length ≤ 2 := by decide
    have h3 : x.txt.length ≤ 2 := h2 _ hx'
    omega)
  rw [hm, fix_texts] at this
  refine this.mono ?_
  rintro e w' ⟨⟨u, rfl, ho⟩, hq⟩
  obtain ⟨p, c, rfl⟩ := own_slice ho
  exact ⟨⟨p, c, rfl⟩, hq⟩

theorem lit_row {w : World} {b : Nat} {cs : Array Value} {T : TypeId} {d : List Fx} {n cap : Nat} (h : w.heap[b]? = some (.cells cs T (0, 0))) (hcs : cs.toList = cellsX d) (hn : n = d.length) (ht : ∀ x ∈ d, x.at w) : IsXs w (.slice (some ⟨b, 0, none⟩) n cap) d := by
  subst hn
  refine ⟨_, _, rfl, Or.inr ⟨b, 0, rfl, fun i hi => ?_⟩, ht⟩
  obtain ⟨c0, c1⟩ := cellsX_get d i hi
  rw [Nat.zero_add, cell_of_row w b _ cs _ _ h, cell_of_row w b _ cs _ _ h, ← Array.getElem?_toList, ← Array.getElem?_toList, hcs]
  exact ⟨c0, c1⟩

theorem lit_txt {w : World} {b : Nat} {cs : Array Value} {T : TypeId} {ts : List ByteArray} (h : w.heap[b]? = some (.cells cs T (0, 0))) (hcs : cs.toList = ts.map Value.string) : TxtAt w (some ⟨b, 0, none⟩) ts := by
  refine Or.inr ⟨b, 0, rfl, fun i hi => ?_⟩
  rw [Nat.zero_add, cell_of_row w b i cs _ _ h, ← Array.getElem?_toList, hcs]
  simp [hi]

theorem fix_norm0 (w : World) : Calls Tryz.prog 24 #[.slice (some ⟨w.heap.size + 1 + 1 + 1, 0, none⟩) 3 3]
    ((((w.alloc (.cells #[.string ⟨#[120]⟩] 9)).alloc (.cells #[.string ⟨#[121]⟩] 9)).alloc (.cells #[.string ⟨#[122]⟩] 9)).alloc
      (.cells #[.string ⟨#[98]⟩, .slice (some ⟨w.heap.size, 0, none⟩) 1 1, .string ⟨#[97]⟩, .slice (some ⟨w.heap.size + 1, 0, none⟩) 1 1, .string ⟨#[98]⟩, .slice (some ⟨w.heap.size + 1 + 1, 0, none⟩) 1 1] 44))
    fun e w' => ∃ p c d n0, e = .returned (.tuple #[.slice p 2 c, .int .i64 0]) ∧ OwnXs n0 w' (.slice p 2 c) d ∧ d.map Fx.fld = fixN ∧ Below w.heap.size w w' := by
  obtain ⟨w1, h1⟩ : ∃ w1, w.alloc (.cells #[.string ⟨#[120]⟩] 9) = w1 := ⟨_, rfl⟩
  obtain ⟨w2, h2⟩ : ∃ w2, w1.alloc (.cells #[.string ⟨#[121]⟩] 9) = w2 := ⟨_, rfl⟩
  obtain ⟨w3, h3⟩ : ∃ w3, w2.alloc (.cells #[.string ⟨#[122]⟩] 9) = w3 := ⟨_, rfl⟩
  have s1 : w1.heap.size = w.heap.size + 1 := by rw [← h1]; simp
  have s2 : w2.heap.size = w.heap.size + 1 + 1 := by rw [← h2]; simp; omega
  have s3 : w3.heap.size = w.heap.size + 1 + 1 + 1 := by rw [← h3]; simp; omega
  rw [h1, h2, h3]
  obtain ⟨w4, h4⟩ : ∃ w4, w3.alloc (.cells #[.string ⟨#[98]⟩, .slice (some ⟨w.heap.size, 0, none⟩) 1 1, .string ⟨#[97]⟩, .slice (some ⟨w.heap.size + 1, 0, none⟩) 1 1, .string ⟨#[98]⟩, .slice (some ⟨w.heap.size + 1 + 1, 0, none⟩) 1 1] 44) = w4 := ⟨_, rfl⟩
  have k4 : w4.heap[w.heap.size + 1 + 1 + 1]? = some (.cells #[.string ⟨#[98]⟩, .slice (some ⟨w.heap.size, 0, none⟩) 1 1, .string ⟨#[97]⟩, .slice (some ⟨w.heap.size + 1, 0, none⟩) 1 1, .string ⟨#[98]⟩, .slice (some ⟨w.heap.size + 1 + 1, 0, none⟩) 1 1] 44 (0, 0)) := by
    rw [← h4, ← s3]; exact heap_alloc_new w3 _
  have k3 : w4.heap[w.heap.size + 1 + 1]? = some (.cells #[.string ⟨#[122]⟩] 9 (0, 0)) := by
    rw [← h4, Below.heap_alloc _ _ _ (by omega), ← h3, ← s2]; exact heap_alloc_new w2 _
  have k2 : w4.heap[w.heap.size + 1]? = some (.cells #[.string ⟨#[121]⟩] 9 (0, 0)) := by
    rw [← h4, Below.heap_alloc _ _ _ (by omega), ← h3, Below.heap_alloc _ _ _ (by omega), ← h2, ← s1]; exact heap_alloc_new w1 _
  have k1 : w4.heap[w.heap.size]? = some (.cells #[.string ⟨#[120]⟩] 9 (0, 0)) := by
    rw [← h4, Below.heap_alloc _ _ _ (by omega), ← h3, Below.heap_alloc _ _ _ (by omega), ← h2, Below.heap_alloc _ _ _ (by omega), ← h1]; exact heap_alloc_new w _
  have hb : Below w.heap.size w w4 := by
    rw [← h4, ← h3, ← h2, ← h1]
    exact ((((Below.refl _ w).alloc (Nat.le_refl _) _).alloc (by simp) _).alloc (by simp; omega) _).alloc (by simp; omega) _
  rw [h4]
  refine (fix_norm _ [⟨⟨#[98]⟩, some ⟨w.heap.size, 0, none⟩, 1, [⟨#[120]⟩]⟩, ⟨⟨#[97]⟩, some ⟨w.heap.size + 1, 0, none⟩, 1, [⟨#[121]⟩]⟩, ⟨⟨#[98]⟩, some ⟨w.heap.size + 1 + 1, 0, none⟩, 1, [⟨#[122]⟩]⟩] w4 (lit_row k4 rfl rfl ?_) rfl).mono ?_
  · intro x hx
    simp only [List.mem_cons, List.not_mem_nil, or_false] at hx
    rcases hx with rfl | rfl | rfl
    · exact lit_txt k1 rfl
    · exact lit_txt k2 rfl
    · exact lit_txt k3 rfl
  · rintro e w' ⟨p, c, d, he, ho, hm, hq⟩
    exact ⟨p, c, d, _, he, ho, hm, hb.trans (hq.mono hb.size)⟩

end Go.Proofs.YtelcongbnmfegaaGreatDoor

/-
  ValueBytes answers true.
-/
namespace Go.Proofs.YtelcongbnmfegaaGreatDoor
open Go.RowKit

theorem ownB_rest {n0 : Nat} {w : World} {u : Value} {l : List UInt8} (h : OwnB n0 w u l) : RestAt w.heap.size w u l := by
  rcases h.2 with ⟨rfl, h0⟩ | ⟨g', cap, cur, rfl, _⟩
  · obtain rfl := List.length_eq_zero_iff.1 h0
    exact ⟨none, 0, rfl, by simp, by unfold maxLen; omega, Or.inl rfl⟩
  · exact own_rest h

theorem ownB_slice {n0 : Nat} {w : World} {u : Value} {l : List UInt8} (h : OwnB n0 w u l) : ∃ p c, u = .slice p l.length c := by
  rcases h.2 with ⟨rfl, h0⟩ | ⟨g', cap, cur, rfl, _⟩
  · exact ⟨none, 0, by rw [h0]⟩
  · exact ⟨_, _, rfl⟩

end Go.Proofs.YtelcongbnmfegaaGreatDoor

/-
  The contract of the reference's Write.
-/
namespace Go.Proofs.YtelcongbnmfegaaGreatDoor
open Go.RowKit

theorem new_bytes3 (w : World) (a b c : Int) : ∀ j u, ([.int .u8 a, .int .u8 b, .int .u8 c] : List Value)[j]? = some u → (w.alloc (.cells #[.int .u8 a, .int .u8 b, .int .u8 c] 5)).cell? ((⟨w.heap.size, 0, none⟩ : Addr).add j) = some u := by
  intro j u hj
  match j, hj with
  | 0, hj => simp at hj; subst hj; simp [Addr.add]
  | 1, hj => simp at hj; subst hj; rw [addr_add]; simp
  | 2, hj => simp at hj; subst hj; rw [addr_add]; simp

theorem one_bytes3 (a b c : Int) : ∀ u ∈ ([.int .u8 a, .int .u8 b, .int .u8 c] : List Value), u.oneCell' = true := by
  intro u hu; simp at hu; rcases hu with rfl | rfl | rfl <;> rfl

theorem ownB_puts {n0 : Nat} {w : World} {v : Value} {bs cs : List UInt8} {n : Nat} {xs : List Value} (h : w.ownsRow n0 5 1 v n (Lib.byteCells bs ++ xs)) (hn : n = bs.length + cs.length) (hx : Lib.byteCells cs = xs) : OwnB n0 w v (bs ++ cs) := by
  subst hn hx
  unfold OwnB
  rw [List.length_append]
  have : Lib.byteCells (bs ++ cs) = Lib.byteCells bs ++ Lib.byteCells cs := by simp [Lib.byteCells]
  rw [this]
  exact h

theorem rdigitI (n : Int) (w : World) (h : 0 ≤ n ∧ n < 16) : Calls Tryz.prog 74 #[.int .u8 n] w fun e w' => e = .returned (.int .u8 ((hexd n.toNat).toNat : Nat)) ∧ w' = w := by
  have := rdigit_any n.toNat (by omega) w
  rw [show ((n.toNat : Nat) : Int) = n by omega] at this
  exact this

theorem wrap_byte (n : Int) (h : 0 ≤ n ∧ n < 256) : IntKind.u8.wrap n = n := by
  simp [IntKind.wrap, IntKind.signed, IntKind.bits]; omega

set_option maxHeartbeats 4000000 in
set_option maxRecDepth 100000 in
theorem rwrite_any (s : ByteArray) (w : World) (hs : s.size * 3 ≤ 140737488355328) :
    Calls Tryz.prog 42 #[.string s] w fun e w' => e = .returned (.string ⟨(writeL s.data.toList).toArray⟩) ∧ Below w.heap.size w w' := by
  obtain ⟨i0, hi0, hz0, hz1, hz2⟩ := info_parts Tryz.infoByte
  have HI := hid hi0
  clear hi0
  have mixed := Tryz.mixed
  go_enter Tryz.func42, Tryz.ntmps42
  go_wp2_with fail
  go_loopg [3, 4] s.size (fun g vb vi wr => ∃ i : Nat, vi = .int .i64 i ∧ i ≤ s.size ∧ s.size - i ≤ g ∧ Below w.heap.size w wr ∧ OwnB w.heap.size wr vb (writeL (s.data.toList.take i)))
  case atStart => exact ⟨0, rfl, by omega, by omega, Below.refl _ _, World.ownsRow_nil _ _ _ _⟩
  case round =>
    obtain ⟨i, rfl, hi, hgk, hb, hob⟩ := hrel
    have hszr := hb.size
    by_cases hlt : i < s.size
    · have hltz : (i : Int) < (s.size : Int) := by omega
      have hiz : (0 : Int) ≤ i := by omega
      have hst := write_step s i hlt
      have hal := writeL_len (s.data.toList.take i)
      rw [List.length_take] at hal
      obtain ⟨acc, hacc⟩ : ∃ acc, writeL (s.data.toList.take i) = acc := ⟨_, rfl⟩
      rw [hacc] at hob hst hal
      have hal2 : acc.length ≤ 3 * i := Nat.le_trans hal (Nat.mul_le_mul_left _ (Nat.min_le_left _ _))
      obtain ⟨c, hc⟩ : ∃ c, s[i] = c := ⟨_, rfl⟩
      have hcc := hc
      rw [hc] at hst
      have HST := hid hst
      have HOB := hid hob
      have HB := hid hb
      have hc256 := c.toNat_lt
      clear hst hob hb hal hacc
      cases hp : plainB (c.toNat : Int) with
      | true =>
        have HW : Hid (writeC c = [c]) := by show _ = _; unfold writeC; rw [if_pos hp]
        have HPL : Hid (∀ W, Calls Tryz.prog 73 #[.int .u8 (c.toNat : Nat)] W fun e w' => e = .returned (.bool true) ∧ w' = W) := fun W => by have := rplain_any (c.toNat : Int) W; rw [hp] at this; exact this
        clear hp
        go_wp2_with (first | (go_at_call 73; refine (HPL.out _).mono ?_; rintro e w1 ⟨rfl, rfl⟩) | (at_builtin; refine wpList_append_own _ rfl _ _ 80 rfl w.heap.size 5 i0 (.int .u8 0) 1 1 Tryz.underlying80 HI.out hz0 hz1 hz2 rfl (by decide) _ _ _ rfl (World.ownsRow.alloc HOB.out _) ⟨w1.heap.size, 0, none⟩ 1 1 [.int .u8 (c.toNat : Int)] rfl rfl (new_byte _ _) (one_byte _) (by unfold maxLen; omega) (by omega) (by simp; omega) ?_))
        intro v3 w3 hown3 hg3 _
        have hob3 : OwnB w.heap.size w3 v3 (acc ++ [c]) := ownB_put hown3 (by omega) rfl
        have hb3 : Below w.heap.size w w3 := (HB.out.alloc (by omega) _).grown hg3 (by simp; omega) (fun k hk => (World.ownsRow.lt HOB.out k hk).1)
        have HOB3 := hid hob3
        have HB3 := hid hb3
        clear hown3 hg3 hob3 hb3
        go_wp2_with fail
        go_roundg (s.size - (i + 1))
        case measure => omega
        refine ⟨i + 1, by go_num, by omega, by omega, HB3.out, ?_⟩
        rw [HST.out, HW.out]
        exact HOB3.out
      | false =>
        have HW : Hid (writeC c = [37, hexd (c.toNat / 16), hexd (c.toNat % 16)]) := by show _ = _; unfold writeC; rw [hp]; rfl
        have HPL : Hid (∀ W, Calls Tryz.prog 73 #[.int .u8 (c.toNat : Nat)] W fun e w' => e = .returned (.bool false) ∧ w' = W) := fun W => by have := rplain_any (c.toNat : Int) W; rw [hp] at this; exact this
        clear hp
        go_wp2_with (first | (go_at_call 73; refine (HPL.out _).mono ?_; rintro e w1 ⟨rfl, rfl⟩))
        have HQ : Hid ((IntKind.u8.wrap ((c.toNat : Int) / 16)).toNat = c.toNat / 16 ∧ ((c.toNat : Int).tmod 16).toNat = c.toNat % 16) := ⟨by rw [wrap_byte _ (by omega)]; omega, by rw [Int.tmod_eq_emod_of_nonneg (by omega)]; omega⟩
        go_region_law (first
          | (refine step_append_lies _ (by rfl) (.tmp 21) (.tmp 32) 80 (by rfl) w.heap.size 5 i0 (.int .u8 0) 1 1 Tryz.underlying80 HI.out hz0 hz1 hz2 rfl (by decide) u3 acc.length (Lib.byteCells acc) (by rfl) (World.ownsRow.alloc (w := w1.drew) HOB.out _) _ 3 3 [.int .u8 37, .int .u8 ((hexd (IntKind.u8.wrap ((c.toNat : Int) / 16)).toNat).toNat : Nat), .int .u8 ((hexd ((c.toNat : Int).tmod 16).toNat).toNat : Nat)] (by rfl) rfl (new_bytes3 _ _ _ _) (one_bytes3 _ _ _) (by decide) (by unfold maxLen; omega) (by omega) (by simp; omega) _ rfl ?_; intro g4 cap4 w4 hown4 hg4 _ _)
          | (go_simp; go_at_call 74; refine (rdigitI _ _ (by first | (rw [wrap_byte _ (by omega)]; omega) | (rw [Int.tmod_eq_emod_of_nonneg (by omega)]; omega))).mono ?_; rintro o w2 ⟨rfl, rfl⟩))
        all_goals
          have hob4 : OwnB w.heap.size w4 (.slice (some ⟨g4, 0, none⟩) (acc.length + 3) cap4) (acc ++ [37, hexd (c.toNat / 16), hexd (c.toNat % 16)]) := ownB_puts hown4 rfl (by rw [HQ.out.1, HQ.out.2]; rfl)
          have hb4 : Below w.heap.size w w4 := ((bel_drewN HB.out 1).alloc hszr _).grown hg4 (by have h1 : w.heap.size ≤ (w1.drewN 1).heap.size := hszr; simp; omega) (fun k hk => (World.ownsRow.lt HOB.out k hk).1)
          have HOB4 := hid hob4
          have HB4 := hid hb4
          clear hown4 hg4 hob4 hb4
          go_wp2_with fail
          go_roundg (s.size - (i + 1))
          case measure => omega
          refine ⟨i + 1, by go_num, by omega, by omega, HB4.out, ?_⟩
          rw [HST.out, HW.out]
          exact HOB4.out
    · have hltz : ¬ (i : Int) < (s.size : Int) := by omega
      have htk2 : s.data.toList.take i = s.data.toList := List.take_of_length_le (by simp; omega)
      rw [htk2] at hob
      have kc := conv_any (ownB_rest hob)
      have HOJ := hid hob
      clear hob htk2
      go_wp2_with fail
      go_ret
      exact ⟨rfl, hb⟩

end Go.Proofs.YtelcongbnmfegaaGreatDoor

/-
  How long a value's bytes are, and how many blanks its line has.
-/
namespace Go.Proofs.YtelcongbnmfegaaGreatDoor
open Go.RowKit Go.Lib

/-- What ValueSizes counts. -/
def cntF (f : Fld) : Nat := 2 + f.1.size + (f.2.map fun t => 1 + t.size).sum
def cntB (fs : List Fld) : Nat := 1 + (fs.map cntF).sum

theorem encTs_len (ts : List ByteArray) : (ts.flatMap encT).length = (ts.map fun t => 1 + t.size).sum := by
  induction ts with
  | nil => rfl
  | cons t ts ih =>
    rw [List.flatMap_cons, List.length_append, encT_len, ih, List.map_cons, List.sum_cons]
    omega

theorem encF_cnt (f : Fld) : (encF f).length = cntF f := by
  unfold encF cntF
  rw [List.length_append, List.length_append, encT_len, encTs_len]
  simp only [List.length_cons, List.length_nil]
  omega

theorem encL_cnt (fs : List Fld) : (encL fs).length = cntB fs := by
  unfold encL cntB
  rw [List.length_cons]
  have : (fs.flatMap encF).length = (fs.map cntF).sum := by
    induction fs with
    | nil => rfl
    | cons f fs ih => rw [List.flatMap_cons, List.length_append, encF_cnt, ih, List.map_cons, List.sum_cons]
  omega

/-- The blanks of a text. -/
def blanks (l : List UInt8) : Nat := l.countP fun c => c == 32

theorem blanks_append (a b : List UInt8) : blanks (a ++ b) = blanks a + blanks b := List.countP_append ..

theorem blanks_join : ∀ ws : List (List UInt8), (∀ w ∈ ws, blanks w = 0) → blanks (Lib.join ws [32]) = ws.length - 1
  | [], _ => rfl
  | [w], h => by
    have := h w (by simp)
    simpa [Lib.join] using this
  | w :: v :: ws, h => by
    have h1 := h w (by simp)
    have ih := blanks_join (v :: ws) (fun x hx => h x (by simp [hx]))
    have e : Lib.join (w :: v :: ws) [32] = w ++ [32] ++ Lib.join (v :: ws) [32] := by simp [Lib.join]
    rw [e, blanks_append, blanks_append, h1, ih]
    simp [blanks]
    omega

theorem field_noblank {l : List UInt8} (h : fieldB l = true) : blanks l = 0 := by
  unfold blanks
  rw [List.countP_eq_zero]
  intro c hc
  unfold fieldB spell at h
  cases l with
  | nil => simp at hc
  | cons x r =>
    simp only [Bool.and_eq_true, List.all_eq_true] at h
    have key : lodB (c.toNat : Int) = true ∨ smallB (c.toNat : Int) = true := by
      rcases List.mem_cons.1 hc with rfl | hc
      · exact Or.inr h.1.2
      · exact Or.inl (h.2 c hc)
    intro e
    have e : c = 32 := by simpa using e
    subst e
    rcases key with k | k
    · revert k; decide
    · revert k; decide

theorem hexd_noblank (k : Nat) (h : k < 16) : (hexd k == 32) = false := by
  have t : ((List.range 16).all fun k => !(hexd k == 32)) = true := by decide
  have := List.all_eq_true.1 t k (List.mem_range.2 h)
  simpa using this

theorem write_noblank (l : List UInt8) : blanks (writeL l) = 0 := by
  induction l with
  | nil => rfl
  | cons c l ih =>
    rw [writeL_cons, blanks_append, ih]
    unfold writeC
    cases hp : plainB (c.toNat : Int) with
    | true =>
      have : (c == 32) = false := by
        rw [beq_eq_false_iff_ne]
        intro e
        subst e
        revert hp; decide
      simp [blanks, this]
    | false =>
      have hc := c.toNat_lt
      simp [blanks, hexd_noblank (c.toNat / 16) (by omega), hexd_noblank (c.toNat % 16) (by omega)]

theorem word_data (n t : ByteArray) : (wordOf n t).data.toList = n.data.toList ++ [61] ++ writeL t.data.toList := by
  unfold wordOf
  obtain ⟨⟨n⟩⟩ := n
  simp

theorem word_noblank {n t : ByteArray} (h : fieldB n.data.toList = true) : blanks (wordOf n t).data.toList = 0 := by
  rw [word_data, blanks_append, blanks_append, field_noblank h, write_noblank]
  rfl

theorem words_cnt (fs : List Fld) : (wordsL fs).length = totF fs := by
  unfold wordsL totF
  induction fs with
  | nil => rfl
  | cons f fs ih => rw [List.flatMap_cons, List.length_append, ih]; simp [wordsF]

theorem line_blanks {fs : List Fld} (h : mayB fs = true) : blanks (lineOf fs).data.toList = totF fs - 1 := by
  unfold lineOf
  show blanks (Lib.join ((wordsL fs).map (·.data.toList)) [32]).toArray.toList = _
  rw [List.toList_toArray, blanks_join, List.length_map, words_cnt]
  intro w hw
  obtain ⟨x, hx, rfl⟩ := List.mem_map.1 hw
  obtain ⟨f, hf, hx⟩ := List.mem_flatMap.1 hx
  obtain ⟨t, _, rfl⟩ := List.mem_map.1 hx
  exact word_noblank (fits_parts (may_fits h f hf)).2.2.2.2

theorem line_empty (fs : List Fld) : (lineOf fs).size = 0 ↔ totF fs = 0 := by
  have e : (lineOf fs).size = (Lib.join ((wordsL fs).map (·.data.toList)) [32]).length := by
    show (Lib.join ((wordsL fs).map (·.data.toList)) [32]).toArray.size = _
    simp
  rw [e, ← words_cnt]
  cases hw : wordsL fs with
  | nil => simp [Lib.join, List.intercalate]
  | cons x r =>
    have hx : x ∈ wordsL fs := by rw [hw]; simp
    obtain ⟨f, hf, hx⟩ := List.mem_flatMap.1 hx
    obtain ⟨t, _, rfl⟩ := List.mem_map.1 hx
    have hl : 0 < (wordOf f.1 t).data.toList.length := by rw [word_data]; simp; omega
    constructor
    · intro h
      exfalso
      cases r with
      | nil =>
        rw [List.map_cons, List.map_nil, Lib.join_one] at h
        omega
      | cons y r =>
        have : Lib.join ((wordOf f.1 t :: y :: r).map (·.data.toList)) [32] = (wordOf f.1 t).data.toList ++ [32] ++ Lib.join ((y :: r).map (·.data.toList)) [32] := by simp [Lib.join]
        rw [this] at h
        simp at h
    · intro h; simp at h

theorem join_size (c : Nat) : ∀ ws : List (List UInt8), (∀ w ∈ ws, w.length ≤ c) → (Lib.join ws [32]).length ≤ ws.length * (c + 1)
  | [], _ => by simp [Lib.join, List.intercalate]
  | [w], h => by
    have := h w (by simp)
    rw [Lib.join_one]
    simp
    omega
  | w :: v :: ws, h => by
    have h1 := h w (by simp)
    have ih := join_size c (v :: ws) (fun x hx => h x (by simp [hx]))
    have e : Lib.join (w :: v :: ws) [32] = w ++ [32] ++ Lib.join (v :: ws) [32] := by simp [Lib.join]
    have e2 : (w :: v :: ws).length * (c + 1) = (v :: ws).length * (c + 1) + (c + 1) := by rw [List.length_cons, Nat.add_mul, Nat.one_mul]
    have e3 : ([32] : List UInt8).length = 1 := rfl
    rw [e, List.length_append, List.length_append, e2, e3]
    omega

theorem line_size {fs : List Fld} (h : mayB fs = true) : (lineOf fs).size ≤ 53504 := by
  have e : (lineOf fs).size = (Lib.join ((wordsL fs).map (·.data.toList)) [32]).length := by
    show (Lib.join ((wordsL fs).map (·.data.toList)) [32]).toArray.size = _
    simp
  have h1 := join_size 417 ((wordsL fs).map (·.data.toList)) (fun w hw => by
    obtain ⟨x, hx, rfl⟩ := List.mem_map.1 hw
    obtain ⟨f, hf, hx⟩ := List.mem_flatMap.1 hx
    obtain ⟨t, ht, rfl⟩ := List.mem_map.1 hx
    simpa using word_len (may_fits h f hf) ht)
  have h2 := wordsL_len (fun f hf => may_fits h f hf) (may_parts h).1
  rw [List.length_map] at h1
  have h3 : (wordsL fs).length * (417 + 1) ≤ 128 * (417 + 1) := Nat.mul_le_mul_right _ h2
  omega

theorem cnt_small {fs : List Fld} (h : mayB fs = true) (i : Nat) : 1 + ((fs.take i).map cntF).sum ≤ 17057 := by
  have h1 : ((fs.take i).map cntF).sum = ((fs.take i).flatMap encF).length := by
    generalize fs.take i = gs
    induction gs with
    | nil => rfl
    | cons f gs ih => rw [List.flatMap_cons, List.length_append, encF_cnt, ← ih, List.map_cons, List.sum_cons]
  have := enc_ahead h i
  omega

theorem tot_small {fs : List Fld} (h : mayB fs = true) (i : Nat) : totF (fs.take i) ≤ 128 := by
  rw [← words_cnt]
  refine wordsL_len (fun f hf => may_fits h f (List.mem_of_mem_take hf)) ?_
  have := (may_parts h).1
  rw [List.length_take]
  omega

end Go.Proofs.YtelcongbnmfegaaGreatDoor

/-
  The contract of the reference's Print.
-/
namespace Go.Proofs.YtelcongbnmfegaaGreatDoor
open Go.RowKit Go.Lib

def lineB (ws : List ByteArray) : ByteArray := ⟨(Lib.join (ws.map (·.data.toList)) [32]).toArray⟩

theorem lineB_data (ws : List ByteArray) : (lineB ws).data.toList = Lib.join (ws.map (·.data.toList)) [32] := by
  unfold lineB
  rw [List.toList_toArray]

theorem join_snoc : ∀ (ws : List (List UInt8)) (x : List UInt8), ws ≠ [] → Lib.join (ws ++ [x]) [32] = Lib.join ws [32] ++ 32 :: x
  | [], _, h => absurd rfl h
  | [w], x, _ => by rw [List.singleton_append, join_two, Lib.join_one, Lib.join_one]
  | w :: v :: ws, x, _ => by
    have ih := join_snoc (v :: ws) x (by simp)
    rw [List.cons_append, List.cons_append, join_two, ← List.cons_append, ih, join_two]
    simp

theorem data_append (a b : ByteArray) : (a ++ b).data.toList = a.data.toList ++ b.data.toList := by
  simp

theorem lineB_first (n t : ByteArray) : lineB [wordOf n t] = ⟨#[]⟩ ++ n ++ ⟨#[61]⟩ ++ ⟨(writeL t.data.toList).toArray⟩ := by
  refine ba_eq ?_
  rw [lineB_data, List.map_cons, List.map_nil, Lib.join_one]
  unfold wordOf
  simp only [data_append]
  simp

theorem lineB_next {ws : List ByteArray} (h : ws ≠ []) (n t : ByteArray) : lineB (ws ++ [wordOf n t]) = lineB ws ++ ⟨#[32]⟩ ++ n ++ ⟨#[61]⟩ ++ ⟨(writeL t.data.toList).toArray⟩ := by
  refine ba_eq ?_
  rw [lineB_data, List.map_append, List.map_cons, List.map_nil, join_snoc _ _ (by simpa using h)]
  simp only [data_append, lineB_data]
  unfold wordOf
  simp only [data_append]
  simp

theorem lineB_size {ws : List ByteArray} (hn : ws.length ≤ 200) (hs : ∀ x ∈ ws, x.size ≤ 417) : (lineB ws).size ≤ 83600 := by
  have e : (lineB ws).size = (Lib.join (ws.map (·.data.toList)) [32]).length := by rw [← lineB_data]; simp
  have h1 := join_size 417 (ws.map (·.data.toList)) (fun w hw => by
    obtain ⟨x, hx, rfl⟩ := List.mem_map.1 hw
    simpa using hs x hx)
  rw [List.length_map] at h1
  have h3 : ws.length * (417 + 1) ≤ 200 * (417 + 1) := Nat.mul_le_mul_right _ hn
  omega

theorem lineB_ne {ws : List ByteArray} (h : ws ≠ []) (hs : ∀ x ∈ ws, 0 < x.size) : (lineB ws).toList.isEmpty = false := by
  rw [Lib.toList_data, lineB_data]
  match ws, h with
  | [x], _ =>
    have := hs x (by simp)
    rw [List.map_cons, List.map_nil, Lib.join_one]
    cases hx : x.data.toList with
    | nil =>
      have h3 : x.data.toList.length = x.size := by simp
      rw [hx] at h3
      simp at h3
      omega
    | cons _ _ => rfl
  | x :: y :: ws, _ =>
    rw [List.map_cons, List.map_cons, join_two]
    cases x.data.toList with
    | nil => rfl
    | cons _ _ => rfl

theorem word_pos (n t : ByteArray) : 0 < (wordOf n t).size := by
  have : 0 < (wordOf n t).data.toList.length := by rw [word_data]; simp; omega
  simpa using this

end Go.Proofs.YtelcongbnmfegaaGreatDoor

/-
  The contract of the reference's Norm.
-/
namespace Go.Proofs.YtelcongbnmfegaaGreatDoor
open Go.RowKit Go.Lib

def RnSt (w : World) (G : List Fld) (k : Nat) (v : Value) (wr : World) : Prop :=
  ∃ dr, OwnXs w.heap.size wr v dr ∧ dr.map Fx.fld = (G.take (min k 17)).map capF ∧ Below w.heap.size w wr

def RnAns (N : Nat) (fs : List Fld) (e : Ending) (w' : World) : Prop :=
  (fs.any misB = true ∧ e = .returned (.tuple #[.slice none 0 0, .int .i64 2])) ∨
    (fs.any misB = false ∧
     (((normF fs).any bareB = true ∧ e = .returned (.tuple #[.slice none 0 0, .int .i64 3])) ∨
      ((normF fs).any bareB = false ∧ mayB (normF fs) = false ∧ e = .returned (.tuple #[.slice none 0 0, .int .i64 5])) ∨
      ((normF fs).any bareB = false ∧ mayB (normF fs) = true ∧ ∃ u o, e = .returned (.tuple #[u, .int .i64 0]) ∧ OwnXs N w' u o ∧ o.map Fx.fld = normF fs)))
def RnPost (w : World) (fs : List Fld) (e : Ending) (w' : World) : Prop := RnAns w.heap.size fs e w' ∧ Below w.heap.size w w'

theorem mem_txtOf {fs : List Fld} {c t : ByteArray} (h : t ∈ txtOf fs c) : ∃ f ∈ fs, t ∈ f.2 := by
  unfold txtOf at h
  obtain ⟨f, hf, ht⟩ := List.mem_flatMap.1 h
  exact ⟨f, (List.mem_filter.1 hf).1, ht⟩

theorem txtOf_len (fs : List Fld) (c : ByteArray) : (txtOf fs c).length ≤ totF fs := by
  unfold txtOf totF
  induction fs with
  | nil => simp
  | cons f fs ih =>
    rw [List.map_cons, List.sum_cons]
    by_cases e : f.1 = c
    · rw [List.filter_cons_of_pos (by simp [e]), List.flatMap_cons, List.length_append]; omega
    · rw [List.filter_cons_of_neg (by simp [e])]; omega

theorem totF_take (fs : List Fld) (i : Nat) : totF (fs.take i) ≤ totF fs := by
  conv => rhs; rw [← List.take_append_drop i fs, totF_append]
  omega

theorem txtOf_step {d : List Fx} {i : Nat} (h : i < d.length) (c : ByteArray) : txtOf ((d.map Fx.fld).take (i + 1)) c = txtOf ((d.map Fx.fld).take i) c ++ if (d[i]).name = c then (d[i]).txt else [] := by
  rw [List.take_succ_eq_append_getElem (by simpa using h), txtOf_snoc]
  simp [Fx.fld]

theorem scanN_step {d : List Fx} {i : Nat} (h : i < d.length) (last : ByteArray) : scanN last ((d.map Fx.fld).take (i + 1)) =
    if ltB last (d[i]).name && (decide ((scanN last ((d.map Fx.fld).take i)).size = 0) || ltB (d[i]).name (scanN last ((d.map Fx.fld).take i))) then (d[i]).name else scanN last ((d.map Fx.fld).take i) := by
  rw [List.take_succ_eq_append_getElem (by simpa using h), scanN_snoc]
  simp [scanStep, Fx.fld]

theorem mis_all {d : List Fx} (h : ∀ j, (h : j < d.length) → fieldB (d[j]).name.data.toList = true) : (d.map Fx.fld).any misB = false := by
  rw [List.any_eq_false]
  intro f hf
  obtain ⟨x, hx, rfl⟩ := List.mem_map.1 hf
  obtain ⟨j, hj, rfl⟩ := List.mem_iff_getElem.1 hx
  have := h j hj
  simp [misB, Fx.fld, this]

theorem field_ne {l : ByteArray} (h : fieldB l.data.toList = true) : l.size ≠ 0 := by
  intro e
  have : l.data.toList = [] := List.length_eq_zero_iff.1 (by simpa using e)
  rw [this] at h
  revert h
  decide

theorem take9_more {T a b : List ByteArray} (h : 9 ≤ (T ++ a).length) : (T ++ (a ++ b)).take 9 = (T ++ a).take 9 := by
  rw [← List.append_assoc, List.take_append_of_le_length h]

theorem any_snoc {G : List Fld} {k : Nat} (h : k < G.length) : (G.take (k + 1)).any bareB = ((G.take k).any bareB || bareB G[k]) := by
  rw [List.take_succ_eq_append_getElem h, List.any_append]
  simp

theorem cap_snoc {G : List Fld} {k : Nat} (h : k < G.length) (hk : k < 17) : (G.take (min (k + 1) 17)).map capF = (G.take (min k 17)).map capF ++ [capF G[k]] := by
  rw [Nat.min_eq_left (by omega), Nat.min_eq_left (by omega), List.take_succ_eq_append_getElem h, List.map_append]
  rfl

theorem lastOf_succ {G : List Fld} {k : Nat} (h : k < G.length) : lastOf G (k + 1) = (G[k]).1 := by
  unfold lastOf
  rw [if_neg (by omega), Nat.add_sub_cancel, List.getD_eq_getElem?_getD, List.getElem?_eq_getElem h]
  rfl

/-- What the reference holds at its end is small. -/
theorem rn_fit {d dr : List Fx} {k : Nat} (hf : FitX d) (h : dr.map Fx.fld = ((normF (d.map Fx.fld)).take (min k 17)).map capF) : FitX dr := by
  have hg := normF_groups (d.map Fx.fld)
  have hl : dr.length ≤ 17 := by
    have := congrArg List.length h
    rw [List.length_map, List.length_map, List.length_take] at this
    omega
  refine ⟨by unfold maxLen; omega, fun x hx => ?_⟩
  have hm : x.fld ∈ ((normF (d.map Fx.fld)).take (min k 17)).map capF := by rw [← h]; exact List.mem_map.2 ⟨x, hx, rfl⟩
  obtain ⟨g, hgm, e⟩ := List.mem_map.1 hm
  have hgm := List.mem_of_mem_take hgm
  have e1 : x.name = g.1 := (congrArg Prod.fst e).symm
  have e2 : x.txt = g.2.take 9 := (congrArg Prod.snd e).symm
  obtain ⟨f, hfm, ef⟩ := (hg.names g.1).1 ⟨g, hgm, rfl⟩
  obtain ⟨y, hy, rfl⟩ := List.mem_map.1 hfm
  refine ⟨?_, ?_, fun t ht => ?_⟩
  · show x.name.size ≤ maxLen
    rw [e1, ← ef]; exact (hf.2 y hy).1
  · show x.txt.length ≤ maxLen
    rw [e2, List.length_take]; unfold maxLen; omega
  · have ht : t ∈ x.txt := ht
    rw [e2] at ht
    have ht := List.mem_of_mem_take ht
    rw [hg.texts g hgm] at ht
    obtain ⟨f', hf', ht'⟩ := mem_txtOf ht
    obtain ⟨z, hz, rfl⟩ := List.mem_map.1 hf'
    exact (hf.2 z hz).2.2 t ht'

end Go.Proofs.YtelcongbnmfegaaGreatDoor

/-
  The contract of the reference's Norm: the walk.
-/
namespace Go.Proofs.YtelcongbnmfegaaGreatDoor
open Go.RowKit Go.Lib

theorem less_of {a b : ByteArray} {c : Bool} (h : ltB a b = c) : Op.bytesLess a.toList b.toList = c := by
  rw [← h, ← ltN_eq]; rfl

theorem eq_false {a b : ByteArray} (h : a ≠ b) : (a.toList == b.toList) = false := by
  rw [Lib.toList_data, Lib.toList_data, beq_eq_false_iff_ne]
  exact fun e => h (ba_eq e)
theorem eq_true {a b : ByteArray} (h : a = b) : (a.toList == b.toList) = true := by rw [h]; simp

theorem empty_of {a : ByteArray} (h : a.size = 0) : a.toList.isEmpty = true := by
  rw [Lib.toList_data]
  have : a.data.toList = [] := List.length_eq_zero_iff.1 (by simpa using h)
  rw [this]; rfl
theorem nonempty_of {a : ByteArray} (h : a.size ≠ 0) : a.toList.isEmpty = false := by
  rw [Lib.toList_data]
  cases e : a.data.toList with
  | nil => exact absurd (by simpa using congrArg List.length e) h
  | cons _ _ => rfl

end Go.Proofs.YtelcongbnmfegaaGreatDoor

/-
  The contracts of SameTexts, SameFields and Same of the reference.
-/
namespace Go.Proofs.YtelcongbnmfegaaGreatDoor
open Go.RowKit

theorem str_ne {s t : ByteArray} (h : ¬ s = t) : (s.toList == t.toList) = false := by
  rw [Lib.toList_data, Lib.toList_data, beq_eq_false_iff_ne]
  intro e
  apply h
  obtain ⟨⟨s⟩⟩ := s
  obtain ⟨⟨t⟩⟩ := t
  simp at e
  rw [e]

set_option maxHeartbeats 1000000 in
set_option maxRecDepth 100000 in
theorem sameT_any (p q : Option Addr) (cap cap' : Nat) (ts us : List ByteArray) (w : World) (h1 : TxtAt w p ts) (h2 : TxtAt w q us) (hl1 : ts.length ≤ maxLen) :
    Calls Tryz.prog 38 #[.slice p ts.length cap, .slice q us.length cap'] w fun e w' => e = .returned (.bool (decide (ts = us))) ∧ ∃ n, w' = w.drewN n := by
  unfold maxLen at hl1
  obtain ⟨r, hr⟩ : ∃ r, decide (ts = us) = r := ⟨_, rfl⟩
  rw [hr]
  have HR := hid hr
  have H1 := hid h1
  have H2 := hid h2
  clear hr h1 h2
  by_cases hl : ts.length = us.length
  · have hb : ((ts.length : Int) != (us.length : Int)) = false := by simp [hl]
    have HL := hid hl
    clear hl
    go_enter Tryz.func38, Tryz.ntmps38
    go_wp2_with fail
    go_loopg [5] ts.length (fun g vi wr => ∃ i m : Nat, vi = .int .i64 i ∧ i ≤ ts.length ∧ ts.length - i ≤ g ∧ wr = w.drewN m ∧ Hid (∀ j, j < i → ts[j]? = us[j]?))
    case atStart => exact ⟨0, 0, rfl, by omega, by omega, rfl, fun j h => by omega⟩
    case round =>
      obtain ⟨i, m, rfl, hi, hg, rfl, HJ⟩ := hrel
      by_cases hlt : i < ts.length
      · have hlt2 : i < us.length := by rw [← HL.out]; exact hlt
        have i1 : (0 : Int) ≤ ↑i := by omega
        have i2 : (↑i : Int) < ↑ts.length := by omega
        have i3 : (↑i : Int) < ↑us.length := by omega
        rcases H1.out with hn | ⟨b1, o1, rfl, k1⟩
        · rw [hn] at hlt; simp at hlt
        rcases H2.out with hn | ⟨b2, o2, rfl, k2⟩
        · rw [hn] at hlt2; simp at hlt2
        have e1 := k1 i hlt
        have e2 := k2 i hlt2
        have g1 : ts[i]? = some ts[i] := List.getElem?_eq_getElem hlt
        have g2 : us[i]? = some us[i] := List.getElem?_eq_getElem hlt2
        clear k1 k2
        obtain ⟨s, hs⟩ : ∃ s, ts[i] = s := ⟨_, rfl⟩
        obtain ⟨t, ht⟩ : ∃ t, us[i] = t := ⟨_, rfl⟩
        rw [hs] at e1 g1
        rw [ht] at e2 g2
        have G1 := hid g1
        have G2 := hid g2
        clear hs ht g1 g2
        by_cases hst : s = t
        · subst hst
          go_wp2_with fail
          go_quiet (fail)
          go_wp2_with fail
          go_roundg (ts.length - (i + 1))
          case measure => omega
          refine ⟨i + 1, _, by go_num, by omega, by omega, rfl, fun j hj => ?_⟩
          by_cases e : j = i
          · subst e; rw [G1.out, G2.out]
          · exact HJ.out j (by omega)
        · have hne := str_ne hst
          have H0 : Hid (r = false) := HR.out.symm.trans (decide_eq_false fun e => hst (by
            have := G1.out
            rw [e, G2.out] at this
            exact (Option.some.inj this).symm))
          go_wp2_with fail
          go_quiet (fail)
          go_wp2_with fail
          go_ret
          exact ⟨ret_bool H0.out.symm, _, by rw [World.drewN_drewN]⟩
      · have hltz : ¬ (i : Int) < (ts.length : Int) := by omega
        have H0 : Hid (r = true) := HR.out.symm.trans (decide_eq_true (List.ext_getElem? fun j => by
          by_cases hj : j < ts.length
          · exact HJ.out j (by omega)
          · rw [List.getElem?_eq_none (by omega), List.getElem?_eq_none (by have := HL.out; omega)]))
        go_wp2_with fail
        go_ret
        exact ⟨ret_bool H0.out.symm, _, rfl⟩
  · have hb : ((ts.length : Int) != (us.length : Int)) = true := by simp; omega
    have H0 : Hid (r = false) := HR.out.symm.trans (decide_eq_false fun e => hl (by rw [e]))
    go_enter Tryz.func38, Tryz.ntmps38
    go_wp2_with fail
    go_ret
    exact ⟨ret_bool H0.out.symm, 0, rfl⟩

theorem TxtAt.draws {w : World} {p : Option Addr} {ts : List ByteArray} (h : TxtAt w p ts) (n : Nat) : TxtAt (w.drewN n) p ts := h

set_option maxHeartbeats 2000000 in
set_option maxRecDepth 100000 in
theorem sameF_any (v u : Value) (d e : List Fx) (w : World) (hv : IsXs w v d) (hu : IsXs w u e) (hf : FitX d) (hg : FitX e) :
    Calls Tryz.prog 18 #[v, u] w fun r w' => r = .returned (.bool (decide (d.map Fx.fld = e.map Fx.fld))) ∧ ∃ n, w' = w.drewN n := by
  obtain ⟨p, cap, rfl, hd, ht⟩ := hv
  obtain ⟨q, cap', rfl, he, ht'⟩ := hu
  have hl1 := hf.1
  have hl2 := hg.1
  unfold maxLen at hl1 hl2
  have HF := hid hf.2
  have HG := hid hg.2
  have HD := hid hd
  have HE := hid he
  have HT := hid ht
  have HT' := hid ht'
  obtain ⟨r, hr⟩ : ∃ r, decide (d.map Fx.fld = e.map Fx.fld) = r := ⟨_, rfl⟩
  rw [hr]
  have HR := hid hr
  clear hr hd he ht ht' hf hg
  by_cases hl : d.length = e.length
  · have hb : ((d.length : Int) != (e.length : Int)) = false := by simp [hl]
    have HL := hid hl
    clear hl
    go_enter Tryz.func18, Tryz.ntmps18
    go_wp2_with fail
    go_loopg [5] d.length (fun g vi wr => ∃ i m : Nat, vi = .int .i64 i ∧ i ≤ d.length ∧ d.length - i ≤ g ∧ wr = w.drewN m ∧ Hid (∀ j, j < i → (d.map Fx.fld)[j]? = (e.map Fx.fld)[j]?))
    case atStart => exact ⟨0, 0, rfl, by omega, by omega, rfl, fun j h => by omega⟩
    case round =>
      obtain ⟨i, m, rfl, hi, hgk, rfl, HJ⟩ := hrel
      by_cases hlt : i < d.length
      · have hlt2 : i < e.length := by rw [← HL.out]; exact hlt
        have i1 : (0 : Int) ≤ ↑i := by omega
        have i2 : (↑i : Int) < ↑d.length := by omega
        have i3 : (↑i : Int) < ↑e.length := by omega
        rcases HD.out with hn | ⟨b1, o1, rfl, k1⟩
        · rw [hn] at hlt; simp at hlt
        rcases HE.out with hn | ⟨b2, o2, rfl, k2⟩
        · rw [hn] at hlt2; simp at hlt2
        obtain ⟨x0, x1⟩ := k1 i hlt
        obtain ⟨y0, y1⟩ := k2 i hlt2
        have g1 : (d.map Fx.fld)[i]? = some (d[i]).fld := by rw [List.getElem?_map, List.getElem?_eq_getElem hlt]; rfl
        have g2 : (e.map Fx.fld)[i]? = some (e[i]).fld := by rw [List.getElem?_map, List.getElem?_eq_getElem hlt2]; rfl
        have fx := HF.out _ (List.getElem_mem hlt)
        have fy := HG.out _ (List.getElem_mem hlt2)
        have tx := HT.out _ (List.getElem_mem hlt)
        have ty := HT'.out _ (List.getElem_mem hlt2)
        clear k1 k2
        obtain ⟨x, hx⟩ : ∃ x, d[i] = x := ⟨_, rfl⟩
        obtain ⟨y, hy⟩ : ∃ y, e[i] = y := ⟨_, rfl⟩
        rw [hx] at x0 x1 g1 fx tx
        rw [hy] at y0 y1 g2 fy ty
        unfold Fx.sl at x1 y1
        have G1 := hid g1
        have G2 := hid g2
        obtain ⟨W, hW⟩ : ∃ W, w.drewN m = W := ⟨_, rfl⟩
        have HC : Hid (∀ n, Calls Tryz.prog 38 #[.slice x.p x.txt.length x.cap, .slice y.p y.txt.length y.cap] (W.drewN n) fun r w' => r = .returned (.bool (decide (x.txt = y.txt))) ∧ ∃ k, w' = (W.drewN n).drewN k) := fun n => by
          subst hW
          exact sameT_any _ _ _ _ _ _ _ tx ty fx.2.1
        replace x0 : W.cell? ⟨b1, o1 + i * 2, none⟩ = some (.string x.name) := by subst hW; exact x0
        replace x1 : W.cell? ⟨b1, o1 + i * 2 + 1, none⟩ = some (.slice x.p x.txt.length x.cap) := by subst hW; exact x1
        replace y0 : W.cell? ⟨b2, o2 + i * 2, none⟩ = some (.string y.name) := by subst hW; exact y0
        replace y1 : W.cell? ⟨b2, o2 + i * 2 + 1, none⟩ = some (.slice y.p y.txt.length y.cap) := by subst hW; exact y1
        have HW := hid hW
        rw [hW]
        have mixed := Tryz.mixed
        clear hx hy g1 g2 fx fy tx ty hW
        by_cases hst : x.name = y.name
        · obtain ⟨nm, hnm⟩ : ∃ nm, y.name = nm := ⟨_, rfl⟩
          rw [hst, hnm] at x0
          rw [hnm] at y0
          have HN : Hid (x.name = nm ∧ y.name = nm) := ⟨hst.trans hnm, hnm⟩
          clear hst hnm
          by_cases hts : x.txt = y.txt
          · have hd := decide_eq_true hts
            have HTS := hid hts
            rw [hd] at HC
            clear hd hts
            go_wp2_with fail
            refine wp_region_quiet_lit mixed (by kernel_rfl) ?_
            repeat (go_big_quiet_step (first | (go_at_call 38; refine Calls.quiet_of (HC.out _))))
            refine wpQuiet_nil ?_
            intro _ hw'
            obtain ⟨nq, hw''⟩ := hw'
            subst hw''
            go_wp2_with fail
            go_roundg (d.length - (i + 1))
            case measure => omega
            refine ⟨i + 1, m + nq, by go_num, by omega, by omega, by rw [← HW.out, World.drewN_drewN], fun j hj => ?_⟩
            by_cases ej : j = i
            · subst ej
              rw [G1.out, G2.out]
              unfold Fx.fld
              rw [HN.out.1, HN.out.2, HTS.out]
            · exact HJ.out j (by omega)
          · have hd := decide_eq_false hts
            rw [hd] at HC
            have H0 : Hid (r = false) := HR.out.symm.trans (decide_eq_false fun ee => hts (by
              have := G1.out
              rw [ee, G2.out] at this
              have := congrArg Prod.snd (Option.some.inj this)
              exact this.symm))
            clear hd hts
            go_wp2_with fail
            refine wp_region_quiet_lit mixed (by kernel_rfl) ?_
            repeat (go_big_quiet_step (first | (go_at_call 38; refine Calls.quiet_of (HC.out _))))
            refine wpQuiet_nil ?_
            intro _ hw'
            obtain ⟨nq, hw''⟩ := hw'
            subst hw''
            go_wp2_with fail
            go_ret
            exact ⟨ret_bool H0.out.symm, m + nq, by rw [← HW.out, World.drewN_drewN]⟩
        · have hne := str_ne hst
          have H0 : Hid (r = false) := HR.out.symm.trans (decide_eq_false fun ee => hst (by
            have := G1.out
            rw [ee, G2.out] at this
            have := congrArg Prod.fst (Option.some.inj this)
            exact this.symm))
          go_wp2_with fail
          refine wp_region_quiet_lit mixed (by kernel_rfl) ?_
          repeat (go_big_quiet_step (first | (go_at_call 38; refine Calls.quiet_of (HC.out _))))
          refine wpQuiet_nil ?_
          intro _ hw'
          obtain ⟨nq, hw''⟩ := hw'
          subst hw''
          go_wp2_with fail
          go_ret
          exact ⟨ret_bool H0.out.symm, m + nq, by rw [← HW.out, World.drewN_drewN]⟩
      · have hltz : ¬ (i : Int) < (d.length : Int) := by omega
        have H0 : Hid (r = true) := HR.out.symm.trans (decide_eq_true (List.ext_getElem? fun j => by
          by_cases hj : j < d.length
          · exact HJ.out j (by omega)
          · rw [List.getElem?_eq_none (by simp; omega), List.getElem?_eq_none (by have := HL.out; simp; omega)]))
        go_wp2_with fail
        go_ret
        exact ⟨ret_bool H0.out.symm, _, rfl⟩
  · have hb : ((d.length : Int) != (e.length : Int)) = true := by simp; omega
    have H0 : Hid (r = false) := HR.out.symm.trans (decide_eq_false fun ee => hl (by have := congrArg List.length ee; simpa using this))
    go_enter Tryz.func18, Tryz.ntmps18
    go_wp2_with fail
    go_ret
    exact ⟨ret_bool H0.out.symm, 0, rfl⟩

set_option maxHeartbeats 1000000 in
theorem same_any (v u : Value) (d e : List Fx) (k : Int) (w : World) (hv : IsXs w v d) (hu : IsXs w u e) (hf : FitX d) (hg : FitX e) :
    Calls Tryz.prog 12 #[v, u, .int .i64 k, .int .i64 k] w fun r w' => r = .returned (.bool (decide (d.map Fx.fld = e.map Fx.fld))) ∧ ∃ n, w' = w.drewN n := by
  have HC := hid (sameF_any v u d e w hv hu hf hg)
  clear hv hu
  go_enter Tryz.func12, Tryz.ntmps12
  go_wp2_with (first | (go_at_call 18; refine HC.out.mono ?_; rintro r w1 ⟨rfl, n, rfl⟩))
  go_ret
  exact ⟨rfl, n, rfl⟩

end Go.Proofs.YtelcongbnmfegaaGreatDoor

/-
  What Norm answers, by the fields alone: the program's and the reference's.
-/
namespace Go.Proofs.YtelcongbnmfegaaGreatDoor
open Go.RowKit Go.Lib

/-- What Norm answers: the number, and the fields. -/
def codeF (fs : List Fld) : Int := if fs.any misB then 2 else if (normF fs).any bareB then 3 else if mayB (normF fs) then 0 else 5
def ansF (fs : List Fld) : List Fld := if codeF fs = 0 then normF fs else []

theorem codeF_zero {fs : List Fld} (h : codeF fs = 0) : fs.any misB = false ∧ (normF fs).any bareB = false ∧ mayB (normF fs) = true := by
  unfold codeF at h
  cases h1 : fs.any misB with
  | true => rw [h1] at h; simp at h
  | false =>
    cases h2 : (normF fs).any bareB with
    | true => rw [h1, h2] at h; simp at h
    | false =>
      cases h3 : mayB (normF fs) with
      | true => exact ⟨rfl, rfl, rfl⟩
      | false => rw [h1, h2, h3] at h; simp at h

theorem may_fit {d : List Fx} {fs : List Fld} (hmay : mayB fs = true) (hm : d.map Fx.fld = fs) : FitX d := by
  have hl := (may_parts hmay).1
  refine ⟨?_, fun x hx => ?_⟩
  · rw [← hm, List.length_map] at hl
    unfold maxLen; omega
  · have hx' : x.fld ∈ fs := by rw [← hm]; exact List.mem_map.2 ⟨x, hx, rfl⟩
    obtain ⟨h1, _, h3, h4, _⟩ := fits_parts (may_fits hmay _ hx')
    refine ⟨?_, ?_, fun t ht => ?_⟩
    · unfold maxLen; omega
    · unfold maxLen; omega
    · have := h4 t ht; unfold maxLen; omega

theorem ans_fit {d : List Fx} {fs : List Fld} (hm : d.map Fx.fld = ansF fs) : FitX d := by
  unfold ansF at hm
  split at hm
  · rename_i h
    exact may_fit (codeF_zero h).2.2 hm
  · rw [List.map_eq_nil_iff] at hm
    subst hm
    exact ⟨by unfold maxLen; simp, fun x hx => by simp at hx⟩

def NPost (w : World) (fs : List Fld) (e : Ending) (w' : World) : Prop :=
  (∃ u o, e = .returned (.tuple #[u, .int .i64 (codeF fs)]) ∧ OwnXs w.heap.size w' u o ∧ o.map Fx.fld = ansF fs) ∧ Below w.heap.size w w'

theorem own_none (N : Nat) (w : World) : OwnXs N w (.slice none 0 0) [] := ⟨World.ownsRow_nil _ _ _ _, fun x hx => by simp at hx⟩

theorem ansPlain {N : Nat} {fs : List Fld} {e : Ending} {w' : World}
    (h : (fs.any misB = true ∧ e = .returned (.tuple #[.slice none 0 0, .int .i64 2])) ∨
    (fs.any misB = false ∧
     (((normF fs).any bareB = true ∧ e = .returned (.tuple #[.slice none 0 0, .int .i64 3])) ∨
      ((normF fs).any bareB = false ∧ mayB (normF fs) = false ∧ e = .returned (.tuple #[.slice none 0 0, .int .i64 5])) ∨
      ((normF fs).any bareB = false ∧ mayB (normF fs) = true ∧ ∃ u o, e = .returned (.tuple #[u, .int .i64 0]) ∧ OwnXs N w' u o ∧ o.map Fx.fld = normF fs)))) :
    ∃ u o, e = .returned (.tuple #[u, .int .i64 (codeF fs)]) ∧ OwnXs N w' u o ∧ o.map Fx.fld = ansF fs := by
  rcases h with ⟨h1, rfl⟩ | ⟨h1, ⟨h2, rfl⟩ | ⟨h2, h3, rfl⟩ | ⟨h2, h3, u, o, rfl, ho, hm⟩⟩
  · have hc : codeF fs = 2 := by unfold codeF; rw [h1]; rfl
    exact ⟨_, [], by rw [hc], own_none _ _, by unfold ansF; rw [hc]; rfl⟩
  · have hc : codeF fs = 3 := by unfold codeF; rw [h1, h2]; rfl
    exact ⟨_, [], by rw [hc], own_none _ _, by unfold ansF; rw [hc]; rfl⟩
  · have hc : codeF fs = 5 := by unfold codeF; rw [h1, h2, h3]; rfl
    exact ⟨_, [], by rw [hc], own_none _ _, by unfold ansF; rw [hc]; rfl⟩
  · have hc : codeF fs = 0 := by unfold codeF; rw [h1, h2, h3]; rfl
    exact ⟨u, o, by rw [hc], ho, by unfold ansF; rw [hc]; exact hm⟩

theorem norm_plain (v : Value) (d : List Fx) (w : World) (hv : IsXs w v d) (hf : FitX d) (hl : d.length * 40 ≤ 140737488355328) (htot : totF (d.map Fx.fld) * 16 ≤ 140737488355328) :
    Calls Tryz.prog 24 #[v] w fun e w' => NPost w (d.map Fx.fld) e w' := by
  refine (norm_any v d w hv hf hl htot).mono fun e w' h => ⟨ansPlain ?_, h.2⟩
  rcases h.ans.plain with h | ⟨h1, h | h | ⟨h2, h3, u, o, h4, h5, h6⟩⟩
  · exact Or.inl h
  · exact Or.inr ⟨h1, Or.inl h⟩
  · exact Or.inr ⟨h1, Or.inr (Or.inl h)⟩
  · exact Or.inr ⟨h1, Or.inr (Or.inr ⟨h2, h3, u, o, h4, h5.1, h6⟩)⟩

end Go.Proofs.YtelcongbnmfegaaGreatDoor

/-
  ValueNorms answers true, where the fields and their texts are few enough to be copied.
-/
namespace Go.Proofs.YtelcongbnmfegaaGreatDoor
open Go.RowKit Go.Lib

theorem bool_same (b : Bool) : (b == b) = true := by cases b <;> rfl

end Go.Proofs.YtelcongbnmfegaaGreatDoor

/-
  The contract of the reference's Read.
-/
namespace Go.Proofs.YtelcongbnmfegaaGreatDoor
open Go.RowKit

theorem firstP_plain {c : UInt8} {r : List UInt8} (h : plainB (c.toNat : Int) = true) : firstP (c :: r) = some (c, 1) := by
  simp [firstP, h]
theorem firstP_sign {c : UInt8} {r : List UInt8} (h : plainB (c.toNat : Int) = false) (h2 : c ≠ 37) : firstP (c :: r) = none := by
  simp [firstP, h, h2]
theorem pct_plain : plainB 37 = false := by decide
theorem firstP_short {r : List UInt8} (h : r.length < 2) : firstP (37 :: r) = none := by
  match r, h with
  | [], _ => simp [firstP, pct_plain]
  | [_], _ => simp [firstP, pct_plain]
theorem firstP_hex {a b : UInt8} {r : List UInt8} : firstP (37 :: a :: b :: r) = if hexN a = 16 ∨ hexN b = 16 then none else if plainB ((UInt8.ofNat (16 * hexN a + hexN b)).toNat : Int) then none else some (UInt8.ofNat (16 * hexN a + hexN b), 3) := by
  have e : firstP (37 :: a :: b :: r) = if hexv a < 0 ∨ hexv b < 0 then none else
      if plainB ((UInt8.ofNat (16 * (hexv a).toNat + (hexv b).toNat)).toNat : Int) then none else some (UInt8.ofNat (16 * (hexv a).toNat + (hexv b).toNat), 3) := by
    simp [firstP, pct_plain]
  rw [e, hexN_eq a, hexN_eq b]
  by_cases ha : hexN a = 16
  · rw [if_pos (Or.inl (by rw [if_pos ha]; decide)), if_pos (Or.inl ha)]
  · by_cases hb : hexN b = 16
    · rw [if_pos (Or.inr (by rw [if_pos hb]; decide)), if_pos (Or.inr hb)]
    · rw [if_neg (show ¬ (hexN a = 16 ∨ hexN b = 16) by omega), if_neg (show ¬ ((if hexN a = 16 then (-1 : Int) else (hexN a : Int)) < 0 ∨ (if hexN b = 16 then (-1 : Int) else (hexN b : Int)) < 0) by rw [if_neg ha, if_neg hb]; omega), if_neg ha, if_neg hb, Int.toNat_natCast, Int.toNat_natCast]

theorem drop_at (s : ByteArray) (i : Nat) (h : i < s.size) : s.data.toList.drop i = s[i] :: s.data.toList.drop (i + 1) := by
  rw [List.drop_eq_getElem_cons (by simpa using h)]
  rfl

def RrSt (w : World) (s : ByteArray) (i : Nat) (vb : Value) (wr : World) : Prop :=
  ∃ acc, OwnB w.heap.size wr vb acc ∧ acc.length ≤ i ∧ readL s.data.toList = (readL (s.data.toList.drop i)).map (acc ++ ·) ∧ Below w.heap.size w wr

theorem rr_next {s : ByteArray} {i n : Nat} {c : UInt8} {acc : List UInt8} (h : readL s.data.toList = (readL (s.data.toList.drop i)).map (acc ++ ·)) (hf : firstP (s.data.toList.drop i) = some (c, n)) :
    readL s.data.toList = (readL (s.data.toList.drop (i + n))).map ((acc ++ [c]) ++ ·) := by
  rw [h, readL_some hf, List.drop_drop, Option.map_map]
  congr 1
  funext x
  simp

theorem rr_no {s : ByteArray} {i : Nat} {acc : List UInt8} (hi : i < s.size) (h : readL s.data.toList = (readL (s.data.toList.drop i)).map (acc ++ ·)) (hf : firstP (s.data.toList.drop i) = none) : readL s.data.toList = none := by
  rw [h, readL_none (by rw [drop_at s i hi]; simp) hf]
  rfl

set_option maxHeartbeats 4000000 in
set_option maxRecDepth 100000 in
theorem rread_any (s : ByteArray) (w : World) (hs : s.size ≤ 140737488355327) :
    Calls Tryz.prog 81 #[.string s] w fun e w' => e = .returned (readV (readL s.data.toList)) ∧ Below w.heap.size w w' := by
  obtain ⟨i0, hi0, hz0, hz1, hz2⟩ := info_parts Tryz.infoByte
  have HI := hid hi0
  clear hi0
  have mixed := Tryz.mixed
  obtain ⟨res, hres⟩ : ∃ res, readL s.data.toList = res := ⟨_, rfl⟩
  rw [hres]
  have HRES := hid hres
  clear hres
  go_enter Tryz.func81, Tryz.ntmps81
  go_wp2_with fail
  go_loopg [4, 5] s.size (fun g vb vi wr => ∃ i : Nat, vi = .int .i64 i ∧ i ≤ s.size ∧ s.size - i ≤ g ∧ RrSt w s i vb wr)
  case atStart => exact ⟨0, rfl, by omega, by omega, [], World.ownsRow_nil _ _ _ _, by simp, by simp, Below.refl _ _⟩
  case round =>
    obtain ⟨i, rfl, hi, hgk, acc, hob, hal, hrd, hb⟩ := hrel
    have hszr := hb.size
    have HOB := hid hob
    have HB := hid hb
    have HRD := hid hrd
    by_cases hlt : i < s.size
    · have hltz : (i : Int) < (s.size : Int) := by omega
      have hiz : (0 : Int) ≤ i := by omega
      have hdr := drop_at s i hlt
      obtain ⟨c, hc⟩ : ∃ c, s[i] = c := ⟨_, rfl⟩
      rw [hc] at hdr
      have HDR := hid hdr
      have hc256 := c.toNat_lt
      clear hob hb hrd hdr
      cases hp : plainB (c.toNat : Int) with
      | true =>
        have HN : Hid (readL s.data.toList = (readL (s.data.toList.drop (i + 1))).map ((acc ++ [c]) ++ ·)) := rr_next HRD.out (by rw [HDR.out]; exact firstP_plain hp)
        have HPL : Hid (∀ W, Calls Tryz.prog 73 #[.int .u8 (c.toNat : Nat)] W fun e w' => e = .returned (.bool true) ∧ w' = W) := fun W => by have := rplain_any (c.toNat : Int) W; rw [hp] at this; exact this
        clear hp
        go_wp2_with (first | (go_at_call 73; refine (HPL.out _).mono ?_; rintro e w1 ⟨rfl, rfl⟩) | (at_builtin; refine wpList_append_own _ rfl _ _ 80 rfl w.heap.size 5 i0 (.int .u8 0) 1 1 Tryz.underlying80 HI.out hz0 hz1 hz2 rfl (by decide) _ _ _ rfl (World.ownsRow.alloc HOB.out _) ⟨w1.heap.size, 0, none⟩ 1 1 [.int .u8 (c.toNat : Int)] rfl rfl (new_byte _ _) (one_byte _) (by unfold maxLen; omega) (by omega) (by simp; omega) ?_))
        intro v3 w3 hown3 hg3 _
        have hob3 : OwnB w.heap.size w3 v3 (acc ++ [c]) := ownB_put hown3 rfl rfl
        have hb3 : Below w.heap.size w w3 := (HB.out.alloc (by omega) _).grown hg3 (by simp; omega) (fun k hk => (World.ownsRow.lt HOB.out k hk).1)
        have HOB3 := hid hob3
        have HB3 := hid hb3
        clear hown3 hg3 hob3 hb3
        go_wp2_with fail
        go_roundg (s.size - (i + 1))
        case measure => omega
        exact ⟨i + 1, by go_num, by omega, by omega, acc ++ [c], HOB3.out, by simp; omega, HN.out, HB3.out⟩
      | false =>
        have HPL : Hid (∀ W, Calls Tryz.prog 73 #[.int .u8 (c.toNat : Nat)] W fun e w' => e = .returned (.bool false) ∧ w' = W) := fun W => by have := rplain_any (c.toNat : Int) W; rw [hp] at this; exact this
        by_cases h37 : c = 37
        · subst h37
          by_cases hsh : s.size - i < 3
          · have hshz : decide ((s.size : Int) - (i : Int) < 3) = true := decide_eq_true (by omega)
            have HN : Hid (res = none) := HRES.out.symm.trans (rr_no hlt HRD.out (by rw [HDR.out]; exact firstP_short (by simp; omega)))
            go_wp2_with (first | (go_at_call 73; refine (HPL.out _).mono ?_; rintro e w1 ⟨rfl, rfl⟩))
            refine wp_region_quiet_lit mixed (by kernel_rfl) ?_
            repeat (go_big_quiet_step (first | (go_at_call 114; refine Calls.quiet_of_same (rhex_any _ _)) | (go_at_call 73; refine Calls.quiet_of_same (rplain_any _ _))))
            refine wpQuiet_nil ?_
            intro _ hw'
            obtain ⟨nq, hw''⟩ := hw'
            subst hw''
            go_wp2_with fail
            go_ret2
            rw [HN.out]
            exact ⟨rfl, bel_drewN HB.out _⟩
          · have hshz : decide ((s.size : Int) - (i : Int) < 3) = false := decide_eq_false (by omega)
            have hd1 := drop_at s (i + 1) (by omega)
            have hd2 := drop_at s (i + 1 + 1) (by omega)
            obtain ⟨a, ha⟩ : ∃ a, s[i + 1]'(by omega) = a := ⟨_, rfl⟩
            obtain ⟨b, hb⟩ : ∃ b, s[i + 1 + 1]'(by omega) = b := ⟨_, rfl⟩
            rw [ha] at hd1
            rw [hb] at hd2
            have hb2 : s[i + 2]'(by omega) = b := hb
            have i1 : (0 : Int) ≤ (i : Int) + 1 := by omega
            have i2 : (i : Int) + 1 < (s.size : Int) := by omega
            have i3 : (0 : Int) ≤ (i : Int) + 2 := by omega
            have i4 : (i : Int) + 2 < (s.size : Int) := by omega
            have hal16 := hexN_le a
            have hbl16 := hexN_le b
            have hdd : s.data.toList.drop i = 37 :: a :: b :: s.data.toList.drop (i + 3) := by rw [HDR.out, hd1, hd2]
            have HDD := hid hdd
            clear hd1 hd2 hdd
            by_cases hxa : hexN a = 16
            · have da : decide ((15 : Int) < (hexN a : Int)) = true := decide_eq_true (by omega)
              have HN : Hid (res = none) := HRES.out.symm.trans (rr_no hlt HRD.out (by rw [HDD.out, firstP_hex, if_pos (Or.inl hxa)]))
              clear hxa
              go_wp2_with (first | (go_at_call 73; refine (HPL.out _).mono ?_; rintro e w1 ⟨rfl, rfl⟩))
              refine wp_region_quiet_lit mixed (by kernel_rfl) ?_
              repeat (go_big_quiet_step (first | (go_at_call 114; refine Calls.quiet_of_same (rhex_any _ _)) | (go_at_call 73; refine Calls.quiet_of_same (rplain_any _ _))))
              refine wpQuiet_nil ?_
              intro _ hw'
              obtain ⟨nq, hw''⟩ := hw'
              subst hw''
              go_wp2_with fail
              go_ret2
              rw [HN.out]
              exact ⟨rfl, bel_drewN HB.out _⟩
            have da : decide ((15 : Int) < (hexN a : Int)) = false := decide_eq_false (by omega)
            by_cases hxb : hexN b = 16
            · have db : decide ((15 : Int) < (hexN b : Int)) = true := decide_eq_true (by omega)
              have HN : Hid (res = none) := HRES.out.symm.trans (rr_no hlt HRD.out (by rw [HDD.out, firstP_hex, if_pos (Or.inr hxb)]))
              clear hxb
              go_wp2_with (first | (go_at_call 73; refine (HPL.out _).mono ?_; rintro e w1 ⟨rfl, rfl⟩))
              refine wp_region_quiet_lit mixed (by kernel_rfl) ?_
              repeat (go_big_quiet_step (first | (go_at_call 114; refine Calls.quiet_of_same (rhex_any _ _)) | (go_at_call 73; refine Calls.quiet_of_same (rplain_any _ _))))
              refine wpQuiet_nil ?_
              intro _ hw'
              obtain ⟨nq, hw''⟩ := hw'
              subst hw''
              go_wp2_with fail
              go_ret2
              rw [HN.out]
              exact ⟨rfl, bel_drewN HB.out _⟩
            have db : decide ((15 : Int) < (hexN b : Int)) = false := decide_eq_false (by omega)
            have hsum : ((UInt8.ofNat (16 * hexN a + hexN b)).toNat : Int) = (hexN a : Int) * 16 + (hexN b : Int) := by
              rw [UInt8.toNat_ofNat']; omega
            have HSU := hid hsum
            have HFP : Hid (firstP (s.data.toList.drop i) = if plainB ((hexN a : Int) * 16 + (hexN b : Int)) = true then none else some (UInt8.ofNat (16 * hexN a + hexN b), 3)) := by
              show _ = _
              rw [HDD.out, firstP_hex, if_neg (by omega), hsum]
            clear hsum
            cases hq : plainB ((hexN a : Int) * 16 + (hexN b : Int)) with
            | true =>
              have HN : Hid (res = none) := HRES.out.symm.trans (rr_no hlt HRD.out (by rw [HFP.out, if_pos hq]))
              go_wp2_with (first | (go_at_call 73; refine (HPL.out _).mono ?_; rintro e w1 ⟨rfl, rfl⟩))
              refine wp_region_quiet_lit mixed (by kernel_rfl) ?_
              repeat (go_big_quiet_step (first | (go_at_call 114; refine Calls.quiet_of_same (rhex_any _ _)) | (go_at_call 73; refine Calls.quiet_of_same (rplain_any _ _))))
              refine wpQuiet_nil ?_
              intro _ hw'
              obtain ⟨nq, hw''⟩ := hw'
              subst hw''
              go_wp2_with fail
              go_ret2
              rw [HN.out]
              exact ⟨rfl, bel_drewN HB.out _⟩
            | false =>
              have HN : Hid (readL s.data.toList = (readL (s.data.toList.drop (i + 3))).map ((acc ++ [UInt8.ofNat (16 * hexN a + hexN b)]) ++ ·)) := rr_next HRD.out (by rw [HFP.out, hq]; rfl)
              go_wp2_with (first | (go_at_call 73; refine (HPL.out _).mono ?_; rintro e w1 ⟨rfl, rfl⟩))
              refine wp_region_quiet_lit mixed (by kernel_rfl) ?_
              repeat (go_big_quiet_step (first | (go_at_call 114; refine Calls.quiet_of_same (rhex_any _ _)) | (go_at_call 73; refine Calls.quiet_of_same (rplain_any _ _))))
              refine wpQuiet_nil ?_
              intro _ hw'
              obtain ⟨nq, hw''⟩ := hw'
              subst hw''
              go_wp2_with fail
              obtain ⟨W2, hW2⟩ : ∃ W2, w1.drewN nq = W2 := ⟨_, rfl⟩
              have hb2W : Below w.heap.size w W2 := by rw [← hW2]; exact bel_drewN HB.out _
              have hob2 : OwnB w.heap.size W2 u4 acc := by rw [← hW2]; exact HOB.out
              have hszW := hb2W.size
              have HBW := hid hb2W
              have HOW := hid hob2
              rw [hW2]
              clear hW2 hb2W hob2
              have x1 : IntKind.i64.wrap ((i : Int) + 1) = (i : Int) + 1 := by simp [IntKind.wrap, IntKind.signed, IntKind.bits]; omega
              have x2 : IntKind.i64.wrap ((i : Int) + 2) = (i : Int) + 2 := by simp [IntKind.wrap, IntKind.signed, IntKind.bits]; omega
              have x3 : ((i : Int) + 1).toNat = i + 1 := by omega
              have x4 : ((i : Int) + 2).toNat = i + 2 := by omega
              have x5 : IntKind.u8.wrap ((hexN a : Int) * 16) = (hexN a : Int) * 16 := wrap_byte _ (by omega)
              have x6 : IntKind.u8.wrap ((hexN a : Int) * 16 + (hexN b : Int)) = (hexN a : Int) * 16 + (hexN b : Int) := wrap_byte _ (by omega)
              go_region_law (first
                | (refine step_append_lies _ (by rfl) (.tmp 12) (.tmp 25) 80 (by rfl) w.heap.size 5 i0 (.int .u8 0) 1 1 Tryz.underlying80 HI.out hz0 hz1 hz2 rfl (by decide) u4 acc.length (Lib.byteCells acc) (by rfl) (World.ownsRow.alloc (w := W2.drew) HOW.out _) _ 1 1 [.int .u8 ((hexN a : Int) * 16 + (hexN b : Int))] (by rfl) rfl (new_byte _ _) (one_byte _) (by decide) (by unfold maxLen; omega) (by omega) (by simp; omega) _ rfl ?_; intro g4 cap4 w4 hown4 hg4 _ _)
                | (go_simp; go_at_call 114; refine (rhex_any _ _).mono ?_; rintro o w2 ⟨rfl, rfl⟩))
              all_goals
                have hob4 : OwnB w.heap.size w4 (.slice (some ⟨g4, 0, none⟩) (acc.length + 1) cap4) (acc ++ [UInt8.ofNat (16 * hexN a + hexN b)]) := ownB_put hown4 rfl HSU.out
                have hb4 : Below w.heap.size w w4 := ((bel_drewN HBW.out 1).alloc hszW _).grown hg4 (by have h1 : w.heap.size ≤ (W2.drewN 1).heap.size := hszW; simp; omega) (fun k hk => (World.ownsRow.lt HOW.out k hk).1)
                have HOB4 := hid hob4
                have HB4 := hid hb4
                clear hown4 hg4 hob4 hb4
                go_wp2_with fail
                go_roundg (s.size - (i + 3))
                case measure => omega
                exact ⟨i + 3, by go_num, by omega, by omega, _, HOB4.out, by simp; omega, HN.out, HB4.out⟩
        · have hcne : ((c.toNat : Int) != 37) = true := by
            rw [bne_iff_ne]
            intro e
            apply h37
            have : c.toNat = 37 := by omega
            exact UInt8.toNat_inj.1 this
          have HN : Hid (res = none) := HRES.out.symm.trans (rr_no hlt HRD.out (by rw [HDR.out]; exact firstP_sign hp h37))
          go_wp2_with (first | (go_at_call 73; refine (HPL.out _).mono ?_; rintro e w1 ⟨rfl, rfl⟩))
          refine wp_region_quiet_lit mixed (by kernel_rfl) ?_
          repeat (go_big_quiet_step (first | (go_at_call 114; refine Calls.quiet_of_same (rhex_any _ _)) | (go_at_call 73; refine Calls.quiet_of_same (rplain_any _ _))))
          refine wpQuiet_nil ?_
          intro _ hw'
          obtain ⟨nq, hw''⟩ := hw'
          subst hw''
          go_wp2_with fail
          go_ret2
          rw [HN.out]
          exact ⟨rfl, bel_drewN HB.out _⟩
    · have hltz : ¬ (i : Int) < (s.size : Int) := by omega
      have hres2 : res = some acc := by
        rw [← HRES.out, hrd, List.drop_of_length_le (by simp; omega), readL_nil]
        simp
      have HR2 := hid hres2
      have kc := conv_any (ownB_rest hob)
      clear hob hrd hres2
      go_wp2_with fail
      go_ret2
      rw [HR2.out]
      exact ⟨rfl, hb⟩

end Go.Proofs.YtelcongbnmfegaaGreatDoor

/-
  ValueTexts answers true, where each text is short enough to be written.
-/
namespace Go.Proofs.YtelcongbnmfegaaGreatDoor
open Go.RowKit

theorem hexd_table : ((List.range 16).all fun k => decide (hexN (hexd k) = k)) = true := by decide
theorem hexN_hexd {k : Nat} (h : k < 16) : hexN (hexd k) = k := by
  have := List.all_eq_true.1 hexd_table k (List.mem_range.2 h)
  exact of_decide_eq_true this

theorem hexd_hexN {c : UInt8} (h : hexN c ≠ 16) : hexd (hexN c) = c := by
  rcases hexv_cases c with h1 | ⟨k, hk, _, rfl⟩
  · rw [hexN_eq, if_neg h] at h1
    omega
  · rw [hexN_hexd hk]

theorem read_write (l : List UInt8) : readL (writeL l) = some l := by
  induction l with
  | nil => exact readL_nil
  | cons c l ih =>
    rw [writeL_cons]
    cases hp : plainB (c.toNat : Int) with
    | true =>
      have e : writeC c = [c] := by unfold writeC; rw [if_pos hp]
      rw [e, List.cons_append, List.nil_append, readL_some (firstP_plain hp)]
      show (readL (writeL l)).map _ = _
      rw [ih]; rfl
    | false =>
      have e : writeC c = [37, hexd (c.toNat / 16), hexd (c.toNat % 16)] := by unfold writeC; rw [hp]; rfl
      have hc := c.toNat_lt
      have h1 : hexN (hexd (c.toNat / 16)) = c.toNat / 16 := hexN_hexd (by omega)
      have h2 : hexN (hexd (c.toNat % 16)) = c.toNat % 16 := hexN_hexd (by omega)
      have hs : UInt8.ofNat (16 * (c.toNat / 16) + c.toNat % 16) = c := by
        rw [show 16 * (c.toNat / 16) + c.toNat % 16 = c.toNat by omega, UInt8.ofNat_toNat]
      have hf : firstP (37 :: hexd (c.toNat / 16) :: hexd (c.toNat % 16) :: writeL l) = some (c, 3) := by
        rw [firstP_hex, h1, h2, if_neg (by omega), hs, if_neg (by rw [hp]; simp)]
      rw [e]
      show readL (37 :: hexd (c.toNat / 16) :: hexd (c.toNat % 16) :: writeL l) = _
      rw [readL_some hf]
      show (readL (writeL l)).map _ = _
      rw [ih]; rfl

theorem firstP_write {l : List UInt8} {c : UInt8} {n : Nat} (h : firstP l = some (c, n)) : writeC c = l.take n ∧ 0 < n := by
  cases l with
  | nil => cases h
  | cons x r =>
    cases hp : plainB (x.toNat : Int) with
    | true =>
      rw [firstP_plain hp] at h
      cases h
      refine ⟨?_, by omega⟩
      unfold writeC
      rw [if_pos hp]
      rfl
    | false =>
      by_cases hx : x = 37
      · subst hx
        match r, h with
        | [], h => rw [firstP_short (by simp)] at h; cases h
        | [_], h => rw [firstP_short (by simp)] at h; cases h
        | a :: b :: r, h =>
          rw [firstP_hex] at h
          by_cases h1 : hexN a = 16 ∨ hexN b = 16
          · rw [if_pos h1] at h; cases h
          · rw [if_neg h1] at h
            have ha := hexN_le a
            have hb := hexN_le b
            cases hq : plainB ((UInt8.ofNat (16 * hexN a + hexN b)).toNat : Int) with
            | true => rw [if_pos hq] at h; cases h
            | false =>
              rw [if_neg (by rw [hq]; simp)] at h
              cases h
              refine ⟨?_, by omega⟩
              unfold writeC
              rw [hq]
              have e : (UInt8.ofNat (16 * hexN a + hexN b)).toNat = 16 * hexN a + hexN b := by rw [UInt8.toNat_ofNat']; omega
              rw [e, show (16 * hexN a + hexN b) / 16 = hexN a by omega, show (16 * hexN a + hexN b) % 16 = hexN b by omega, hexd_hexN (by omega), hexd_hexN (by omega)]
              rfl
      · rw [firstP_sign hp hx] at h; cases h

theorem write_read : ∀ (k : Nat) (l m : List UInt8), l.length ≤ k → readL l = some m → writeL m = l
  | 0, l, m, hl, h => by
    obtain rfl := List.length_eq_zero_iff.1 (by omega : l.length = 0)
    rw [readL_nil] at h; cases h; rfl
  | k + 1, l, m, hl, h => by
    by_cases h0 : l = []
    · subst h0; rw [readL_nil] at h; cases h; rfl
    · cases hf : firstP l with
      | none => rw [readL_none h0 hf] at h; cases h
      | some x =>
        obtain ⟨c, n⟩ := x
        rw [readL_some hf] at h
        cases hr : readL (l.drop n) with
        | none => rw [hr] at h; cases h
        | some m' =>
          rw [hr] at h
          cases h
          obtain ⟨h1, h2⟩ := firstP_write hf
          have hlen : l.length ≠ 0 := fun e => h0 (List.length_eq_zero_iff.1 e)
          have := write_read k (l.drop n) m' (by rw [List.length_drop]; omega) hr
          show writeL (c :: m') = l
          rw [writeL_cons, this, h1, List.take_append_drop]

theorem read_back (t : ByteArray) (w : World) (hp : PlainAt w) (hs : t.size ≤ 46912496118442) :
    Calls Tryz.prog 79 #[.string ⟨(writeL t.data.toList).toArray⟩] w fun e w' => e = .returned (.tuple #[.string t, .int .i64 0]) ∧ Below w.heap.size w w' := by
  have hl := writeL_len t.data.toList
  have := read_any ⟨(writeL t.data.toList).toArray⟩ w hp (by
    show (writeL t.data.toList).toArray.size ≤ _
    simp at hl ⊢
    omega)
  rw [show (ByteArray.mk (writeL t.data.toList).toArray).data.toList = writeL t.data.toList by simp, read_write] at this
  have e : (⟨t.data.toList.toArray⟩ : ByteArray) = t := by obtain ⟨⟨l⟩⟩ := t; rfl
  simp only [readV, e] at this
  exact this

theorem write_back (t : ByteArray) (m : List UInt8) (w : World) (hp : PlainAt w) (hs : t.size ≤ 46912496118442) (h : readL t.data.toList = some m) :
    Calls Tryz.prog 69 #[.string ⟨m.toArray⟩] w fun e w' => e = .returned (.string t) ∧ Below w.heap.size w w' := by
  have hl := readL_len _ _ _ (Nat.le_refl _) h
  have := write_any ⟨m.toArray⟩ w hp (by
    show m.toArray.size ≤ _
    simp at hl ⊢
    omega)
  rw [show (ByteArray.mk m.toArray).data.toList = m by simp, write_read _ _ _ (Nat.le_refl _) h] at this
  have e : (⟨t.data.toList.toArray⟩ : ByteArray) = t := by obtain ⟨⟨l⟩⟩ := t; rfl
  rw [e] at this
  exact this

end Go.Proofs.YtelcongbnmfegaaGreatDoor

/-
  A value's line is read back as the value.
-/
namespace Go.Proofs.YtelcongbnmfegaaGreatDoor
open Go.RowKit Go.Lib

theorem ix_here {a b : List UInt8} {c : UInt8} (h : c ∉ a) : Lib.indexByte (a ++ c :: b) c = (a.length : Int) := by
  rcases ix_cases (a ++ c :: b) c with ⟨_, h2⟩ | ⟨i, h1, h2, h3, h4⟩
  · exact absurd (by simp) h2
  · have h5 := ix_split _ c i h2 h3
    have := (ix_uniq h5 h h4).1
    rw [h1, this, List.length_take]
    omega

theorem ix_none {a : List UInt8} {c : UInt8} (h : c ∉ a) : Lib.indexByte a c = -1 := by
  rcases ix_cases a c with ⟨h1, _⟩ | ⟨i, _, h2, h3, _⟩
  · exact h1
  · exact absurd (List.mem_of_getElem? h3) h

theorem split_join : ∀ ws : List (List UInt8), ws ≠ [] → (∀ w ∈ ws, (32 : UInt8) ∉ w) → splitL (Lib.join ws [32]) = ws
  | [], h, _ => absurd rfl h
  | [w], _, h => by
    rw [Lib.join_one]
    exact splitL_no (ix_none (h w (by simp)))
  | w :: v :: ws, _, h => by
    have ih := split_join (v :: ws) (by simp) (fun x hx => h x (by simp [hx]))
    rw [join_two, splitL_yes (ix_here (h w (by simp)))]
    rw [List.take_left' rfl]
    congr 1
    rw [show w ++ 32 :: Lib.join (v :: ws) [32] = (w ++ [32]) ++ Lib.join (v :: ws) [32] by simp, List.drop_left' (by simp)]
    exact ih

theorem noblank_mem {l : List UInt8} (h : blanks l = 0) : (32 : UInt8) ∉ l := by
  intro hm
  have := List.countP_eq_zero.1 h 32 hm
  simp at this

theorem field_noeq {l : List UInt8} (h : fieldB l = true) : (61 : UInt8) ∉ l := by
  intro hc
  unfold fieldB spell at h
  cases l with
  | nil => simp at hc
  | cons x r =>
    simp only [Bool.and_eq_true, List.all_eq_true] at h
    have key : lodB ((61 : UInt8).toNat : Int) = true ∨ smallB ((61 : UInt8).toNat : Int) = true := by
      rcases List.mem_cons.1 hc with e | hc
      · exact Or.inr (by rw [e]; exact h.1.2)
      · exact Or.inl (h.2 _ hc)
    rcases key with k | k
    · revert k; decide
    · revert k; decide

theorem word_back {n t : ByteArray} (h : fieldB n.data.toList = true) : wordO (wordOf n t).data.toList = some (n.data.toList, t.data.toList) := by
  rw [word_data, List.append_assoc, List.singleton_append]
  have e := ix_here (b := writeL t.data.toList) (field_noeq h)
  unfold wordO
  rw [e, if_neg (by omega), Int.toNat_natCast, List.take_left' rfl]
  rw [show n.data.toList ++ 61 :: writeL t.data.toList = (n.data.toList ++ [61]) ++ writeL t.data.toList by simp, List.drop_left' (by simp), read_write]
  rfl

/-- Each text a field by itself. -/
def singles (fs : List Fld) : List Fld := fs.flatMap fun f => f.2.map fun t => (f.1, [t])

theorem ba_back (b : ByteArray) : (⟨b.data.toList.toArray⟩ : ByteArray) = b := by obtain ⟨⟨l⟩⟩ := b; rfl

theorem words_back (fs : List Fld) (h : ∀ f ∈ fs, fieldB f.1.data.toList = true) : fieldsW ((wordsL fs).map (·.data.toList)) = some (singles fs) := by
  induction fs with
  | nil => rfl
  | cons f fs ih =>
    have hf := h f (by simp)
    have ih := ih fun g hg => h g (by simp [hg])
    have e1 : fieldsW ((wordsF f).map (·.data.toList)) = some (f.2.map fun t => (f.1, [t])) := by
      unfold wordsF
      generalize f.2 = ts
      induction ts with
      | nil => rfl
      | cons t ts iht =>
        simp only [List.map_cons, fieldsW]
        rw [word_back hf]
        simp only
        rw [iht, ba_back, ba_back]
        rfl
    unfold wordsL at ih ⊢
    rw [List.flatMap_cons, List.map_append, fieldsW_append, e1, ih]
    rfl

theorem single_filter (f : Fld) (c : ByteArray) : ((f.2.map fun t => ((f.1, [t]) : Fld)).filter fun x => decide (x.1 = c)).flatMap (·.2) = if f.1 = c then f.2 else [] := by
  obtain ⟨n, ts⟩ := f
  simp only
  by_cases e : n = c
  · rw [if_pos e, List.filter_eq_self.2 (fun x hx => by obtain ⟨t, _, rfl⟩ := List.mem_map.1 hx; simp [e])]
    induction ts with
    | nil => rfl
    | cons t ts ih => rw [List.map_cons, List.flatMap_cons, ih]; rfl
  · rw [if_neg e, List.filter_eq_nil_iff.2 (fun x hx => by obtain ⟨t, _, rfl⟩ := List.mem_map.1 hx; simp [e])]
    rfl

theorem txt_singles (fs : List Fld) (c : ByteArray) : txtOf (singles fs) c = txtOf fs c := by
  induction fs with
  | nil => rfl
  | cons f fs ih =>
    unfold txtOf singles at *
    rw [List.flatMap_cons, List.filter_append, List.flatMap_append, single_filter, ih]
    by_cases e : f.1 = c
    · rw [if_pos e, List.filter_cons_of_pos (by simp [e]), List.flatMap_cons]
    · rw [if_neg e, List.filter_cons_of_neg (by simp [e]), List.nil_append]

theorem may_rising {fs : List Fld} (h : mayB fs = true) : Rising fs := by
  have hs := (may_parts h).2
  have step : ∀ i, (hi : i + 1 < fs.length) → ltB (fs[i]).1 (fs[i + 1]).1 = true := fun i hi => by
    have := hs (i + 1) hi
    unfold stepOk at this
    rw [Bool.and_eq_true, Bool.or_eq_true] at this
    rcases this.2 with h | h
    · have := of_decide_eq_true h; omega
    · rw [ltN_eq, Nat.add_sub_cancel, List.getD_eq_getElem?_getD, List.getD_eq_getElem?_getD, List.getElem?_eq_getElem hi, List.getElem?_eq_getElem (show i < fs.length by omega)] at h
      exact h
  refine List.pairwise_iff_getElem.2 fun i j hi hj hij => ?_
  induction j with
  | zero => omega
  | succ j ih =>
    by_cases e : i = j
    · subst e; exact step i hj
    · exact ltB_trans (ih (by omega) (by omega)) (step j hj)

theorem rising_txt {fs : List Fld} (h : Rising fs) : ∀ f ∈ fs, f.2 = txtOf fs f.1 := by
  intro f hf
  obtain ⟨a, b, rfl⟩ := List.append_of_mem hf
  have hr := List.pairwise_append.1 h
  have hr2 := List.pairwise_cons.1 hr.2.1
  have ha : a.filter (fun x => decide (x.1 = f.1)) = [] := List.filter_eq_nil_iff.2 fun x hx e => ltB_ne (hr.2.2 x hx f (by simp)) (by simpa using e)
  have hb : b.filter (fun x => decide (x.1 = f.1)) = [] := List.filter_eq_nil_iff.2 fun x hx e => ltB_ne (hr2.1 x hx) (Eq.symm (of_decide_eq_true e))
  unfold txtOf
  rw [List.filter_append, ha, List.filter_cons_of_pos (by simp), hb]
  simp

theorem groups_self {fs : List Fld} (h : Rising fs) : Groups fs fs := ⟨h, fun _ => Iff.rfl, rising_txt h⟩

theorem groups_singles {fs : List Fld} (h : Rising fs) (hne : ∀ f ∈ fs, f.2 ≠ []) : Groups (singles fs) fs := by
  refine ⟨h, fun c => ⟨?_, ?_⟩, fun f hf => ?_⟩
  · rintro ⟨f, hf, rfl⟩
    cases ht : f.2 with
    | nil => exact absurd ht (hne f hf)
    | cons t ts => exact ⟨(f.1, [t]), List.mem_flatMap.2 ⟨f, hf, List.mem_map.2 ⟨t, by rw [ht]; simp, rfl⟩⟩, rfl⟩
  · rintro ⟨x, hx, rfl⟩
    obtain ⟨f, hf, hx⟩ := List.mem_flatMap.1 hx
    obtain ⟨t, _, rfl⟩ := List.mem_map.1 hx
    exact ⟨f, hf, rfl⟩
  · rw [txt_singles]; exact rising_txt h f hf

theorem fits_ne {f : Fld} (h : fitsB f = true) : f.2 ≠ [] := fun e => by
  have := (fits_parts h).2.1
  rw [e] at this; simp at this

theorem may_nobare {fs : List Fld} (h : mayB fs = true) : fs.any bareB = false := by
  rw [List.any_eq_false]
  intro f hf hb
  exact fits_ne (may_fits h f hf) (List.isEmpty_iff.1 hb)

/-- Words, or none of the empty text. -/
def fieldsP (l : List UInt8) : Option (List Fld) := if l = [] then some [] else fieldsW (splitL l)
def codeP (l : List UInt8) : Int := match fieldsP l with
  | none => 4
  | some fs => codeF fs
def ansP (l : List UInt8) : List Fld := match fieldsP l with
  | none => []
  | some fs => ansF fs

theorem norm_singles {fs : List Fld} (h : mayB fs = true) : codeF (singles fs) = 0 ∧ ansF (singles fs) = fs := by
  have hn : normF (singles fs) = fs := groups_unique (normF_groups _) (groups_singles (may_rising h) fun f hf => fits_ne (may_fits h f hf))
  have hm : (singles fs).any misB = false := by
    rw [List.any_eq_false]
    intro x hx
    obtain ⟨f, hf, hx⟩ := List.mem_flatMap.1 hx
    obtain ⟨t, _, rfl⟩ := List.mem_map.1 hx
    have := (fits_parts (may_fits h f hf)).2.2.2.2
    simp [misB, this]
  have hc : codeF (singles fs) = 0 := by unfold codeF; rw [hm, hn, may_nobare h, h]; rfl
  exact ⟨hc, by unfold ansF; rw [hc, hn]; rfl⟩

theorem line_back {fs : List Fld} (h : mayB fs = true) : codeP (lineOf fs).data.toList = 0 ∧ ansP (lineOf fs).data.toList = fs := by
  have e0 : (lineOf fs).data.toList = Lib.join ((wordsL fs).map (·.data.toList)) [32] := by
    show (Lib.join ((wordsL fs).map (·.data.toList)) [32]).toArray.toList = _
    rw [List.toList_toArray]
  have hp : fieldsP (lineOf fs).data.toList = some (singles fs) := by
    unfold fieldsP
    by_cases hl : (lineOf fs).data.toList = []
    · rw [if_pos hl]
      have h0 : (lineOf fs).size = 0 := by
        have := congrArg List.length hl
        simpa using this
      have h1 := (line_empty fs).1 h0
      have h2 : fs = [] := by
        cases fs with
        | nil => rfl
        | cons f fs =>
          have := (fits_parts (may_fits h f (by simp))).2.1
          simp only [totF, List.map_cons, List.sum_cons] at h1
          omega
      subst h2
      rfl
    · rw [if_neg hl, e0, split_join]
      · exact words_back fs fun f hf => (fits_parts (may_fits h f hf)).2.2.2.2
      · intro e
        rw [e0, e] at hl
        exact hl rfl
      · intro w hw
        obtain ⟨x, hx, rfl⟩ := List.mem_map.1 hw
        obtain ⟨f, hf, hx⟩ := List.mem_flatMap.1 hx
        obtain ⟨t, _, rfl⟩ := List.mem_map.1 hx
        exact noblank_mem (word_noblank (fits_parts (may_fits h f hf)).2.2.2.2)
  unfold codeP ansP
  rw [hp]
  exact norm_singles h

theorem codeF_nil : codeF [] = 0 := by decide
theorem ansF_nil : ansF [] = [] := by decide

def PPost (w : World) (l : List UInt8) (e : Ending) (w' : World) : Prop :=
  (∃ u o, e = .returned (.tuple #[u, .int .i64 (codeP l)]) ∧ OwnXs w.heap.size w' u o ∧ o.map Fx.fld = ansP l) ∧ Below w.heap.size w w'

theorem ansP_fit {d : List Fx} {l : List UInt8} (hm : d.map Fx.fld = ansP l) : FitX d := by
  unfold ansP at hm
  cases h : fieldsP l with
  | none =>
    rw [h] at hm
    rw [List.map_eq_nil_iff] at hm
    subst hm
    exact ⟨by unfold maxLen; simp, fun x hx => by simp at hx⟩
  | some fs => rw [h] at hm; exact ans_fit hm

end Go.Proofs.YtelcongbnmfegaaGreatDoor

/-
  The contracts of the reference's Words, ParseWords and Parse.
-/
namespace Go.Proofs.YtelcongbnmfegaaGreatDoor
open Go.RowKit Go.Lib

def wordsAns (l : List UInt8) : List (List UInt8) := if l = [] then [] else splitL l

def WdPost (w : World) (l : List UInt8) (e : Ending) (w' : World) : Prop :=
  (∃ v ws, e = .returned v ∧ OwnT w.heap.size w' v ws ∧ ws.map (·.data.toList) = wordsAns l ∧ ws.length ≤ l.length + 1 ∧ ∀ x ∈ ws, x.size ≤ l.length) ∧ Below w.heap.size w w'

def WdSt (w : World) (s : ByteArray) (i f : Nat) (v : Value) (wr : World) : Prop :=
  ∃ ws : List ByteArray, OwnT w.heap.size wr v ws ∧ ws.length ≤ i ∧ (∀ x ∈ ws, x.size ≤ s.size) ∧ Below w.heap.size w wr ∧
    ((i ≤ s.size ∧ f ≤ i ∧ splitL s.data.toList = ws.map (·.data.toList) ++ splitL (s.data.toList.drop f) ∧ (32 : UInt8) ∉ (s.data.toList.drop f).take (i - f)) ∨ (i = s.size + 1 ∧ splitL s.data.toList = ws.map (·.data.toList)))

theorem ext_mid (s : ByteArray) (a b : Nat) : (s.extract a b).data.toList = (s.data.toList.drop a).take (b - a) := by
  rw [Lib.extract_data]

theorem mid_size (s : ByteArray) (a b : Nat) : (s.extract a b).size ≤ s.size := by
  simp; omega

theorem drop_mid {l : List UInt8} {f i : Nat} (hf : f ≤ i) : l.drop f = (l.drop f).take (i - f) ++ l.drop i := by
  have h : l.drop i = (l.drop f).drop (i - f) := by rw [List.drop_drop]; congr 1; omega
  rw [h, List.take_append_drop]

theorem split_at {l : List UInt8} {f i : Nat} (hf : f ≤ i) (hi : i < l.length) (hc : l[i] = 32) (hn : (32 : UInt8) ∉ (l.drop f).take (i - f)) : splitL (l.drop f) = (l.drop f).take (i - f) :: splitL (l.drop (i + 1)) := by
  have e : l.drop f = (l.drop f).take (i - f) ++ 32 :: l.drop (i + 1) := by
    conv => lhs; rw [drop_mid hf, List.drop_eq_getElem_cons hi, hc]
  have hx : Lib.indexByte (l.drop f) 32 = (((l.drop f).take (i - f)).length : Int) := by
    conv => lhs; rw [e]
    exact ix_here hn
  have hlen : ((l.drop f).take (i - f)).length = i - f := by rw [List.length_take, List.length_drop]; omega
  rw [hlen] at hx
  rw [splitL_yes hx, List.drop_drop]
  congr 3
  omega

theorem split_last {l : List UInt8} {f : Nat} (hn : (32 : UInt8) ∉ (l.drop f).take (l.length - f)) : splitL (l.drop f) = [l.drop f] := by
  rw [List.take_of_length_le (by rw [List.length_drop]; omega)] at hn
  exact splitL_no (ix_none hn)

theorem take_next {l : List UInt8} {f i : Nat} (hf : f ≤ i) (hi : i < l.length) (hc : l[i] ≠ 32) (hn : (32 : UInt8) ∉ (l.drop f).take (i - f)) : (32 : UInt8) ∉ (l.drop f).take (i + 1 - f) := by
  have hl : i - f < (l.drop f).length := by rw [List.length_drop]; omega
  rw [show i + 1 - f = (i - f) + 1 by omega, List.take_succ_eq_append_getElem hl, List.mem_append, List.mem_singleton, List.getElem_drop]
  rintro (h | h)
  · exact hn h
  · apply hc
    rw [h]
    congr 1
    omega

theorem txt_new (w : World) (t : ByteArray) : ∀ m u, ([.string t] : List Value)[m]? = some u → (w.alloc (.cells #[.string t] 9)).cell? ((⟨w.heap.size, 0, none⟩ : Addr).add m) = some u := by
  intro m u hm
  match m, hm with
  | 0, hm => simp at hm; subst hm; simp [Addr.add]

theorem txt_one (t : ByteArray) : ∀ u ∈ ([.string t] : List Value), u.oneCell' = true := by
  intro u hu; simp at hu; subst hu; rfl

theorem own_snoc {n0 : Nat} {w : World} {v : Value} {ts : List ByteArray} {t : ByteArray} (h : w.ownsRow n0 9 1 v (ts.length + 1) (ts.map Value.string ++ [.string t])) : OwnT n0 w v (ts ++ [t]) := by
  unfold OwnT
  simp only [List.length_append, List.length_cons, List.length_nil, List.map_append, List.map_cons, List.map_nil]
  exact h

set_option maxHeartbeats 4000000 in
set_option maxRecDepth 100000 in
theorem rwords_any (s : ByteArray) (w : World) (hs : s.size ≤ 1000000000000) :
    Calls Tryz.prog 46 #[.string s] w fun e w' => WdPost w s.data.toList e w' := by
  by_cases h0 : s.data.toList = []
  · have e : s = ⟨#[]⟩ := ba_eq h0
    subst e
    go_enter Tryz.func46, Tryz.ntmps46
    go_wp2_with fail
    go_ret
    exact ⟨⟨_, [], rfl, World.ownsRow_nil _ _ _ _, rfl, by simp, fun x hx => by simp at hx⟩, Below.refl _ _⟩
  obtain ⟨i0, hi0, hz0, hz1, hz2⟩ := info_parts Tryz.infoStr
  have HI := hid hi0
  have hne := nonempty_of (a := s) (fun e => h0 (List.length_eq_zero_iff.1 (by simpa using e)))
  have HAN : Hid (wordsAns s.data.toList = splitL s.data.toList) := by show _ = _; unfold wordsAns; rw [if_neg h0]
  have hlen : s.data.toList.length = s.size := by simp
  have HLEN := hid hlen
  clear hi0 h0 hlen
  go_enter Tryz.func46, Tryz.ntmps46
  go_wp2_with fail
  have ST0 : Hid (WdSt w s 0 0 (.slice none 0 0) w) := ⟨[], World.ownsRow_nil _ _ _ _, by simp, fun x hx => by simp at hx, Below.refl _ _, Or.inl ⟨by omega, by omega, by simp, by simp⟩⟩
  go_loopg [3, 4, 5] (s.size + 1) (fun g vl vf vi wr => ∃ i f : Nat, vi = .int .i64 i ∧ vf = .int .i64 f ∧ i ≤ s.size + 1 ∧ s.size + 1 - i ≤ g ∧ f ≤ s.size + 1 ∧ WdSt w s i f vl wr)
  case atStart => exact ⟨0, 0, rfl, rfl, by omega, by omega, by omega, ST0.out⟩
  case round =>
    clear ST0
    obtain ⟨i, f, rfl, rfl, hi, hgk, hf, ws, hot, hwl, hws, hb, hst⟩ := hrel
    have HOT := hid hot
    have HWS := hid hws
    have HB := hid hb
    have hsz := hb.size
    clear hot hws hb
    by_cases hlt : i ≤ s.size
    · obtain ⟨hfi, hsp, hno⟩ : f ≤ i ∧ splitL s.data.toList = ws.map (·.data.toList) ++ splitL (s.data.toList.drop f) ∧ (32 : UInt8) ∉ (s.data.toList.drop f).take (i - f) := by
        rcases hst with h | h
        · exact h.2
        · omega
      have HSP := hid hsp
      have HNO := hid hno
      have hlez : (i : Int) ≤ (s.size : Int) := by omega
      have hfz : (0 : Int) ≤ (f : Int) := by omega
      have hiz : (0 : Int) ≤ (i : Int) := by omega
      have hfiz : (f : Int) ≤ (i : Int) := by omega
      clear hst hsp hno
      by_cases he : i = s.size
      · have hez : ((i : Int) == (s.size : Int)) = true := beq_iff_eq.2 (by omega)
        have hl1 : splitL (s.data.toList.drop f) = [s.data.toList.drop f] := split_last (by rw [HLEN.out, ← he]; exact HNO.out)
        have hex : (s.extract f i).data.toList = s.data.toList.drop f := by
          rw [ext_mid, List.take_of_length_le (by rw [List.length_drop, HLEN.out]; omega)]
        have hxs := mid_size s f i
        have hnw : splitL s.data.toList = (ws ++ [s.extract f i]).map (·.data.toList) := by rw [HSP.out, hl1, List.map_append, List.map_cons, List.map_nil, hex]
        have HXS := hid hxs
        have HNW := hid hnw
        have HE := hid he
        clear he hl1 hex hxs hnw
        go_wp2_with (first | (at_builtin; refine wpList_append_own _ rfl _ _ 42 rfl w.heap.size 9 i0 (.string ⟨#[]⟩) 1 16 Tryz.underlying42 HI.out hz0 hz1 hz2 rfl (by decide) _ _ _ rfl (World.ownsRow.alloc HOT.out _) ⟨wr.heap.size, 0, none⟩ 1 1 [.string (s.extract f i)] rfl rfl (txt_new _ _) (txt_one _) (by unfold maxLen; omega) (by omega) (by simp; omega) ?_))
        intro v4 w4 hown4 hg4 _
        have HO4 := hid (own_snoc hown4)
        have HB4 : Hid (Below w.heap.size w w4) := (HB.out.alloc hsz _).grown hg4 (by simp; omega) (fun q hq => (World.ownsRow.lt HOT.out q hq).1)
        clear hown4 hg4
        go_wp2_with fail
        go_roundg (s.size + 1 - (i + 1))
        case measure => omega
        refine ⟨i + 1, i + 1, by go_num, by go_num, by omega, by omega, by omega, ws ++ [s.extract f i], HO4.out, by simp; omega, fun x hx => ?_, HB4.out, Or.inr ⟨by rw [HE.out], HNW.out⟩⟩
        rw [List.mem_append, List.mem_singleton] at hx
        rcases hx with hx | rfl
        · exact HWS.out x hx
        · exact HXS.out
      · have hez : ((i : Int) == (s.size : Int)) = false := beq_eq_false_iff_ne.2 (by omega)
        have hlt2 : i < s.size := by omega
        have hltz : (i : Int) < (s.size : Int) := by omega
        have hll : i < s.data.toList.length := by rw [HLEN.out]; exact hlt2
        have hby : s.data.toList[i] = s[i] := rfl
        obtain ⟨c, hc⟩ : ∃ c, s[i] = c := ⟨_, rfl⟩
        rw [hc] at hby
        have HBY := hid hby
        clear he hby
        by_cases h32 : c = 32
        · subst h32
          have hl1 := split_at hfi hll HBY.out HNO.out
          have hex : (s.extract f i).data.toList = (s.data.toList.drop f).take (i - f) := ext_mid _ _ _
          have hxs := mid_size s f i
          have hnw : splitL s.data.toList = (ws ++ [s.extract f i]).map (·.data.toList) ++ splitL (s.data.toList.drop (i + 1)) := by rw [HSP.out, hl1, List.map_append, List.map_cons, List.map_nil, hex]; simp
          have HXS := hid hxs
          have HNW := hid hnw
          clear hl1 hex hxs hnw
          go_wp2_with (first | (at_builtin; refine wpList_append_own _ rfl _ _ 42 rfl w.heap.size 9 i0 (.string ⟨#[]⟩) 1 16 Tryz.underlying42 HI.out hz0 hz1 hz2 rfl (by decide) _ _ _ rfl (World.ownsRow.alloc HOT.out _) ⟨wr.heap.size, 0, none⟩ 1 1 [.string (s.extract f i)] rfl rfl (txt_new _ _) (txt_one _) (by unfold maxLen; omega) (by omega) (by simp; omega) ?_))
          intro v4 w4 hown4 hg4 _
          have HO4 := hid (own_snoc hown4)
          have HB4 : Hid (Below w.heap.size w w4) := (HB.out.alloc hsz _).grown hg4 (by simp; omega) (fun q hq => (World.ownsRow.lt HOT.out q hq).1)
          clear hown4 hg4
          go_wp2_with fail
          go_roundg (s.size + 1 - (i + 1))
          case measure => omega
          refine ⟨i + 1, i + 1, by go_num, by go_num, by omega, by omega, by omega, ws ++ [s.extract f i], HO4.out, by simp; omega, fun x hx => ?_, HB4.out, Or.inl ⟨by omega, by omega, HNW.out, by simp⟩⟩
          rw [List.mem_append, List.mem_singleton] at hx
          rcases hx with hx | rfl
          · exact HWS.out x hx
          · exact HXS.out
        · have h32z : ((c.toNat : Int) == 32) = false := beq_eq_false_iff_ne.2 (fun e => h32 (UInt8.toNat_inj.1 (by show c.toNat = 32; omega)))
          have HN2 := hid (take_next hfi hll (by rw [HBY.out]; exact h32) HNO.out)
          clear h32
          go_wp2_with fail
          go_roundg (s.size + 1 - (i + 1))
          case measure => omega
          exact ⟨i + 1, f, by go_num, rfl, by omega, by omega, by omega, ws, HOT.out, by omega, HWS.out, HB.out, Or.inl ⟨by omega, by omega, HSP.out, HN2.out⟩⟩
    · have hlez : ¬ (i : Int) ≤ (s.size : Int) := by omega
      have hsp : splitL s.data.toList = ws.map (·.data.toList) := by
        rcases hst with h | h
        · omega
        · exact h.2
      have HSP := hid hsp
      clear hst hsp
      go_wp2_with fail
      go_ret
      refine ⟨⟨_, ws, rfl, HOT.out, by rw [HAN.out, HSP.out], by rw [HLEN.out]; omega, fun x hx => by rw [HLEN.out]; exact HWS.out x hx⟩, HB.out⟩

/-- What ParseWords answers. -/
def PwPost (w : World) (ls : List (List UInt8)) (e : Ending) (w' : World) : Prop :=
  ((fieldsW ls = none ∧ e = .returned (.tuple #[.slice none 0 0, .int .i64 4])) ∨
   ∃ fs, fieldsW ls = some fs ∧ ∃ u o, e = .returned (.tuple #[u, .int .i64 (codeF fs)]) ∧ OwnXs w.heap.size w' u o ∧ o.map Fx.fld = ansF fs) ∧ Below w.heap.size w w'

def PwSt (w : World) (ls : List (List UInt8)) (i : Nat) (v : Value) (wr : World) : Prop :=
  ∃ d fs, OwnXs w.heap.size wr v d ∧ d.map Fx.fld = fs ∧ fieldsW (ls.take i) = some fs ∧ d.length = i ∧ Below w.heap.size w wr

theorem fieldsW_no {a b : List (List UInt8)} {l : List UInt8} (h : wordO l = none) : fieldsW (a ++ l :: b) = none := by
  rw [fieldsW_append]
  cases fieldsW a with
  | none => rfl
  | some x => simp [fieldsW, h]

theorem fieldsW_snoc {a : List (List UInt8)} {l n t : List UInt8} {fs : List Fld} (ha : fieldsW a = some fs) (h : wordO l = some (n, t)) : fieldsW (a ++ [l]) = some (fs ++ [(⟨n.toArray⟩, [⟨t.toArray⟩])]) := by
  rw [fieldsW_append, ha]
  simp [fieldsW, h]

theorem fieldsP_words (l : List UInt8) : fieldsW (wordsAns l) = fieldsP l := by
  unfold wordsAns fieldsP
  split
  · rfl
  · rfl

theorem pw_plain {N : Nat} {l : List UInt8} {e : Ending} {w' : World} (h : (fieldsW (wordsAns l) = none ∧ e = .returned (.tuple #[.slice none 0 0, .int .i64 4])) ∨
   ∃ fs, fieldsW (wordsAns l) = some fs ∧ ∃ u o, e = .returned (.tuple #[u, .int .i64 (codeF fs)]) ∧ OwnXs N w' u o ∧ o.map Fx.fld = ansF fs) : ∃ u o, e = .returned (.tuple #[u, .int .i64 (codeP l)]) ∧ OwnXs N w' u o ∧ o.map Fx.fld = ansP l := by
  rw [fieldsP_words] at h
  unfold codeP ansP
  rcases h with ⟨h, rfl⟩ | ⟨fs, h, hr⟩
  · rw [h]
    exact ⟨_, [], rfl, own_none _ _, rfl⟩
  · rw [h]
    exact hr

end Go.Proofs.YtelcongbnmfegaaGreatDoor
