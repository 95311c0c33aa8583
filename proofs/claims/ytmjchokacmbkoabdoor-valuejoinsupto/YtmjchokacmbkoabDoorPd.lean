/-
  Texts of this claim, one behind the other: Grp Rname Rmay Rnm Rnn Sam Ncd.
-/
import Derived.Test.YtmjchokacmbkoabDoorPb
import Derived.Test.YtmjchokacmbkoabDoorPa
import Derived.Test.YtmjchokacmbkoabDoorPc
import Derived.Deep.CutRange
/-
  What joins of fields in order are: each name once, in order, with all its texts.
-/
namespace Go.Proofs.YtmjchokacmbkoabDoor
open Go.RowKit Go.Sort Go.Lib

/-- All texts of a name, one after the other. -/
def txtOf (fs : List Fld) (c : ByteArray) : List ByteArray := (fs.filter fun x => decide (x.1 = c)).flatMap (·.2)

def Rising (l : List Fld) : Prop := l.Pairwise fun x y => ltB x.1 y.1 = true

theorem txtOf_snoc (l : List Fld) (f : Fld) (c : ByteArray) : txtOf (l ++ [f]) c = txtOf l c ++ if f.1 = c then f.2 else [] := by
  unfold txtOf
  rw [List.filter_append, List.flatMap_append]
  by_cases e : f.1 = c
  · rw [if_pos e, List.filter_cons_of_pos (by simp [e])]; simp
  · rw [if_neg e, List.filter_cons_of_neg (by simp [e])]; simp

theorem txtOf_none {l : List Fld} {c : ByteArray} (h : ∀ f ∈ l, f.1 ≠ c) : txtOf l c = [] := by
  unfold txtOf
  rw [List.filter_eq_nil_iff.2 (fun x hx => by simpa using h x hx)]
  rfl

structure Groups (l o : List Fld) : Prop where
  rising : Rising o
  names : ∀ c, (∃ f ∈ o, f.1 = c) ↔ ∃ f ∈ l, f.1 = c
  texts : ∀ f ∈ o, f.2 = txtOf l f.1

theorem ltB_ne {a b : ByteArray} (h : ltB a b = true) : a ≠ b := by
  rintro rfl
  rw [ltB_irrefl] at h
  cases h

theorem ltB_lt_le {a b c : ByteArray} (h : ltB a b = true) (k : ltB c b = false) : ltB a c = true := by
  rcases ltB_cases b c with h1 | rfl | h1
  · exact ltB_trans h h1
  · exact h
  · rw [k] at h1; cases h1

theorem Groups.step {l o : List Fld} {f : Fld} (h : Groups l o) (hf : ∀ x ∈ l, ltB f.1 x.1 = false) : Groups (l ++ [f]) (joinStep o f) := by
  obtain ⟨h1, h2, h3⟩ := h
  have hfo : ∀ x ∈ o, ltB f.1 x.1 = false := fun x hx => by
    obtain ⟨y, hy, e⟩ := (h2 x.1).1 ⟨x, hx, rfl⟩
    rw [← e]; exact hf y hy
  rcases List.eq_nil_or_concat o with rfl | ⟨o', g, rfl⟩
  · have hl : l = [] := by
      cases l with
      | nil => rfl
      | cons y l =>
        obtain ⟨z, hz, _⟩ := (h2 y.1).2 ⟨y, by simp, rfl⟩
        simp at hz
    subst hl
    rw [joinStep_nil]
    refine ⟨List.pairwise_singleton _ _, fun c => by simp, fun x hx => ?_⟩
    rw [List.mem_singleton] at hx
    subst hx
    simp [txtOf]
  · rw [List.concat_eq_append] at *
    have hr := List.pairwise_append.1 h1
    have ho' : ∀ x ∈ o', ltB x.1 g.1 = true := fun x hx => hr.2.2 x hx g (by simp)
    have hgf := hfo g (by simp)
    by_cases e : g.1 = f.1
    · rw [joinStep_same _ _ _ e]
      refine ⟨?_, fun c => ?_, fun x hx => ?_⟩
      · refine List.pairwise_append.2 ⟨hr.1, List.pairwise_singleton _ _, fun a ha b hb => ?_⟩
        rw [List.mem_singleton] at hb
        subst hb
        exact ho' a ha
      · have := h2 c
        constructor
        · rintro ⟨x, hx, rfl⟩
          rw [List.mem_append, List.mem_singleton] at hx
          rcases hx with hx | rfl
          · obtain ⟨y, hy, ey⟩ := (h2 x.1).1 ⟨x, by simp [hx], rfl⟩
            exact ⟨y, by simp [hy], ey⟩
          · exact ⟨f, by simp, e.symm⟩
        · rintro ⟨y, hy, rfl⟩
          rw [List.mem_append, List.mem_singleton] at hy
          rcases hy with hy | rfl
          · obtain ⟨x, hx, ex⟩ := this.2 ⟨y, hy, rfl⟩
            rw [List.mem_append, List.mem_singleton] at hx
            rcases hx with hx | rfl
            · exact ⟨x, by simp [hx], ex⟩
            · exact ⟨_, List.mem_append_right _ (List.mem_singleton.2 rfl), ex⟩
          · exact ⟨_, List.mem_append_right _ (List.mem_singleton.2 rfl), e⟩
      · rw [List.mem_append, List.mem_singleton] at hx
        rcases hx with hx | rfl
        · rw [txtOf_snoc, if_neg (fun k => ltB_ne (ho' x hx) (k.symm.trans e.symm)), List.append_nil]
          exact h3 x (by simp [hx])
        · show g.2 ++ f.2 = txtOf (l ++ [f]) g.1
          rw [txtOf_snoc, if_pos e.symm, ← h3 g (by simp)]
    · rw [joinStep_other _ _ _ e]
      have hgf' : ltB g.1 f.1 = true := by
        rcases ltB_cases g.1 f.1 with k | k | k
        · exact k
        · exact absurd k e
        · rw [hgf] at k; cases k
      have hlt : ∀ x ∈ o' ++ [g], ltB x.1 f.1 = true := fun x hx => by
        rw [List.mem_append, List.mem_singleton] at hx
        rcases hx with hx | rfl
        · exact ltB_trans (ho' x hx) hgf'
        · exact hgf'
      refine ⟨?_, fun c => ?_, fun x hx => ?_⟩
      · refine List.pairwise_append.2 ⟨h1, List.pairwise_singleton _ _, fun a ha b hb => ?_⟩
        rw [List.mem_singleton] at hb
        subst hb
        exact hlt a ha
      · constructor
        · rintro ⟨x, hx, rfl⟩
          rw [List.mem_append, List.mem_singleton] at hx
          rcases hx with hx | rfl
          · obtain ⟨y, hy, ey⟩ := (h2 x.1).1 ⟨x, hx, rfl⟩
            exact ⟨y, List.mem_append_left _ hy, ey⟩
          · exact ⟨x, by simp, rfl⟩
        · rintro ⟨y, hy, rfl⟩
          rw [List.mem_append, List.mem_singleton] at hy
          rcases hy with hy | rfl
          · obtain ⟨x, hx, ex⟩ := (h2 y.1).2 ⟨y, hy, rfl⟩
            exact ⟨x, List.mem_append_left _ hx, ex⟩
          · exact ⟨y, by simp, rfl⟩
      · rw [List.mem_append, List.mem_singleton] at hx
        rcases hx with hx | rfl
        · rw [txtOf_snoc, if_neg (fun k => ltB_ne (hlt x hx) k.symm), List.append_nil]
          exact h3 x hx
        · rw [txtOf_snoc, if_pos rfl, txtOf_none, List.nil_append]
          intro y hy k
          obtain ⟨z, hz, ez⟩ := (h2 y.1).2 ⟨y, hy, rfl⟩
          exact ltB_ne (hlt z hz) (ez.trans k)

theorem joinS_groups (l : List Fld) (h : InOrder l) : Groups l (joinS l) := by
  have : ∀ k, k ≤ l.length → Groups (l.take k) (joinS (l.take k)) := by
    intro k
    induction k with
    | zero => intro _; exact ⟨List.Pairwise.nil, fun c => by simp [joinS], fun f hf => by simp [joinS] at hf⟩
    | succ k ih =>
      intro hk
      rw [List.take_succ_eq_append_getElem hk, joinS_snoc]
      refine (ih (by omega)).step fun x hx => ?_
      have h1 : InOrder (l.take (k + 1)) := h.sublist (List.take_sublist _ _)
      rw [List.take_succ_eq_append_getElem hk] at h1
      exact (List.pairwise_append.1 h1).2.2 x hx _ (by simp)
  have := this l.length (Nat.le_refl _)
  rwa [List.take_length] at this

theorem normF_groups (fs : List Fld) : Groups fs (normF fs) := by
  obtain ⟨h1, h2⟩ := sortS_spec fs
  obtain ⟨g1, g2, g3⟩ := joinS_groups _ h1
  have hm : ∀ c, (∃ f ∈ sortS fs, f.1 = c) ↔ ∃ f ∈ fs, f.1 = c := fun c => by
    have e := h2 c
    constructor
    · rintro ⟨f, hf, rfl⟩
      have : f ∈ fs.filter (fun x => decide (x.1 = f.1)) := by rw [← e]; exact List.mem_filter.2 ⟨hf, by simp⟩
      exact ⟨f, (List.mem_filter.1 this).1, rfl⟩
    · rintro ⟨f, hf, rfl⟩
      have : f ∈ (sortS fs).filter (fun x => decide (x.1 = f.1)) := by rw [e]; exact List.mem_filter.2 ⟨hf, by simp⟩
      exact ⟨f, (List.mem_filter.1 this).1, rfl⟩
  refine ⟨g1, fun c => (g2 c).trans (hm c), fun f hf => ?_⟩
  rw [g3 f hf]
  unfold txtOf
  rw [h2]

/-- Groups are one. -/
theorem groups_unique {l o p : List Fld} (h : Groups l o) (k : Groups l p) : o = p := by
  refine order_unique o p (h.rising.imp fun hxy => ltB_asymm hxy) (k.rising.imp fun hxy => ltB_asymm hxy) fun c => ?_
  have one : ∀ {q : List Fld}, Groups l q → q.filter (fun x => decide (x.1 = c)) = if ∃ f ∈ l, f.1 = c then [(c, txtOf l c)] else [] := by
    intro q hq
    split
    · rename_i hex
      obtain ⟨f, hf, rfl⟩ := (hq.names c).2 hex
      obtain ⟨a, b, rfl⟩ := List.append_of_mem hf
      have hr := List.pairwise_append.1 hq.rising
      have hr2 := List.pairwise_cons.1 hr.2.1
      have ha : a.filter (fun x => decide (x.1 = f.1)) = [] := List.filter_eq_nil_iff.2 fun x hx e => ltB_ne (hr.2.2 x hx f (by simp)) (by simpa using e)
      have hb : b.filter (fun x => decide (x.1 = f.1)) = [] := List.filter_eq_nil_iff.2 fun x hx e => ltB_ne (hr2.1 x hx) (Eq.symm (of_decide_eq_true e))
      rw [List.filter_append, ha, List.filter_cons_of_pos (by simp), hb, List.nil_append, ← hq.texts f (by simp)]
    · rename_i hex
      refine List.filter_eq_nil_iff.2 fun x hx e => hex ((hq.names c).1 ⟨x, hx, by simpa using e⟩)
  rw [one h, one k]

/-- The least name above the last one, of these; none: the empty one. -/
def scanStep (last nx : ByteArray) (f : Fld) : ByteArray := if ltB last f.1 && (decide (nx.size = 0) || ltB f.1 nx) then f.1 else nx
def scanN (last : ByteArray) (fs : List Fld) : ByteArray := fs.foldl (scanStep last) ⟨#[]⟩

theorem scanN_snoc (last : ByteArray) (l : List Fld) (f : Fld) : scanN last (l ++ [f]) = scanStep last (scanN last l) f := by simp [scanN]

theorem scan_spec (last : ByteArray) (fs : List Fld) (hne : ∀ f ∈ fs, f.1.size ≠ 0) :
    (scanN last fs = ⟨#[]⟩ ∧ ∀ f ∈ fs, ltB last f.1 = false) ∨ ((scanN last fs).size ≠ 0 ∧ (∃ f ∈ fs, f.1 = scanN last fs) ∧ ltB last (scanN last fs) = true ∧ ∀ g ∈ fs, ltB last g.1 = true → ltB g.1 (scanN last fs) = false) := by
  have : ∀ k, k ≤ fs.length → (scanN last (fs.take k) = ⟨#[]⟩ ∧ ∀ f ∈ fs.take k, ltB last f.1 = false) ∨ ((scanN last (fs.take k)).size ≠ 0 ∧ (∃ f ∈ fs.take k, f.1 = scanN last (fs.take k)) ∧ ltB last (scanN last (fs.take k)) = true ∧ ∀ g ∈ fs.take k, ltB last g.1 = true → ltB g.1 (scanN last (fs.take k)) = false) := by
    intro k
    induction k with
    | zero => intro _; left; exact ⟨rfl, fun f hf => by simp at hf⟩
    | succ k ih =>
      intro hk
      have ih := ih (by omega)
      rw [List.take_succ_eq_append_getElem hk, scanN_snoc]
      have hnf : (fs[k]).1.size ≠ 0 := hne _ (List.getElem_mem hk)
      generalize fs[k] = f at hnf ⊢
      generalize fs.take k = l at ih ⊢
      generalize scanN last l = r at ih ⊢
      unfold scanStep
      cases c1 : ltB last f.1 with
      | false =>
        rw [Bool.false_and, if_neg (by simp)]
        rcases ih with ⟨i1, i2⟩ | ⟨i1, ⟨x, hx, ex⟩, i3, i4⟩
        · left
          refine ⟨i1, fun x hx => ?_⟩
          rw [List.mem_append, List.mem_singleton] at hx
          rcases hx with hx | rfl
          · exact i2 x hx
          · exact c1
        · right
          refine ⟨i1, ⟨x, by simp [hx], ex⟩, i3, fun g hg hl => ?_⟩
          rw [List.mem_append, List.mem_singleton] at hg
          rcases hg with hg | rfl
          · exact i4 g hg hl
          · rw [c1] at hl; cases hl
      | true =>
        rcases ih with ⟨i1, i2⟩ | ⟨i1, ⟨x, hx, ex⟩, i3, i4⟩
        · have : decide (r.size = 0) = true := by rw [i1]; rfl
          rw [this, if_pos (by simp)]
          right
          refine ⟨hnf, ⟨f, by simp, rfl⟩, c1, fun g hg hl => ?_⟩
          rw [List.mem_append, List.mem_singleton] at hg
          rcases hg with hg | rfl
          · rw [i2 g hg] at hl; cases hl
          · exact ltB_irrefl _
        · rw [decide_eq_false i1, Bool.false_or, Bool.true_and]
          right
          cases c2 : ltB f.1 r with
          | true =>
            rw [if_pos rfl]
            refine ⟨hnf, ⟨f, by simp, rfl⟩, c1, fun g hg hl => ?_⟩
            rw [List.mem_append, List.mem_singleton] at hg
            rcases hg with hg | rfl
            · have := i4 g hg hl
              cases c3 : ltB g.1 f.1 with
              | false => rfl
              | true => rw [ltB_trans c3 c2] at this; cases this
            · exact ltB_irrefl _
          | false =>
            rw [if_neg (by simp)]
            refine ⟨i1, ⟨x, by simp [hx], ex⟩, i3, fun g hg hl => ?_⟩
            rw [List.mem_append, List.mem_singleton] at hg
            rcases hg with hg | rfl
            · exact i4 g hg hl
            · exact c2
  have h := this fs.length (Nat.le_refl _)
  rwa [List.take_length] at h

theorem ltB_nil {c : ByteArray} (h : c.size ≠ 0) : ltB ⟨#[]⟩ c = true := by
  rcases ltB_cases ⟨#[]⟩ c with k | k | k
  · exact k
  · rw [← k] at h; exact absurd rfl h
  · unfold ltB at k
    rw [decide_eq_true_iff] at k
    exfalso
    have e : (ByteArray.mk #[]).data.toList = [] := rfl
    rw [e] at k
    cases hc : c.data.toList with
    | nil => rw [hc] at k; simp [Lib.compareBytes] at k
    | cons x l => rw [hc] at k; simp [Lib.compareBytes] at k

/-- The name of the group behind the first k of them. -/
def lastOf (o : List Fld) (k : Nat) : ByteArray := if k = 0 then ⟨#[]⟩ else (o.getD (k - 1) default).1

theorem Rising.get {o : List Fld} (h : Rising o) {i j : Nat} (hij : i < j) (hj : j < o.length) : ltB (o[i]'(by omega)).1 (o[j]).1 = true := by
  exact List.pairwise_iff_getElem.1 h i j (by omega) hj hij

theorem scan_next {fs o : List Fld} (h : Groups fs o) (hne : ∀ f ∈ fs, f.1.size ≠ 0) (k : Nat) (hk : k ≤ o.length) : scanN (lastOf o k) fs = if hlt : k < o.length then (o[k]).1 else ⟨#[]⟩ := by
  have hno : ∀ f ∈ o, f.1.size ≠ 0 := fun f hf => by
    obtain ⟨g, hg, e⟩ := (h.names f.1).1 ⟨f, hf, rfl⟩
    rw [← e]; exact hne g hg
  have hge : ∀ j, (hj : j < o.length) → k ≤ j → ltB (lastOf o k) (o[j]).1 = true := fun j hj hkj => by
    unfold lastOf
    split
    · exact ltB_nil (hno _ (List.getElem_mem hj))
    · rw [List.getD_eq_getElem?_getD, List.getElem?_eq_getElem (show k - 1 < o.length by omega)]
      exact h.rising.get (by omega) hj
  have hlt : ∀ j, (hj : j < o.length) → j < k → ltB (lastOf o k) (o[j]).1 = false := fun j hj hkj => by
    unfold lastOf
    rw [if_neg (by omega), List.getD_eq_getElem?_getD, List.getElem?_eq_getElem (show k - 1 < o.length by omega)]
    show ltB (o[k - 1]).1 (o[j]).1 = false
    by_cases e : j = k - 1
    · subst e; exact ltB_irrefl _
    · exact ltB_asymm (h.rising.get (show j < k - 1 by omega) (by omega))
  rcases scan_spec (lastOf o k) fs hne with ⟨s1, s2⟩ | ⟨s1, ⟨x, hx, ex⟩, s3, s4⟩
  · rw [s1, dif_neg]
    intro hk'
    obtain ⟨y, hy, ey⟩ := (h.names (o[k]).1).1 ⟨_, List.getElem_mem hk', rfl⟩
    have h1 := s2 y hy
    rw [ey, hge k hk' (Nat.le_refl _)] at h1
    cases h1
  · obtain ⟨z, hz, ez⟩ := (h.names x.1).2 ⟨x, hx, rfl⟩
    obtain ⟨j, hj, rfl⟩ := List.mem_iff_getElem.1 hz
    have hjk : k ≤ j := by
      refine Nat.le_of_not_lt fun hjk => ?_
      have h1 := hlt j hj hjk
      rw [ez, ex, s3] at h1
      cases h1
    have hk' : k < o.length := by omega
    rw [dif_pos hk', ← ex, ← ez]
    have h2 : ¬ k < j := fun hkj => by
      obtain ⟨y, hy, ey⟩ := (h.names (o[k]).1).1 ⟨_, List.getElem_mem hk', rfl⟩
      have h1 := s4 y hy (by rw [ey]; exact hge k hk' (Nat.le_refl _))
      rw [ey, ← ex, ← ez, h.rising.get hkj hj] at h1
      cases h1
    obtain rfl : k = j := by omega
    rfl

theorem scan_size {fs o : List Fld} (h : Groups fs o) (hne : ∀ f ∈ fs, f.1.size ≠ 0) {k : Nat} (hk : k < o.length) : (o[k]).1.size ≠ 0 := by
  obtain ⟨g, hg, e⟩ := (h.names (o[k]).1).1 ⟨_, List.getElem_mem hk, rfl⟩
  rw [← e]; exact hne g hg

/-- A group's texts, nine of them at most. -/
def capF (f : Fld) : Fld := (f.1, f.2.take 9)

theorem cap_getD (o : List Fld) (i : Nat) : ((o.map capF).getD i default).1 = (o.getD i default).1 := by
  rw [List.getD_eq_getElem?_getD, List.getD_eq_getElem?_getD, List.getElem?_map]
  cases o[i]? with
  | none => rfl
  | some _ => rfl

theorem cap_id {f : Fld} (h : f.2.length ≤ 8) : capF f = f := by
  unfold capF
  rw [List.take_of_length_le (by omega)]

theorem cap_map {o : List Fld} (h : ∀ f ∈ o, f.2.length ≤ 8) : o.map capF = o := by
  induction o with
  | nil => rfl
  | cons f o ih => rw [List.map_cons, cap_id (h f (by simp)), ih (fun g hg => h g (by simp [hg]))]

theorem cap_may (o : List Fld) : mayB (o.map capF) = mayB o := by
  by_cases hs : ∀ f ∈ o, f.2.length ≤ 8
  · rw [cap_map hs]
  · have hno : ∃ f ∈ o, ¬ f.2.length ≤ 8 := by
      refine Classical.byContradiction fun hc => hs fun f hf => Classical.byContradiction fun hl => hc ⟨f, hf, hl⟩
    obtain ⟨f, hf, hl⟩ := hno
    have e1 : mayB o = false := by
      cases hm : mayB o with
      | false => rfl
      | true => have := (fits_parts (may_fits hm f hf)).2.2.1; omega
    have e2 : mayB (o.map capF) = false := by
      cases hm : mayB (o.map capF) with
      | false => rfl
      | true =>
        have := (fits_parts (may_fits hm (capF f) (List.mem_map.2 ⟨f, hf, rfl⟩))).2.2.1
        simp only [capF, List.length_take] at this
        omega
    rw [e1, e2]

/-- What the reference asks at its end. -/
theorem cap_end (o : List Fld) : (decide (16 < o.length) || !mayB ((o.take 17).map capF)) = !mayB o := by
  by_cases h : 16 < o.length
  · rw [decide_eq_true h, may_long h]; rfl
  · rw [decide_eq_false h, Bool.false_or, List.take_of_length_le (by omega), cap_may]

theorem cap_same {o : List Fld} (h : mayB o = true) : (o.take 17).map capF = o := by
  have := (may_parts h).1
  rw [List.take_of_length_le (by omega), cap_map fun f hf => (fits_parts (may_fits h f hf)).2.2.1]

end Go.Proofs.YtmjchokacmbkoabDoor

/-
  The contracts of the reference's class and Field.
-/
namespace Go.Proofs.YtmjchokacmbkoabDoor
open Go.RowKit

def cls (n : Int) : Int := if bigB n then 1 else if smallB n then 2 else if digB n then 3 else if n = 45 ∨ n = 46 then 4 else 0

theorem cls_cases (n : Int) :
    (cls n = 1 ∧ bigB n = true ∧ smallB n = false ∧ letB n = true ∧ lodB n = true ∧ idB n = true) ∨
    (cls n = 2 ∧ bigB n = false ∧ smallB n = true ∧ letB n = true ∧ lodB n = true ∧ idB n = true) ∨
    (cls n = 3 ∧ bigB n = false ∧ smallB n = false ∧ letB n = false ∧ lodB n = true ∧ idB n = true) ∨
    (cls n = 4 ∧ bigB n = false ∧ smallB n = false ∧ letB n = false ∧ lodB n = false ∧ idB n = true) ∨
    (cls n = 0 ∧ bigB n = false ∧ smallB n = false ∧ letB n = false ∧ lodB n = false ∧ idB n = false) := by
  cases h1 : bigB n
  · cases h2 : smallB n
    · cases h3 : digB n
      · by_cases h4 : n = 45 ∨ n = 46
        · right; right; right; left
          refine ⟨by simp [cls, h1, h2, h3, h4], rfl, rfl, by simp [letB, h1, h2], by simp [lodB, letB, h1, h2, h3], ?_⟩
          rcases h4 with rfl | rfl <;> decide
        · right; right; right; right
          have h45 : (n == 45) = false := beq_eq_false_iff_ne.2 fun e => h4 (.inl e)
          have h46 : (n == 46) = false := beq_eq_false_iff_ne.2 fun e => h4 (.inr e)
          exact ⟨by simp [cls, h1, h2, h3, h4], rfl, rfl, by simp [letB, h1, h2], by simp [lodB, letB, h1, h2, h3], by simp [idB, lodB, letB, h1, h2, h3, h45, h46]⟩
      · right; right; left
        exact ⟨by simp [cls, h1, h2, h3], rfl, rfl, by simp [letB, h1, h2], by simp [lodB, h3], by simp [idB, lodB, h3]⟩
    · right; left
      exact ⟨by simp [cls, h1, h2], rfl, rfl, by simp [letB, h2], by simp [lodB, letB, h2], by simp [idB, lodB, letB, h2]⟩
  · left
    have h2 : smallB n = false := by
      rw [bigB_true] at h1
      rw [Bool.eq_false_iff, Ne, smallB_true]; omega
    exact ⟨by simp [cls, h1], rfl, h2, by simp [letB, h1], by simp [lodB, letB, h1], by simp [idB, lodB, letB, h1]⟩

set_option maxHeartbeats 400000 in
theorem class_any (n : Int) (w : World) : Calls Tryd.prog 48 #[.int .u8 n] w fun e w' => e = .returned (.int .i64 (cls n)) ∧ w' = w := by
  go_enter Tryd.func48, Tryd.ntmps48
  go_wp2
  all_goals go_ret
  all_goals refine ⟨ret_int ?_, rfl⟩
  all_goals (simp_all [cls, bigB, smallB, digB]; try omega)

set_option maxHeartbeats 1000000 in
theorem rfield_any (s : ByteArray) (w : World) (hs : s.size ≤ maxLen) :
    Calls Tryd.prog 30 #[.string s] w fun e w' => e = .returned (.bool (fieldB s.data.toList)) ∧ w' = w := by
  unfold maxLen at hs
  have HE := hid (spell_empty smallB lodB s)
  have HG := hid (spell_long smallB lodB s)
  have HF := hid (spell_first smallB lodB s)
  have HA := hid (spell_at smallB lodB s)
  have HT := hid (spell_true smallB lodB s)
  have HB : Hid (fieldB s.data.toList = spell smallB lodB s.data.toList) := rfl
  go_enter Tryd.func30, Tryd.ntmps30
  go_wp2
  go_loop [3] (fun i => ∃ k : Nat, k ≤ s.size ∧ i = .int .i64 k ∧ (∀ j, j < k → (hj : j < s.size) → (j = 0 → smallB (s[j].toNat : Int) = true) ∧ (1 ≤ j → lodB (s[j].toNat : Int) = true))) (fun i => s.size - (intOf i).toNat)
  case atStart => exact ⟨0, by omega, rfl, fun j h => by omega⟩
  case round =>
    obtain ⟨k, hk, rfl, hall⟩ := hrel
    have HL := hid hall
    clear hall
    by_cases hlt : k < s.size
    · rcases Nat.eq_zero_or_pos k with h0 | h0
      · have HZ := hid h0
        have hz : ((k : Int) == 0) = true := by rw [h0]; rfl
        clear h0
        rcases cls_cases (s[k].toNat : Int) with h | h | h | h | h
        all_goals
          have HC := hid h
          clear h
          go_wp2_with (go_at_call 48; refine (class_any _ _).mono ?_; rintro e w' ⟨rfl, rfl⟩; rw [HC.out.1])
          first
          | (go_ret; exact ⟨ret_bool (by rw [HB.out]; have hz' := HZ.out; subst hz'; exact (HF.out hlt (by first | exact HC.out.2.1 | exact HC.out.2.2.1 | exact HC.out.2.2.2.2.1 | exact HC.out.2.2.2.2.2)).symm), rfl⟩)
          | (go_round
             case rel =>
               refine ⟨k + 1, by omega, by go_num, fun j h1 hj => ?_⟩
               have hz' := HZ.out
               have hj0 : j = k := by omega
               subst hj0
               exact ⟨fun _ => (by first | exact HC.out.2.1 | exact HC.out.2.2.1 | exact HC.out.2.2.2.2.1 | exact HC.out.2.2.2.2.2), fun _ => by omega⟩
             case measure => simp [intOf]; omega)
      · have HZ := hid h0
        have hz : ((k : Int) == 0) = false := by rw [beq_eq_false_iff_ne]; omega
        clear h0
        rcases cls_cases (s[k].toNat : Int) with h | h | h | h | h
        all_goals
          have HC := hid h
          clear h
          go_wp2_with (go_at_call 48; refine (class_any _ _).mono ?_; rintro e w' ⟨rfl, rfl⟩; rw [HC.out.1])
          first
          | (go_ret; exact ⟨ret_bool (by rw [HB.out]; exact (HA.out k HZ.out hlt (by first | exact HC.out.2.2.2.1 | exact HC.out.2.2.2.2.1 | exact HC.out.2.2.2.2.2)).symm), rfl⟩)
          | (go_round
             case rel =>
               refine ⟨k + 1, by omega, by go_num, fun j h1 hj => ?_⟩
               by_cases hjk : j = k
               · subst hjk
                 exact ⟨fun e => by have := HZ.out; omega, fun _ => (by first | exact HC.out.2.2.2.1 | exact HC.out.2.2.2.2.1 | exact HC.out.2.2.2.2.2)⟩
               · exact HL.out j (by omega) hj
             case measure => simp [intOf]; omega)
    · have hks : k = s.size := by omega
      rcases Nat.eq_zero_or_pos s.size with hz | hz
      · have hn : ¬ (0 : Int) < (s.size : Int) := by omega
        have HZ := hid hz
        clear hz hks
        go_wp2_with fail
        go_ret
        exact ⟨ret_bool (by rw [HB.out]; exact (HE.out HZ.out).symm), rfl⟩
      · have hn : (0 : Int) < (s.size : Int) := by omega
        by_cases hm : s.size ≤ 32
        · have hm' : (s.size : Int) ≤ 32 := by omega
          have HK := hid hks
          clear hks
          go_wp2_with fail
          go_ret
          refine ⟨ret_bool (by rw [HB.out]; exact (HT.out hz hm ((HL.out 0 (by have := HK.out; omega) hz).1 rfl) (fun j h1 hj => (HL.out j (by have := HK.out; omega) hj).2 h1)).symm), rfl⟩
        · have hm' : ¬ (s.size : Int) ≤ 32 := by omega
          clear hks
          go_wp2_with fail
          go_ret
          exact ⟨ret_bool (by rw [HB.out]; exact (HG.out (by omega)).symm), rfl⟩

end Go.Proofs.YtmjchokacmbkoabDoor

/-
  The contract of the reference's May.
-/
namespace Go.Proofs.YtmjchokacmbkoabDoor
open Go.RowKit

theorem step_of {fs : List Fld} {i : Nat} {f : Fld} (h : fs.getD i default = f) (h1 : fieldB f.1.data.toList = true) (h2 : 0 < f.2.length) (h3 : f.2.length ≤ 8) (h4 : ∀ t ∈ f.2, t.size ≤ 128) (h5 : i = 0 ∨ ltN (fs.getD (i - 1) default).1 f.1 = true) : stepOk fs i = true := by
  unfold stepOk fitsB
  rw [h, h1, decide_eq_true h3]
  have e1 : f.2.isEmpty = false := by
    cases hf : f.2 with
    | nil => rw [hf] at h2; simp at h2
    | cons _ _ => rfl
  have e2 : f.2.any longB = false := by
    rw [List.any_eq_false]
    intro t ht
    have := h4 t ht
    unfold longB
    simpa using this
  rw [e1, e2]
  rcases h5 with h5 | h5
  · rw [decide_eq_true h5]; rfl
  · rw [h5]; simp

theorem step_not {fs : List Fld} {i : Nat} {f : Fld} (h : fs.getD i default = f) (hn : fieldB f.1.data.toList = false ∨ f.2.length = 0 ∨ 8 < f.2.length ∨ (∃ t ∈ f.2, 128 < t.size) ∨ (i ≠ 0 ∧ ltN (fs.getD (i - 1) default).1 f.1 = false)) : stepOk fs i = false := by
  unfold stepOk fitsB
  rw [h]
  rcases hn with hn | hn | hn | ⟨t, ht, hn⟩ | ⟨hn, hm⟩
  · rw [hn]; rfl
  · rw [List.length_eq_zero_iff] at hn
    rw [hn]; simp
  · rw [decide_eq_false (by omega)]; simp
  · have : f.2.any longB = true := by
      rw [List.any_eq_true]
      exact ⟨t, ht, by unfold longB; simpa using hn⟩
    rw [this]; simp
  · rw [decide_eq_false hn, hm]; simp

set_option maxHeartbeats 1000000 in
set_option maxRecDepth 100000 in
theorem rmay_any (v : Value) (d : List Fx) (w : World) (hv : IsXs w v d) (hf : FitX d) : Calls Tryd.prog 31 #[v] w fun e w' => e = .returned (.bool (mayB (d.map Fx.fld))) ∧ Grown w w' := by
  obtain ⟨p, cap, rfl, hd, ht⟩ := hv
  have HT := hid ht
  have HF := hid hf.2
  have hl := hf.1
  unfold maxLen at hl
  have HD := hid hd
  clear ht hf hd
  obtain ⟨r, hr⟩ : ∃ r, mayB (d.map Fx.fld) = r := ⟨_, rfl⟩
  rw [hr]
  have HR := hid hr
  clear hr
  go_enter Tryd.func31, Tryd.ntmps31
  go_wp2_with fail
  go_loopg [3] d.length (fun g vi wr => ∃ i : Nat, vi = .int .i64 i ∧ i ≤ d.length ∧ i ≤ 16 ∧ d.length - i ≤ g ∧ Grown w wr ∧ Hid (∀ j, j < i → stepOk (d.map Fx.fld) j = true))
  case atStart => exact ⟨0, rfl, by omega, by omega, by omega, Grown.refl _, fun j h => by omega⟩
  case round =>
    obtain ⟨i, rfl, hi, hi16, hg, hb, HJ⟩ := hrel
    by_cases hlt : i < d.length
    · have hltz : (i : Int) < (d.length : Int) := by omega
      have hiz : (0 : Int) ≤ i := by omega
      obtain ⟨b, off, rfl, hxs⟩ : ∃ b off, p = some ⟨b, off, none⟩ ∧ XsAt w b off d := by
        rcases HD.out with h | h
        · subst h; simp at hlt
        · exact h
      have hxr := hxs.kept hb.below
      obtain ⟨c0, c1⟩ := hxr i hlt
      have hxi : (d[i]).at wr := (HT.out _ (List.getElem_mem hlt)).kept hb.below
      have hfi := HF.out _ (List.getElem_mem hlt)
      have hsx := flds_at hlt
      obtain ⟨x, hx⟩ : ∃ x, d[i] = x := ⟨_, rfl⟩
      rw [hx] at c0 c1 hxi hfi hsx
      have HXR := hid hxr
      have HXI := hid hxi
      have hns : x.name.size ≤ maxLen := hfi.1
      have htl : x.txt.length ≤ maxLen := hfi.2.1
      unfold maxLen at htl
      have HNS := hid hns
      have HFI := hid hfi
      have HSX := hid hsx
      clear hxr hxs hxi hfi hx hsx hns
      unfold Fx.sl at c1
      have mixed := Tryd.mixed
      have HFX : Hid (∀ W, Calls Tryd.prog 30 #[.string x.name] W fun e w' => e = .returned (.bool (fieldB x.name.data.toList)) ∧ w' = W) := fun W => rfield_any x.name W HNS.out
      by_cases h16 : i = 16
      · subst h16
        have H0 : Hid (r = false) := HR.out.symm.trans (may_long (by rw [List.length_map]; omega))
        go_wp2_with fail
        go_quiet (fail)
        go_wp2_with fail
        go_ret
        exact ⟨ret_bool H0.out.symm, (hb.alloc _).drewN _⟩
      have h16z : decide ((16 : Int) ≤ (i : Int)) = false := decide_eq_false (by omega)
      cases hfx : fieldB x.name.data.toList with
      | false =>
        rw [hfx] at HFX
        have H0 : Hid (r = false) := HR.out.symm.trans (may_no (i := i) (by rw [List.length_map]; exact hlt) (step_not HSX.out (Or.inl hfx)))
        go_wp2_with fail
        refine wp_region_quiet_lit mixed (by kernel_rfl) ?_
        repeat (go_big_quiet_step (first | (go_at_call 30; refine Calls.quiet_of_same (HFX.out _))))
        refine wpQuiet_nil ?_
        intro _ hw'
        obtain ⟨nq, hw''⟩ := hw'
        subst hw''
        go_wp2_with fail
        go_ret
        exact ⟨ret_bool H0.out.symm, (hb.alloc _).drewN _⟩
      | true =>
        rw [hfx] at HFX
        by_cases h0 : i = 0
        · have h0z : decide ((0 : Int) < (i : Int)) = false := decide_eq_false (by omega)
          have h0y : decide (0 < i) = false := decide_eq_false (by omega)
          have H00 := hid h0
          clear h0
          by_cases ht0 : x.txt.length = 0
          · have ht0z : (x.txt.length : Int) = 0 := by omega
            have H0 : Hid (r = false) := HR.out.symm.trans (may_no (i := i) (by rw [List.length_map]; exact hlt) (step_not HSX.out (Or.inr (Or.inl ht0))))
            go_wp2_with fail
            refine wp_region_quiet_lit mixed (by kernel_rfl) ?_
            repeat (go_big_quiet_step (first | (go_at_call 30; refine Calls.quiet_of_same (HFX.out _))))
            refine wpQuiet_nil ?_
            intro _ hw'
            obtain ⟨nq, hw''⟩ := hw'
            subst hw''
            go_wp2_with fail
            go_ret
            exact ⟨ret_bool H0.out.symm, (hb.alloc _).drewN _⟩
          have ht0z : ¬ (x.txt.length : Int) = 0 := by omega
          have ht0d : ((x.txt.length : Int) == 0) = false := beq_eq_false_iff_ne.2 ht0z
          by_cases ht8 : 8 < x.txt.length
          · have ht8z : (8 : Int) < (x.txt.length : Int) := by omega
            have H0 : Hid (r = false) := HR.out.symm.trans (may_no (i := i) (by rw [List.length_map]; exact hlt) (step_not HSX.out (Or.inr (Or.inr (Or.inl ht8)))))
            go_wp2_with fail
            refine wp_region_quiet_lit mixed (by kernel_rfl) ?_
            repeat (go_big_quiet_step (first | (go_at_call 30; refine Calls.quiet_of_same (HFX.out _))))
            refine wpQuiet_nil ?_
            intro _ hw'
            obtain ⟨nq, hw''⟩ := hw'
            subst hw''
            go_wp2_with fail
            go_ret
            exact ⟨ret_bool H0.out.symm, (hb.alloc _).drewN _⟩
          have ht8z : decide ((8 : Int) < (x.txt.length : Int)) = false := decide_eq_false (by omega)
          have HST : Hid ((∀ t ∈ x.txt, t.size ≤ 128) → stepOk (d.map Fx.fld) (i) = true) := fun h => step_of HSX.out hfx (by show 0 < x.txt.length; omega) (by show x.txt.length ≤ 8; omega) h (Or.inl H00.out)
          obtain ⟨bt, ot, hpt, hct0⟩ : ∃ bt ot, x.p = some ⟨bt, ot, none⟩ ∧ ∀ l, (h : l < x.txt.length) → wr.cell? ⟨bt, ot + l, none⟩ = some (.string x.txt[l]) := by
            rcases HXI.out with h | h
            · exact absurd (by rw [h]; rfl) ht0
            · exact h
          have HCT0 := hid hct0
          rw [hpt] at c1
          clear hpt hct0
          go_wp2_with fail
          refine wp_region_quiet_lit mixed (by kernel_rfl) ?_
          repeat (go_big_quiet_step (first | (go_at_call 30; refine Calls.quiet_of_same (HFX.out _))))
          refine wpQuiet_nil ?_
          intro _ hw'
          obtain ⟨nq, hw''⟩ := hw'
          subst hw''
          go_wp2_with fail
          obtain ⟨W2, hW2⟩ : ∃ W2, (wr.alloc (.cells #[.string x.name, .slice (some ⟨bt, ot, none⟩) x.txt.length x.cap] 30)).drewN nq = W2 := ⟨_, rfl⟩
          have hgW : Grown wr W2 := by rw [← hW2]; exact ((Grown.refl wr).alloc _).drewN _
          have q1 : W2.cell? ⟨wr.heap.size, 1, none⟩ = some (.slice (some ⟨bt, ot, none⟩) x.txt.length x.cap) := by rw [← hW2]; exact (x_new wr ⟨x.name, some ⟨bt, ot, none⟩, x.cap, x.txt⟩ (wr.alloc _) (Below.refl _ _)).2
          have hat : ∀ l, (h : l < x.txt.length) → W2.cell? ⟨bt, ot + l, none⟩ = some (.string x.txt[l]) := fun l h => (hgW.below.cell (p := ⟨bt, ot + l, none⟩) (cell_block (HCT0.out l h))).trans (HCT0.out l h)
          have HGW := hid hgW
          have HAT := hid hat
          rw [hW2]
          clear hgW hat hW2
          go_loopg [5] x.txt.length (fun g vj W => ∃ j : Nat, vj = .int .i64 j ∧ j ≤ x.txt.length ∧ x.txt.length - j ≤ g ∧ W = W2 ∧ Hid (∀ l (h : l < x.txt.length), l < j → (x.txt[l]).size ≤ 128))
          case atStart => exact ⟨0, rfl, by omega, by omega, rfl, fun l _ h => by omega⟩
          case round =>
            obtain ⟨j, rfl, hj, hgj, rfl, HL⟩ := hrel
            by_cases hjl : j < x.txt.length
            · have hjz : (j : Int) < (x.txt.length : Int) := by omega
              have hj0 : (0 : Int) ≤ (j : Int) := by omega
              have ctj := HAT.out j hjl
              obtain ⟨t, htt⟩ : ∃ t, x.txt[j] = t := ⟨_, rfl⟩
              have HTT := hid htt
              rw [htt] at ctj
              clear htt
              by_cases hts : 128 < t.size
              · have htsz : (128 : Int) < (t.size : Int) := by omega
                have H0 : Hid (r = false) := HR.out.symm.trans (may_no (i := i) (by rw [List.length_map]; exact hlt) (step_not HSX.out (Or.inr (Or.inr (Or.inr (Or.inl ⟨t, by rw [← HTT.out]; exact List.getElem_mem hjl, hts⟩))))))
                go_wp2_with fail
                go_ret
                exact ⟨ret_bool H0.out.symm, hb.trans HGW.out⟩
              · have htsz : ¬ (128 : Int) < (t.size : Int) := by omega
                go_wp2_with fail
                go_roundg (x.txt.length - (j + 1))
                case measure => omega
                refine ⟨j + 1, by go_num, by omega, by omega, rfl, fun l hl hlj => ?_⟩
                by_cases e : l = j
                · subst e; rw [HTT.out]; omega
                · exact HL.out l hl (by omega)
            · have hjz : ¬ (j : Int) < (x.txt.length : Int) := by omega
              have H1 := hid (HST.out fun t ht => by
                obtain ⟨l, hl, rfl⟩ := List.mem_iff_getElem.1 ht
                exact HL.out l hl (by omega))
              go_wp2_with fail
              go_roundg (d.length - (i + 1))
              case measure => omega
              refine ⟨i + 1, by go_num, by omega, by omega, by omega, hb.trans HGW.out, fun l hl => ?_⟩
              by_cases e : l = i
              · subst e; exact H1.out
              · exact HJ.out l (by omega)
        · obtain ⟨k, rfl⟩ : ∃ k, i = k + 1 := ⟨i - 1, by omega⟩
          obtain ⟨e0, _⟩ := HXR.out k (by omega)
          have hsy := flds_at (d := d) (i := k) (by omega)
          obtain ⟨y, hy⟩ : ∃ y, d[k] = y := ⟨_, rfl⟩
          rw [hy] at e0 hsy
          have HSY := hid hsy
          clear hy hsy
          have k1 : (0 : Int) < (k : Int) + 1 := by omega
          have hltk : (k : Int) + 1 < (d.length : Int) := by omega
          have h16y : decide ((16 : Int) ≤ (k : Int) + 1) = false := decide_eq_false (by omega)
          have k2 : (0 : Int) ≤ (k : Int) := by omega
          have k3 : (k : Int) < (d.length : Int) := by omega
          have e1 : ∀ o, (wr.alloc o).cell? ⟨b, off + k * 2, none⟩ = some (.string y.name) := fun o => by
            rw [← e0]; exact ((Below.refl wr.heap.size wr).alloc (Nat.le_refl _) _).cell (p := ⟨b, off + k * 2, none⟩) (cell_block e0)
          cases hlt2 : Op.bytesLess y.name.toList x.name.toList with
          | false =>
            have H0 : Hid (r = false) := HR.out.symm.trans (may_no (i := k + 1) (by rw [List.length_map]; exact hlt) (step_not HSX.out (Or.inr (Or.inr (Or.inr (Or.inr ⟨by omega, by rw [Nat.add_sub_cancel, HSY.out]; exact hlt2⟩))))))
            go_wp2_with fail
            refine wp_region_quiet_lit mixed (by kernel_rfl) ?_
            repeat (go_big_quiet_step (first | (go_at_call 30; refine Calls.quiet_of_same (HFX.out _))))
            refine wpQuiet_nil ?_
            intro _ hw'
            obtain ⟨nq, hw''⟩ := hw'
            subst hw''
            go_wp2_with fail
            go_ret
            exact ⟨ret_bool H0.out.symm, (hb.alloc _).drewN _⟩
          | true =>
            by_cases ht0 : x.txt.length = 0
            · have ht0z : (x.txt.length : Int) = 0 := by omega
              have H0 : Hid (r = false) := HR.out.symm.trans (may_no (i := k + 1) (by rw [List.length_map]; exact hlt) (step_not HSX.out (Or.inr (Or.inl ht0))))
              go_wp2_with fail
              refine wp_region_quiet_lit mixed (by kernel_rfl) ?_
              repeat (go_big_quiet_step (first | (go_at_call 30; refine Calls.quiet_of_same (HFX.out _))))
              refine wpQuiet_nil ?_
              intro _ hw'
              obtain ⟨nq, hw''⟩ := hw'
              subst hw''
              go_wp2_with fail
              go_ret
              exact ⟨ret_bool H0.out.symm, (hb.alloc _).drewN _⟩
            have ht0z : ¬ (x.txt.length : Int) = 0 := by omega
            have ht0d : ((x.txt.length : Int) == 0) = false := beq_eq_false_iff_ne.2 ht0z
            by_cases ht8 : 8 < x.txt.length
            · have ht8z : (8 : Int) < (x.txt.length : Int) := by omega
              have H0 : Hid (r = false) := HR.out.symm.trans (may_no (i := k + 1) (by rw [List.length_map]; exact hlt) (step_not HSX.out (Or.inr (Or.inr (Or.inl ht8)))))
              go_wp2_with fail
              refine wp_region_quiet_lit mixed (by kernel_rfl) ?_
              repeat (go_big_quiet_step (first | (go_at_call 30; refine Calls.quiet_of_same (HFX.out _))))
              refine wpQuiet_nil ?_
              intro _ hw'
              obtain ⟨nq, hw''⟩ := hw'
              subst hw''
              go_wp2_with fail
              go_ret
              exact ⟨ret_bool H0.out.symm, (hb.alloc _).drewN _⟩
            have ht8z : decide ((8 : Int) < (x.txt.length : Int)) = false := decide_eq_false (by omega)
            have HST : Hid ((∀ t ∈ x.txt, t.size ≤ 128) → stepOk (d.map Fx.fld) (k + 1) = true) := fun h => step_of HSX.out hfx (by show 0 < x.txt.length; omega) (by show x.txt.length ≤ 8; omega) h (Or.inr (by rw [Nat.add_sub_cancel, HSY.out]; exact hlt2))
            obtain ⟨bt, ot, hpt, hct0⟩ : ∃ bt ot, x.p = some ⟨bt, ot, none⟩ ∧ ∀ l, (h : l < x.txt.length) → wr.cell? ⟨bt, ot + l, none⟩ = some (.string x.txt[l]) := by
              rcases HXI.out with h | h
              · exact absurd (by rw [h]; rfl) ht0
              · exact h
            have HCT0 := hid hct0
            rw [hpt] at c1
            clear hpt hct0
            go_wp2_with fail
            refine wp_region_quiet_lit mixed (by kernel_rfl) ?_
            repeat (go_big_quiet_step (first | (go_at_call 30; refine Calls.quiet_of_same (HFX.out _))))
            refine wpQuiet_nil ?_
            intro _ hw'
            obtain ⟨nq, hw''⟩ := hw'
            subst hw''
            go_wp2_with fail
            obtain ⟨W2, hW2⟩ : ∃ W2, (wr.alloc (.cells #[.string x.name, .slice (some ⟨bt, ot, none⟩) x.txt.length x.cap] 30)).drewN nq = W2 := ⟨_, rfl⟩
            have hgW : Grown wr W2 := by rw [← hW2]; exact ((Grown.refl wr).alloc _).drewN _
            have q1 : W2.cell? ⟨wr.heap.size, 1, none⟩ = some (.slice (some ⟨bt, ot, none⟩) x.txt.length x.cap) := by rw [← hW2]; exact (x_new wr ⟨x.name, some ⟨bt, ot, none⟩, x.cap, x.txt⟩ (wr.alloc _) (Below.refl _ _)).2
            have hat : ∀ l, (h : l < x.txt.length) → W2.cell? ⟨bt, ot + l, none⟩ = some (.string x.txt[l]) := fun l h => (hgW.below.cell (p := ⟨bt, ot + l, none⟩) (cell_block (HCT0.out l h))).trans (HCT0.out l h)
            have HGW := hid hgW
            have HAT := hid hat
            rw [hW2]
            clear hgW hat hW2
            go_loopg [5] x.txt.length (fun g vj W => ∃ j : Nat, vj = .int .i64 j ∧ j ≤ x.txt.length ∧ x.txt.length - j ≤ g ∧ W = W2 ∧ Hid (∀ l (h : l < x.txt.length), l < j → (x.txt[l]).size ≤ 128))
            case atStart => exact ⟨0, rfl, by omega, by omega, rfl, fun l _ h => by omega⟩
            case round =>
              obtain ⟨j, rfl, hj, hgj, rfl, HL⟩ := hrel
              by_cases hjl : j < x.txt.length
              · have hjz : (j : Int) < (x.txt.length : Int) := by omega
                have hj0 : (0 : Int) ≤ (j : Int) := by omega
                have ctj := HAT.out j hjl
                obtain ⟨t, htt⟩ : ∃ t, x.txt[j] = t := ⟨_, rfl⟩
                have HTT := hid htt
                rw [htt] at ctj
                clear htt
                by_cases hts : 128 < t.size
                · have htsz : (128 : Int) < (t.size : Int) := by omega
                  have H0 : Hid (r = false) := HR.out.symm.trans (may_no (i := k + 1) (by rw [List.length_map]; exact hlt) (step_not HSX.out (Or.inr (Or.inr (Or.inr (Or.inl ⟨t, by rw [← HTT.out]; exact List.getElem_mem hjl, hts⟩))))))
                  go_wp2_with fail
                  go_ret
                  exact ⟨ret_bool H0.out.symm, hb.trans HGW.out⟩
                · have htsz : ¬ (128 : Int) < (t.size : Int) := by omega
                  go_wp2_with fail
                  go_roundg (x.txt.length - (j + 1))
                  case measure => omega
                  refine ⟨j + 1, by go_num, by omega, by omega, rfl, fun l hl hlj => ?_⟩
                  by_cases e : l = j
                  · subst e; rw [HTT.out]; omega
                  · exact HL.out l hl (by omega)
              · have hjz : ¬ (j : Int) < (x.txt.length : Int) := by omega
                have H1 := hid (HST.out fun t ht => by
                  obtain ⟨l, hl, rfl⟩ := List.mem_iff_getElem.1 ht
                  exact HL.out l hl (by omega))
                go_wp2_with fail
                go_roundg (d.length - (k + 1 + 1))
                case measure => omega
                refine ⟨k + 1 + 1, by go_num, by omega, by omega, by omega, hb.trans HGW.out, fun l hl => ?_⟩
                by_cases e : l = k + 1
                · subst e; exact H1.out
                · exact HJ.out l (by omega)
    · have hltz : ¬ (i : Int) < (d.length : Int) := by omega
      have H0 : Hid (r = true) := HR.out.symm.trans (may_yes (by rw [List.length_map]; omega) (fun j hj => HJ.out j (by rw [List.length_map] at hj; omega)))
      go_wp2_with fail
      go_ret
      exact ⟨ret_bool H0.out.symm, hb⟩

end Go.Proofs.YtmjchokacmbkoabDoor

/-
  The contract of the reference's Norm.
-/
namespace Go.Proofs.YtmjchokacmbkoabDoor
open Go.RowKit Go.Lib

def RnSt (w : World) (G : List Fld) (k : Nat) (v : Value) (wr : World) : Prop :=
  ∃ dr, OwnXs w.heap.size wr v dr ∧ dr.map Fx.fld = (G.take (min k 17)).map capF ∧ Below w.heap.size w wr

def RnAns (N : Nat) (fs : List Fld) (e : Ending) (w' : World) : Prop :=
  (fs.any misB = true ∧ e = .returned (.tuple #[.slice none 0 0, .int .i64 2])) ∨
    (fs.any misB = false ∧
     (((normF fs).any bareB = true ∧ e = .returned (.tuple #[.slice none 0 0, .int .i64 3])) ∨
      ((normF fs).any bareB = false ∧ mayB (normF fs) = false ∧ e = .returned (.tuple #[.slice none 0 0, .int .i64 5])) ∨
      ((normF fs).any bareB = false ∧ mayB (normF fs) = true ∧ ∃ u o, e = .returned (.tuple #[u, .int .i64 0]) ∧ OwnXs N w' u o ∧ o.map Fx.fld = normF fs)))
def RnPost (w : World) (fs : List Fld) (e : Ending) (w' : World) : Prop := RnAns w.heap.size fs e w' ∧ Below w.heap.size w w'

theorem mem_txtOf {fs : List Fld} {c t : ByteArray} (h : t ∈ txtOf fs c) : ∃ f ∈ fs, t ∈ f.2 := by
  unfold txtOf at h
  obtain ⟨f, hf, ht⟩ := List.mem_flatMap.1 h
  exact ⟨f, (List.mem_filter.1 hf).1, ht⟩

theorem txtOf_len (fs : List Fld) (c : ByteArray) : (txtOf fs c).length ≤ totF fs := by
  unfold txtOf totF
  induction fs with
  | nil => simp
  | cons f fs ih =>
    rw [List.map_cons, List.sum_cons]
    by_cases e : f.1 = c
    · rw [List.filter_cons_of_pos (by simp [e]), List.flatMap_cons, List.length_append]; omega
    · rw [List.filter_cons_of_neg (by simp [e])]; omega

theorem totF_take (fs : List Fld) (i : Nat) : totF (fs.take i) ≤ totF fs := by
  conv => rhs; rw [← List.take_append_drop i fs, totF_append]
  omega

theorem txtOf_step {d : List Fx} {i : Nat} (h : i < d.length) (c : ByteArray) : txtOf ((d.map Fx.fld).take (i + 1)) c = txtOf ((d.map Fx.fld).take i) c ++ if (d[i]).name = c then (d[i]).txt else [] := by
  rw [List.take_succ_eq_append_getElem (by simpa using h), txtOf_snoc]
  simp [Fx.fld]

theorem scanN_step {d : List Fx} {i : Nat} (h : i < d.length) (last : ByteArray) : scanN last ((d.map Fx.fld).take (i + 1)) =
    if ltB last (d[i]).name && (decide ((scanN last ((d.map Fx.fld).take i)).size = 0) || ltB (d[i]).name (scanN last ((d.map Fx.fld).take i))) then (d[i]).name else scanN last ((d.map Fx.fld).take i) := by
  rw [List.take_succ_eq_append_getElem (by simpa using h), scanN_snoc]
  simp [scanStep, Fx.fld]

theorem mis_all {d : List Fx} (h : ∀ j, (h : j < d.length) → fieldB (d[j]).name.data.toList = true) : (d.map Fx.fld).any misB = false := by
  rw [List.any_eq_false]
  intro f hf
  obtain ⟨x, hx, rfl⟩ := List.mem_map.1 hf
  obtain ⟨j, hj, rfl⟩ := List.mem_iff_getElem.1 hx
  have := h j hj
  simp [misB, Fx.fld, this]

theorem field_ne {l : ByteArray} (h : fieldB l.data.toList = true) : l.size ≠ 0 := by
  intro e
  have : l.data.toList = [] := List.length_eq_zero_iff.1 (by simpa using e)
  rw [this] at h
  revert h
  decide

theorem take9_more {T a b : List ByteArray} (h : 9 ≤ (T ++ a).length) : (T ++ (a ++ b)).take 9 = (T ++ a).take 9 := by
  rw [← List.append_assoc, List.take_append_of_le_length h]

theorem any_snoc {G : List Fld} {k : Nat} (h : k < G.length) : (G.take (k + 1)).any bareB = ((G.take k).any bareB || bareB G[k]) := by
  rw [List.take_succ_eq_append_getElem h, List.any_append]
  simp

theorem cap_snoc {G : List Fld} {k : Nat} (h : k < G.length) (hk : k < 17) : (G.take (min (k + 1) 17)).map capF = (G.take (min k 17)).map capF ++ [capF G[k]] := by
  rw [Nat.min_eq_left (by omega), Nat.min_eq_left (by omega), List.take_succ_eq_append_getElem h, List.map_append]
  rfl

theorem lastOf_succ {G : List Fld} {k : Nat} (h : k < G.length) : lastOf G (k + 1) = (G[k]).1 := by
  unfold lastOf
  rw [if_neg (by omega), Nat.add_sub_cancel, List.getD_eq_getElem?_getD, List.getElem?_eq_getElem h]
  rfl

/-- What the reference holds at its end is small. -/
theorem rn_fit {d dr : List Fx} {k : Nat} (hf : FitX d) (h : dr.map Fx.fld = ((normF (d.map Fx.fld)).take (min k 17)).map capF) : FitX dr := by
  have hg := normF_groups (d.map Fx.fld)
  have hl : dr.length ≤ 17 := by
    have := congrArg List.length h
    rw [List.length_map, List.length_map, List.length_take] at this
    omega
  refine ⟨by unfold maxLen; omega, fun x hx => ?_⟩
  have hm : x.fld ∈ ((normF (d.map Fx.fld)).take (min k 17)).map capF := by rw [← h]; exact List.mem_map.2 ⟨x, hx, rfl⟩
  obtain ⟨g, hgm, e⟩ := List.mem_map.1 hm
  have hgm := List.mem_of_mem_take hgm
  have e1 : x.name = g.1 := (congrArg Prod.fst e).symm
  have e2 : x.txt = g.2.take 9 := (congrArg Prod.snd e).symm
  obtain ⟨f, hfm, ef⟩ := (hg.names g.1).1 ⟨g, hgm, rfl⟩
  obtain ⟨y, hy, rfl⟩ := List.mem_map.1 hfm
  refine ⟨?_, ?_, fun t ht => ?_⟩
  · show x.name.size ≤ maxLen
    rw [e1, ← ef]; exact (hf.2 y hy).1
  · show x.txt.length ≤ maxLen
    rw [e2, List.length_take]; unfold maxLen; omega
  · have ht : t ∈ x.txt := ht
    rw [e2] at ht
    have ht := List.mem_of_mem_take ht
    rw [hg.texts g hgm] at ht
    obtain ⟨f', hf', ht'⟩ := mem_txtOf ht
    obtain ⟨z, hz, rfl⟩ := List.mem_map.1 hf'
    exact (hf.2 z hz).2.2 t ht'

end Go.Proofs.YtmjchokacmbkoabDoor

/-
  The contract of the reference's Norm: the walk.
-/
namespace Go.Proofs.YtmjchokacmbkoabDoor
open Go.RowKit Go.Lib

theorem less_of {a b : ByteArray} {c : Bool} (h : ltB a b = c) : Op.bytesLess a.toList b.toList = c := by
  rw [← h, ← ltN_eq]; rfl

theorem eq_false {a b : ByteArray} (h : a ≠ b) : (a.toList == b.toList) = false := by
  rw [Lib.toList_data, Lib.toList_data, beq_eq_false_iff_ne]
  exact fun e => h (ba_eq e)
theorem eq_true {a b : ByteArray} (h : a = b) : (a.toList == b.toList) = true := by rw [h]; simp

theorem empty_of {a : ByteArray} (h : a.size = 0) : a.toList.isEmpty = true := by
  rw [Lib.toList_data]
  have : a.data.toList = [] := List.length_eq_zero_iff.1 (by simpa using h)
  rw [this]; rfl
theorem nonempty_of {a : ByteArray} (h : a.size ≠ 0) : a.toList.isEmpty = false := by
  rw [Lib.toList_data]
  cases e : a.data.toList with
  | nil => exact absurd (by simpa using congrArg List.length e) h
  | cons _ _ => rfl

set_option maxHeartbeats 8000000 in
set_option maxRecDepth 100000 in
theorem rnorm_any (v : Value) (d : List Fx) (w : World) (hv : IsXs w v d) (hf : FitX d) (hl : d.length * 40 ≤ 140737488355328) (htot : totF (d.map Fx.fld) * 16 ≤ 140737488355328) :
    Calls Tryd.prog 13 #[v] w fun e w' => RnPost w (d.map Fx.fld) e w' := by
  obtain ⟨i0, hi0, hz0, hz1, hz2⟩ := info_parts Tryd.infoStr
  obtain ⟨j0, hj0, hy0, hy1, hy2⟩ := info_parts Tryd.infoFld
  have HI := hid hi0
  have HJ := hid hj0
  obtain ⟨p, cap, rfl, hd, ht⟩ := hv
  have HD := hid hd
  have HT := hid ht
  have HF := hid hf
  have hll : d.length ≤ 3600000000000 := by omega
  have HTOT := hid htot
  clear hi0 hj0 hd ht hf htot hl
  go_enter Tryd.func13, Tryd.ntmps13
  go_wp2_with fail
  go_loopg [4] d.length (fun g vi wr => ∃ i : Nat, vi = .int .i64 i ∧ i ≤ d.length ∧ d.length - i ≤ g ∧ w = wr ∧ Hid (∀ j, (h : j < d.length) → j < i → fieldB (d[j]).name.data.toList = true))
  case atStart => exact ⟨0, rfl, by omega, by omega, rfl, fun j _ h => by omega⟩
  case round =>
  obtain ⟨i, rfl, hi, hgk, rfl, HOK⟩ := hrel
  by_cases hlt : i < d.length
  · have hltz : (i : Int) < (d.length : Int) := by omega
    have hiz : (0 : Int) ≤ i := by omega
    obtain ⟨b, off, rfl, hxs⟩ : ∃ b off, p = some ⟨b, off, none⟩ ∧ XsAt w b off d := by
      rcases HD.out with h | h
      · subst h; simp at hlt
      · exact h
    have c0 := (hxs i hlt).1
    have HFX : Hid (∀ W, Calls Tryd.prog 30 #[.string (d[i]).name] W fun e w' => e = .returned (.bool (fieldB (d[i]).name.data.toList)) ∧ w' = W) := fun W => rfield_any _ W (HF.out.2 _ (List.getElem_mem hlt)).1
    have HM : Hid (fieldB (d[i]).name.data.toList = false → (d.map Fx.fld).any misB = true) := fun h => by
      rw [List.any_eq_true]
      exact ⟨(d[i]).fld, List.mem_map.2 ⟨_, List.getElem_mem hlt, rfl⟩, by simp [misB, Fx.fld, h]⟩
    have HS : Hid (fieldB (d[i]).name.data.toList = true → ∀ j, (h : j < d.length) → j < i + 1 → fieldB (d[j]).name.data.toList = true) := fun h j hj h2 => by
      by_cases e : j = i
      · subst e; exact h
      · exact HOK.out j hj (by omega)
    generalize (d[i]).name = nm at c0 HFX HM HS
    clear hxs HOK
    cases hfx : fieldB nm.data.toList with
    | false =>
      rw [hfx] at HFX
      have H0 := hid (HM.out hfx)
      clear hfx HM HS
      go_wp2_with (first | (go_at_call 30; refine (HFX.out _).mono ?_; rintro e w1 ⟨rfl, rfl⟩))
      go_ret2
      exact ⟨Or.inl ⟨H0.out, rfl⟩, Below.refl _ _⟩
    | true =>
      rw [hfx] at HFX
      have H0 := hid (HS.out hfx)
      clear hfx HM HS
      go_wp2_with (first | (go_at_call 30; refine (HFX.out _).mono ?_; rintro e w1 ⟨rfl, rfl⟩))
      go_roundg (d.length - (i + 1))
      case measure => omega
      case rel => exact ⟨i + 1, by go_num, by omega, by omega, rfl, H0⟩
  have hltz : ¬ (i : Int) < (d.length : Int) := by omega
  have HMIS := hid (mis_all fun j hj => HOK.out j hj (by omega))
  have hne : ∀ f ∈ d.map Fx.fld, f.1.size ≠ 0 := fun f hf => by
    obtain ⟨x, hx, rfl⟩ := List.mem_map.1 hf
    obtain ⟨j, hj, rfl⟩ := List.mem_iff_getElem.1 hx
    exact field_ne (HOK.out j hj (by omega))
  have hgr := normF_groups (d.map Fx.fld)
  obtain ⟨G, hG⟩ : ∃ G, normF (d.map Fx.fld) = G := ⟨_, rfl⟩
  rw [hG] at hgr
  have HGR := hid hgr
  have HNE := hid hne
  have HGE := hid hG
  clear hgr hne hG HOK hgk hi hlt
  have ST0 : Hid (RnSt w G 0 (.slice none 0 0) w) := ⟨[], ⟨World.ownsRow_nil _ _ _ _, fun x hx => by simp at hx⟩, by simp, Below.refl _ _⟩
  go_wp2_with fail
  go_loopg [5, 6, 7, 8] G.length (fun g v5 v6 v7 v8 ws => ∃ k : Nat, k ≤ G.length ∧ G.length - k ≤ g ∧ v6 = .bool ((G.take k).any bareB) ∧ v7 = .bool (decide (16 < k)) ∧ v8 = .string (lastOf G k) ∧ RnSt w G k v5 ws)
  case atStart => exact ⟨0, by omega, by omega, by simp, rfl, rfl, ST0.out⟩
  case round =>
  clear ST0
  obtain ⟨k, hk, hgk, rfl, rfl, rfl, dr, hox, hdm, hbw⟩ := hrel
  have HSN := hid (scan_next HGR.out HNE.out k hk)
  have hkeep : ∀ j, (h : j < d.length) → ∃ b off, p = some ⟨b, off, none⟩ ∧ (∀ W, Below w.heap.size w W → W.cell? ⟨b, off + j * 2, none⟩ = some (.string (d[j]).name) ∧ W.cell? ⟨b, off + j * 2 + 1, none⟩ = some (.slice (d[j]).p (d[j]).txt.length (d[j]).cap)) := fun j hj => by
    rcases HD.out with h | ⟨b, off, rfl, hxs⟩
    · subst h; simp at hj
    · exact ⟨b, off, rfl, fun W hW => hxs.kept hW j hj⟩
  have HKP := hid hkeep
  have HOX := hid hox
  have HDM := hid hdm
  have HBW := hid hbw
  have hszw := hbw.size
  clear hox hdm hbw hkeep
  obtain ⟨B6, hB6⟩ : ∃ B, (G.take k).any bareB = B := ⟨_, rfl⟩
  obtain ⟨last, hlast⟩ : ∃ l, lastOf G k = l := ⟨_, rfl⟩
  rw [hB6, hlast]
  rw [hlast] at HSN
  have HB6 := hid hB6
  clear hB6 hlast
  go_wp2_with fail
  go_loopg [9, 10] d.length (fun g vn vi ws => ∃ i : Nat, vi = .int .i64 i ∧ i ≤ d.length ∧ d.length - i ≤ g ∧ vn = .string (scanN last ((d.map Fx.fld).take i)) ∧ wr = ws)
  case atStart => exact ⟨0, rfl, by omega, by omega, by simp [scanN], rfl⟩
  case round =>
  obtain ⟨i, rfl, hi, hgi, rfl, rfl⟩ := hrel
  by_cases hlt : i < d.length
  · have hltz : (i : Int) < (d.length : Int) := by omega
    have hiz : (0 : Int) ≤ i := by omega
    obtain ⟨b, off, rfl, hc⟩ := HKP.out i hlt
    have c0 := (hc _ HBW.out).1
    have HST := hid (scanN_step hlt last)
    generalize scanN last ((d.map Fx.fld).take i) = nx at HST ⊢
    generalize (d[i]).name = nm at c0 HST
    clear hc
    cases h1 : ltB last nm with
    | false =>
      rw [h1] at HST
      simp only [Bool.false_and, Bool.false_eq_true, if_false] at HST
      rcases ltB_cases nm last with h2 | h2 | h2
      · have f1 := less_of h2
        clear h1 h2
        go_wp2_with fail
        go_roundg (d.length - (i + 1))
        case measure => omega
        case rel => exact ⟨i + 1, by go_num, by omega, by omega, by rw [HST.out], rfl⟩
      · have f1 := eq_true h2
        have f0 : Op.bytesLess nm.toList last.toList = false := less_of (by rw [h2]; exact ltB_irrefl _)
        clear h1 h2
        go_wp2_with fail
        go_roundg (d.length - (i + 1))
        case measure => omega
        case rel => exact ⟨i + 1, by go_num, by omega, by omega, by rw [HST.out], rfl⟩
      · rw [h1] at h2; cases h2
    | true =>
      have f0 := less_of (ltB_asymm h1)
      have f1 := eq_false (Ne.symm (ltB_ne h1))
      rw [h1] at HST
      simp only [Bool.true_and] at HST
      clear h1
      by_cases h2 : nx.size = 0
      · have f2 := empty_of h2
        rw [decide_eq_true h2] at HST
        simp only [Bool.true_or, if_true] at HST
        clear h2
        go_wp2_with fail
        go_roundg (d.length - (i + 1))
        case measure => omega
        case rel => exact ⟨i + 1, by go_num, by omega, by omega, by rw [HST.out], rfl⟩
      · have f2 := nonempty_of h2
        rw [decide_eq_false h2] at HST
        simp only [Bool.false_or] at HST
        clear h2
        cases h3 : ltB nm nx with
        | true =>
          have f3 := less_of h3
          rw [h3, if_pos rfl] at HST
          clear h3
          go_wp2_with fail
          go_roundg (d.length - (i + 1))
          case measure => omega
          case rel => exact ⟨i + 1, by go_num, by omega, by omega, by rw [HST.out], rfl⟩
        | false =>
          have f3 := less_of h3
          rw [h3, if_neg Bool.false_ne_true] at HST
          clear h3
          go_wp2_with fail
          go_roundg (d.length - (i + 1))
          case measure => omega
          case rel => exact ⟨i + 1, by go_num, by omega, by omega, by rw [HST.out], rfl⟩
  have hltz2 : ¬ (i : Int) < (d.length : Int) := by omega
  rw [List.take_of_length_le (show (d.map Fx.fld).length ≤ i by simp; omega)]
  rw [HSN.out]
  clear hlt hi hgi HSN
  by_cases hkl : k < G.length
  · rw [dif_pos hkl]
    have hsz0 := scan_size HGR.out HNE.out hkl
    have hgt := HGR.out.texts _ (List.getElem_mem hkl)
    have HAN := hid (any_snoc hkl)
    have HCS := hid (fun h => cap_snoc hkl h)
    have HLS := hid (lastOf_succ hkl)
    obtain ⟨⟨nm, gt⟩, hgk2⟩ : ∃ g, G[k] = g := ⟨_, rfl⟩
    rw [hgk2] at hsz0 hgt HAN HCS HLS
    rw [hgk2]
    have hnz := nonempty_of hsz0
    have HGT : Hid (gt = txtOf (d.map Fx.fld) nm) := hgt
    clear hsz0 hgt hgk2
    show Code.wp _ _ _ _ _
    simp only
    obtain ⟨W0, rfl⟩ : ∃ W0, W0 = wr := ⟨_, rfl⟩
    obtain ⟨N0, hN0⟩ : ∃ n, W0.heap.size = n := ⟨_, rfl⟩
    have HN0 := hid hN0
    have IN0 : Hid (OwnT N0 W0 (.slice none 0 0) [] ∧ Below N0 W0 W0) := ⟨World.ownsRow_nil _ _ _ _, Below.refl _ _⟩
    have KPW : Hid (∀ W, Below N0 W0 W → Below w.heap.size w W ∧ N0 ≤ W.heap.size) := fun W h => by
      rw [← hN0] at h ⊢
      exact ⟨HBW.out.trans (h.mono hszw), h.size⟩
    clear hN0
    go_wp2_with fail
    go_loopg [11, 12, 13] d.length (fun g vl vn vi ws => ∃ (i n : Nat) (ts : List ByteArray), vi = .int .i64 i ∧ vn = .int .i64 n ∧ i ≤ d.length ∧ d.length - i ≤ g ∧ Hid (OwnT N0 ws vl ts) ∧ Hid (ts = (txtOf ((d.map Fx.fld).take i) nm).take 9) ∧ Hid (n = (txtOf ((d.map Fx.fld).take i) nm).length) ∧ Hid (Below N0 W0 ws))
    case atStart => exact ⟨0, 0, [], rfl, rfl, by omega, by omega, IN0.out.1, (show Hid _ from by simp [Hid, txtOf]), (show Hid _ from by simp [Hid, txtOf]), IN0.out.2⟩
    case round =>
    clear IN0
    obtain ⟨i, n, ts, rfl, rfl, hi, hgi, HOT, HTS, HN, HBS⟩ := hrel
    have hnn : n ≤ 9000000000000 := by
      have h1 := HN.out
      have h2 := txtOf_len ((d.map Fx.fld).take i) nm
      have h3 := totF_take (d.map Fx.fld) i
      have h4 := HTOT.out
      omega
    by_cases hlt : i < d.length
    · have hltz : (i : Int) < (d.length : Int) := by omega
      have hiz : (0 : Int) ≤ i := by omega
      obtain ⟨hbw, hN0w⟩ := KPW.out _ HBS.out
      obtain ⟨b, off, rfl, hc⟩ := HKP.out i hlt
      obtain ⟨c0, c1⟩ := hc _ hbw
      have HKC := hid hc
      have HTX := hid (txtOf_step hlt nm)
      have hxt := (HT.out _ (List.getElem_mem hlt)).kept hbw
      have hxl : (d[i]).txt.length ≤ 9000000000000 := by
        have h1 := totF_mem (List.mem_map.2 ⟨_, List.getElem_mem hlt, rfl⟩ : (d[i]).fld ∈ d.map Fx.fld)
        have h4 := HTOT.out
        have : (d[i]).fld.2.length = (d[i]).txt.length := rfl
        omega
      have HXT0 := hid (HT.out _ (List.getElem_mem hlt))
      obtain ⟨x, hx⟩ : ∃ x, d[i] = x := ⟨_, rfl⟩
      rw [hx] at c0 c1 HTX hxt hxl HKC HXT0
      obtain ⟨xn, xp, xc, xt⟩ := x
      simp only at c0 c1 HTX hxl HKC
      have HXT := hid hxt
      clear hc hx hxt hbw
      by_cases hnm : xn = nm
      · have hq := eq_true hnm
        rw [if_pos hnm] at HTX
        have HN2 : Hid (n + xt.length = (txtOf ((d.map Fx.fld).take (i + 1)) nm).length) := by show _ = _; rw [HTX.out, List.length_append, ← HN.out]
        obtain ⟨T0, hT0⟩ : ∃ T, txtOf ((d.map Fx.fld).take i) nm = T := ⟨_, rfl⟩
        rw [hT0] at HTX HTS
        clear hnm hT0 HN
        by_cases hx0 : xt.length = 0
        · have hx00 : xt = [] := List.length_eq_zero_iff.1 hx0
          subst hx00
          rw [List.append_nil] at HTX
          have HT2 : Hid (ts = (txtOf ((d.map Fx.fld).take (i + 1)) nm).take 9) := by show _ = _; rw [HTX.out]; exact HTS.out
          clear hx0 HXT HXT0
          go_wp2_with fail
          refine wp_loop_rounds 1 ?_
          rw [rounds_succ]
          go_wp2_with fail
          go_roundg (d.length - (i + 1))
          case measure => omega
          case rel => exact ⟨i + 1, n, ts, by go_num, by first | rfl | go_num, by omega, by omega, HOT, HT2, HN2, HBS⟩
        · obtain ⟨bt, ot, hpt, hct⟩ : ∃ b off, xp = some ⟨b, off, none⟩ ∧ ∀ i, (h : i < xt.length) → w.cell? ⟨b, off + i, none⟩ = some (.string xt[i]) := by
            rcases HXT0.out with h | h
            · exact absurd (by rw [show xt = [] from h]; rfl) hx0
            · exact h
          subst hpt
          have HCT : Hid (∀ W, Below w.heap.size w W → ∀ i, (h : i < xt.length) → W.cell? ⟨bt, ot + i, none⟩ = some (.string xt[i])) := fun W hW i h => (hW.cell (p := ⟨bt, ot + i, none⟩) (cell_block (hct i h))).trans (hct i h)
          have HBS0 := HBS
          have HOT0 := HOT
          clear HXT HXT0 hct
          go_wp2_with fail
          go_loopg [11, 14] xt.length (fun g vl vj wt => ∃ (j : Nat) (us : List ByteArray), vj = .int .i64 j ∧ j ≤ xt.length ∧ xt.length - j ≤ g ∧ Hid (OwnT N0 wt vl us) ∧ Hid (us = (T0 ++ xt.take j).take 9) ∧ Hid (Below N0 W0 wt))
          case atStart => exact ⟨0, ts, rfl, by omega, by omega, HOT0, (show Hid _ from by show _ = _; rw [List.take_zero, List.append_nil]; exact HTS.out), HBS0⟩
          case round =>
          clear HOT0 HBS0 HOT HTS HBS c0 c1 hN0w
          obtain ⟨j, us, rfl, hj, hgj, HOU, HUS, HBU⟩ := hrel
          obtain ⟨hbw, hN0w⟩ := KPW.out _ HBU.out
          have c1 := (HKC.out _ hbw).2
          obtain ⟨pu, cu, rfl⟩ := own_slice HOU.out
          have hu9 : us.length ≤ 9 := by
            have := congrArg List.length HUS.out
            rw [List.length_take] at this
            omega
          by_cases hjl : j < xt.length
          · have hjz : (j : Int) < (xt.length : Int) := by omega
            have hjd : decide ((j : Int) < (xt.length : Int)) = true := decide_eq_true hjz
            have hj0 : (0 : Int) ≤ (j : Int) := by omega
            by_cases h9 : us.length < 9
            · have h9z : (us.length : Int) < 9 := by omega
              have h9d : decide ((us.length : Int) < 9) = true := decide_eq_true h9z
              have ct := HCT.out _ hbw j hjl
              have hus : us ++ [xt[j]] = (T0 ++ xt.take (j + 1)).take 9 := by
                have h1 := HUS.out
                have h2 : (T0 ++ xt.take j).length < 9 := by
                  have := congrArg List.length h1
                  rw [List.length_take] at this
                  omega
                rw [List.take_of_length_le (by omega)] at h1
                rw [List.take_succ_eq_append_getElem hjl, ← List.append_assoc, ← h1, List.take_of_length_le (by rw [List.length_append, List.length_singleton]; omega)]
              obtain ⟨t, htt⟩ : ∃ t, xt[j] = t := ⟨_, rfl⟩
              rw [htt] at ct hus
              have HUN := hid hus
              clear htt hus HUS hbw
              go_wp2_with (first | (at_builtin; refine wpList_append_own _ rfl _ _ 28 rfl N0 9 i0 (.string ⟨#[]⟩) 1 16 Tryd.underlying28 HI.out hz0 hz1 hz2 rfl (by decide) _ _ _ rfl (World.ownsRow.alloc HOU.out _) ⟨wr.heap.size, 0, none⟩ 1 1 [.string t] rfl rfl ?c1 ?c2 ?c3 ?c4 ?c5 ?_))
              case c1 =>
                intro m u hm
                match m, hm with
                | 0, hm => simp at hm; subst hm; simp [Addr.add]
              case c2 => intro u hu; simp at hu; subst hu; rfl
              case c3 => unfold maxLen; omega
              case c4 => omega
              case c5 => simp; omega
              intro v4 w4 hown4 hg4 _
              have HO4 : Hid (OwnT N0 w4 v4 (us ++ [t])) := by
                show OwnT N0 w4 v4 (us ++ [t])
                unfold OwnT
                simp only [List.length_append, List.length_cons, List.length_nil, List.map_append, List.map_cons, List.map_nil]
                exact hown4
              have HB4 : Hid (Below N0 W0 w4) := (HBU.out.alloc hN0w _).grown hg4 (by simp; omega) (fun q hq => (World.ownsRow.lt HOU.out q hq).1)
              clear hown4 hg4
              go_wp2_with fail
              go_roundg (xt.length - (j + 1))
              case measure => omega
              case rel => exact ⟨j + 1, us ++ [t], by go_num, by omega, by omega, HO4, HUN, HB4⟩
            · have h9z : ¬ (us.length : Int) < 9 := by omega
              have h9d : decide ((us.length : Int) < 9) = false := decide_eq_false h9z
              have HU2 : Hid (us = (txtOf ((d.map Fx.fld).take (i + 1)) nm).take 9) := by
                show _ = _
                rw [HTX.out]
                conv => rhs; rw [← List.take_append_drop j xt]
                rw [take9_more]
                · exact HUS.out
                · have := congrArg List.length HUS.out
                  rw [List.length_take] at this
                  omega
              clear HUS hbw
              go_wp2_with fail
              go_roundg (d.length - (i + 1))
              case measure => omega
              case rel => exact ⟨i + 1, n + xt.length, us, by go_num, by first | rfl | go_num, by omega, by omega, HOU, HU2, HN2, HBU⟩
          · have hjz : ¬ (j : Int) < (xt.length : Int) := by omega
            have hjd : decide ((j : Int) < (xt.length : Int)) = false := decide_eq_false hjz
            have HU2 : Hid (us = (txtOf ((d.map Fx.fld).take (i + 1)) nm).take 9) := by
              show _ = _
              rw [HTX.out, HUS.out, List.take_of_length_le (show xt.length ≤ j by omega)]
            clear HUS hbw
            go_wp2_with fail
            go_roundg (d.length - (i + 1))
            case measure => omega
            case rel => exact ⟨i + 1, n + xt.length, us, by go_num, by first | rfl | go_num, by omega, by omega, HOU, HU2, HN2, HBU⟩
      · have hq := eq_false hnm
        rw [if_neg hnm, List.append_nil] at HTX
        rw [← HTX.out] at HTS HN
        clear hnm HTX HXT HXT0
        go_wp2_with fail
        go_roundg (d.length - (i + 1))
        case measure => omega
        case rel => exact ⟨i + 1, n, ts, by go_num, rfl, by omega, by omega, HOT, HTS, HN, HBS⟩
    have hltz : ¬ (i : Int) < (d.length : Int) := by omega
    rw [List.take_of_length_le (show (d.map Fx.fld).length ≤ i by simp; omega), ← HGT.out] at HTS HN
    obtain ⟨hbw, hN0w⟩ := KPW.out _ HBS.out
    have HXS : Hid (OwnXs w.heap.size wr u5 dr) := HOX.out.on (by rw [HN0.out]; exact HBS.out)
    obtain ⟨pl, cl, rfl⟩ := own_slice HOT.out
    obtain ⟨pr, cr, rfl, _⟩ := HXS.out.is
    have hdl1 : dr.length ≤ k := by
      have := congrArg List.length HDM.out
      rw [List.length_map, List.length_map, List.length_take] at this
      omega
    have hdl2 : dr.length ≤ 17 := by
      have := congrArg List.length HDM.out
      rw [List.length_map, List.length_map, List.length_take] at this
      omega
    have hdl3 : k ≤ dr.length ∨ 17 ≤ dr.length := by
      have := congrArg List.length HDM.out
      rw [List.length_map, List.length_map, List.length_take] at this
      omega
    have hwN : w.heap.size ≤ N0 := by rw [← HN0.out]; exact hszw
    have HBX := hid hbw
    have hszx := hbw.size
    clear hlt hi hgi hbw hltz2
    go_upto_region 27 with fail
    go_cut [6] from 108 to 112 (fun vb wx => wr = wx ∧ vb = .bool ((G.take (k + 1)).any bareB))
    case first =>
      cases B6 with
      | true =>
        go_wp2_with fail
        go_meet
        case rel => exact ⟨rfl, by rw [HAN.out, HB6.out]; rfl⟩
      | false =>
        by_cases hn0 : n = 0
        · have hnz2 : ((n : Int) == 0) = true := beq_iff_eq.2 (by omega)
          have HG0 : Hid (gt.isEmpty = true) := by
            show _ = _
            have := HN.out
            rw [hn0] at this
            rw [List.length_eq_zero_iff.1 this.symm]; rfl
          clear hn0
          go_wp2_with fail
          go_meet
          case rel => exact ⟨rfl, by rw [HAN.out, HB6.out]; simp only [bareB]; rw [HG0.out]; rfl⟩
        · have hnz2 : ((n : Int) == 0) = false := beq_eq_false_iff_ne.2 (by omega)
          have HG0 : Hid (gt.isEmpty = false) := by
            show _ = _
            have := HN.out
            cases hg : gt with
            | nil => rw [hg] at this; exact absurd this hn0
            | cons _ _ => rfl
          clear hn0
          go_wp2_with fail
          go_meet
          case rel => exact ⟨rfl, by rw [HAN.out, HB6.out]; simp only [bareB]; rw [HG0.out]; rfl⟩
    case rest =>
    obtain ⟨rfl, rfl⟩ := hcut
    obtain ⟨B7, hB7⟩ : ∃ B, (G.take (k + 1)).any bareB = B := ⟨_, rfl⟩
    rw [hB7]
    have HB7 := hid hB7
    clear hB7
    have HX9 : Hid (∀ v5 w5, w5.ownsRow w.heap.size 30 2 v5 (dr.length + 1) (cellsX dr ++ cellsX [⟨nm, pl, cl, ts⟩]) → (wr.alloc (.cells #[.string nm, .slice pl ts.length cl] 30)).grownBy w5 (Value.slice pr dr.length cr).ownBlock → k < 17 → RnSt w G (k + 1) v5 w5) := fun v5 w5 hown5 hg5 hk17 => by
      have hal : Below wr.heap.size wr (wr.alloc (.cells #[.string nm, .slice pl ts.length cl] 30)) := (Below.refl _ _).alloc (Nat.le_refl _) _
      have hox5 := (HXS.out.on hal).put (x := ⟨nm, pl, cl, ts⟩) (own_weak (OwnT.on HOT.out hal) hwN) hown5 hg5
      refine ⟨_, hox5, ?_, (HBX.out.alloc hszx _).grown hg5 (by simp; omega) (fun q hq => (World.ownsRow.lt HXS.out.1 q hq).1)⟩
      rw [HCS.out hk17, List.map_append, HDM.out]
      simp only [List.map_cons, List.map_nil, Fx.fld, capF]
      rw [HTS.out]
    by_cases hk16 : k < 16
    · have g1 : decide (16 < k) = false := decide_eq_false (by omega)
      have g2 : ((dr.length : Int) == 16) = false := beq_eq_false_iff_ne.2 (by omega)
      have g3 : (dr.length : Int) < 17 := by omega
      have g4 : decide (16 < k + 1) = false := decide_eq_false (by omega)
      go_wp2_with (first | (at_builtin; refine wpList_append_own _ rfl _ _ 22 rfl w.heap.size 30 j0 (.agg #[.string ⟨#[]⟩, .slice none 0 0]) 2 40 Tryd.underlying22 HJ.out hy0 hy1 hy2 rfl (by decide) _ _ _ rfl (World.ownsRow.alloc HXS.out.1 _) ⟨wr.heap.size, 0, none⟩ 1 1 (cellsX [⟨nm, pl, cl, ts⟩]) rfl rfl (news_x wr ⟨nm, pl, cl, ts⟩) (cellsX_one _) ?c3 ?c4 ?c5 ?_))
      case c3 => unfold maxLen; omega
      case c4 => omega
      case c5 => first | omega | (simp; omega)
      intro v5 w5 hown5 hg5 _
      have HST := hid (HX9.out v5 w5 hown5 hg5 (by omega))
      clear hown5 hg5
      go_wp2_with fail
      go_roundg (G.length - (k + 1))
      case measure => omega
      case rel => exact ⟨k + 1, by omega, by omega, by rw [HB7.out], by rw [g4], by rw [HLS.out], HST.out⟩
    · by_cases hk17 : k = 16
      · have g1 : decide (16 < k) = false := decide_eq_false (by omega)
        have g2 : ((dr.length : Int) == 16) = true := beq_iff_eq.2 (by omega)
        have g3 : (dr.length : Int) < 17 := by omega
        have g4 : decide (16 < k + 1) = true := decide_eq_true (by omega)
        clear hk16
        have hk17' : k < 17 := by omega
        clear hk17
        go_wp2_with (first | (at_builtin; refine wpList_append_own _ rfl _ _ 22 rfl w.heap.size 30 j0 (.agg #[.string ⟨#[]⟩, .slice none 0 0]) 2 40 Tryd.underlying22 HJ.out hy0 hy1 hy2 rfl (by decide) _ _ _ rfl (World.ownsRow.alloc HXS.out.1 _) ⟨wr.heap.size, 0, none⟩ 1 1 (cellsX [⟨nm, pl, cl, ts⟩]) rfl rfl (news_x wr ⟨nm, pl, cl, ts⟩) (cellsX_one _) ?c3 ?c4 ?c5 ?_))
        case c3 => unfold maxLen; omega
        case c4 => omega
        case c5 => first | omega | (simp; omega)
        intro v5 w5 hown5 hg5 _
        have HST := hid (HX9.out v5 w5 hown5 hg5 hk17')
        clear hown5 hg5
        go_wp2_with fail
        go_roundg (G.length - (k + 1))
        case measure => omega
        case rel => exact ⟨k + 1, by omega, by omega, by rw [HB7.out], by rw [g4], by rw [HLS.out], HST.out⟩
      · have g1 : decide (16 < k) = true := decide_eq_true (by omega)
        have g3 : ¬ (dr.length : Int) < 17 := by omega
        have g4 : decide (16 < k + 1) = true := decide_eq_true (by omega)
        have HST : Hid (RnSt w G (k + 1) (.slice pr dr.length cr) wr) := ⟨dr, HXS.out, by rw [HDM.out, Nat.min_eq_right (show 17 ≤ k by omega), Nat.min_eq_right (show 17 ≤ k + 1 by omega)], HBX.out⟩
        go_wp2_with fail
        go_roundg (G.length - (k + 1))
        case measure => omega
        case rel => exact ⟨k + 1, by omega, by omega, by rw [HB7.out], by rw [g4], by rw [HLS.out], HST.out⟩
  · rw [dif_neg hkl]
    obtain rfl : k = G.length := by omega
    rw [List.take_length] at HB6
    have hmm : mayB (dr.map Fx.fld) = mayB G ∨ 16 < G.length := by
      by_cases h : 16 < G.length
      · exact Or.inr h
      · left
        rw [HDM.out, Nat.min_eq_left (by omega), List.take_length, cap_may]
    have HMM := hid hmm
    have hfit := rn_fit HF.out (by rw [HGE.out]; exact HDM.out)
    have HMY := hid (rmay_any u5 dr wr HOX.out.is hfit)
    clear hmm hfit
    cases B6 with
    | true =>
      go_wp2_with fail
      go_ret2
      exact ⟨Or.inr ⟨HMIS.out, Or.inl ⟨by rw [HGE.out]; exact HB6.out, rfl⟩⟩, HBW.out⟩
    | false =>
      by_cases h16 : 16 < G.length
      · have g1 : decide (16 < G.length) = true := decide_eq_true h16
        go_wp2_with fail
        go_ret2
        exact ⟨Or.inr ⟨HMIS.out, Or.inr (Or.inl ⟨by rw [HGE.out]; exact HB6.out, by rw [HGE.out]; exact may_long h16, rfl⟩)⟩, HBW.out⟩
      · have g1 : decide (16 < G.length) = false := decide_eq_false h16
        have HME : Hid (mayB (dr.map Fx.fld) = mayB G) := HMM.out.resolve_right h16
        rw [HME.out] at HMY
        cases hm : mayB G with
        | false =>
          rw [hm] at HMY
          go_wp2_with (first | (go_at_call 31; refine HMY.out.mono ?_; rintro e w2 ⟨rfl, hg2⟩))
          go_ret2
          exact ⟨Or.inr ⟨HMIS.out, Or.inr (Or.inl ⟨by rw [HGE.out]; exact HB6.out, by rw [HGE.out]; exact hm, rfl⟩)⟩, HBW.out.trans (hg2.below.mono hszw)⟩
        | true =>
          rw [hm] at HMY
          go_wp2_with (first | (go_at_call 31; refine HMY.out.mono ?_; rintro e w2 ⟨rfl, hg2⟩))
          go_ret2
          refine ⟨Or.inr ⟨HMIS.out, Or.inr (Or.inr ⟨by rw [HGE.out]; exact HB6.out, by rw [HGE.out]; exact hm, u5, dr, rfl, HOX.out.on hg2.below, ?_⟩)⟩, HBW.out.trans (hg2.below.mono hszw)⟩
          rw [HGE.out, HDM.out, Nat.min_eq_left (by omega), List.take_length]
          exact cap_map fun f hf => (fits_parts (may_fits hm f hf)).2.2.1

end Go.Proofs.YtmjchokacmbkoabDoor

/-
  The contracts of SameTexts, SameFields and Same of the reference.
-/
namespace Go.Proofs.YtmjchokacmbkoabDoor
open Go.RowKit

theorem str_ne {s t : ByteArray} (h : ¬ s = t) : (s.toList == t.toList) = false := by
  rw [Lib.toList_data, Lib.toList_data, beq_eq_false_iff_ne]
  intro e
  apply h
  obtain ⟨⟨s⟩⟩ := s
  obtain ⟨⟨t⟩⟩ := t
  simp at e
  rw [e]

set_option maxHeartbeats 1000000 in
set_option maxRecDepth 100000 in
theorem sameT_any (p q : Option Addr) (cap cap' : Nat) (ts us : List ByteArray) (w : World) (h1 : TxtAt w p ts) (h2 : TxtAt w q us) (hl1 : ts.length ≤ maxLen) :
    Calls Tryd.prog 9 #[.slice p ts.length cap, .slice q us.length cap'] w fun e w' => e = .returned (.bool (decide (ts = us))) ∧ ∃ n, w' = w.drewN n := by
  unfold maxLen at hl1
  obtain ⟨r, hr⟩ : ∃ r, decide (ts = us) = r := ⟨_, rfl⟩
  rw [hr]
  have HR := hid hr
  have H1 := hid h1
  have H2 := hid h2
  clear hr h1 h2
  by_cases hl : ts.length = us.length
  · have hb : ((ts.length : Int) != (us.length : Int)) = false := by simp [hl]
    have HL := hid hl
    clear hl
    go_enter Tryd.func9, Tryd.ntmps9
    go_wp2_with fail
    go_loopg [5] ts.length (fun g vi wr => ∃ i m : Nat, vi = .int .i64 i ∧ i ≤ ts.length ∧ ts.length - i ≤ g ∧ wr = w.drewN m ∧ Hid (∀ j, j < i → ts[j]? = us[j]?))
    case atStart => exact ⟨0, 0, rfl, by omega, by omega, rfl, fun j h => by omega⟩
    case round =>
      obtain ⟨i, m, rfl, hi, hg, rfl, HJ⟩ := hrel
      by_cases hlt : i < ts.length
      · have hlt2 : i < us.length := by rw [← HL.out]; exact hlt
        have i1 : (0 : Int) ≤ ↑i := by omega
        have i2 : (↑i : Int) < ↑ts.length := by omega
        have i3 : (↑i : Int) < ↑us.length := by omega
        rcases H1.out with hn | ⟨b1, o1, rfl, k1⟩
        · rw [hn] at hlt; simp at hlt
        rcases H2.out with hn | ⟨b2, o2, rfl, k2⟩
        · rw [hn] at hlt2; simp at hlt2
        have e1 := k1 i hlt
        have e2 := k2 i hlt2
        have g1 : ts[i]? = some ts[i] := List.getElem?_eq_getElem hlt
        have g2 : us[i]? = some us[i] := List.getElem?_eq_getElem hlt2
        clear k1 k2
        obtain ⟨s, hs⟩ : ∃ s, ts[i] = s := ⟨_, rfl⟩
        obtain ⟨t, ht⟩ : ∃ t, us[i] = t := ⟨_, rfl⟩
        rw [hs] at e1 g1
        rw [ht] at e2 g2
        have G1 := hid g1
        have G2 := hid g2
        clear hs ht g1 g2
        by_cases hst : s = t
        · subst hst
          go_wp2_with fail
          go_quiet (fail)
          go_wp2_with fail
          go_roundg (ts.length - (i + 1))
          case measure => omega
          refine ⟨i + 1, _, by go_num, by omega, by omega, rfl, fun j hj => ?_⟩
          by_cases e : j = i
          · subst e; rw [G1.out, G2.out]
          · exact HJ.out j (by omega)
        · have hne := str_ne hst
          have H0 : Hid (r = false) := HR.out.symm.trans (decide_eq_false fun e => hst (by
            have := G1.out
            rw [e, G2.out] at this
            exact (Option.some.inj this).symm))
          go_wp2_with fail
          go_quiet (fail)
          go_wp2_with fail
          go_ret
          exact ⟨ret_bool H0.out.symm, _, by rw [World.drewN_drewN]⟩
      · have hltz : ¬ (i : Int) < (ts.length : Int) := by omega
        have H0 : Hid (r = true) := HR.out.symm.trans (decide_eq_true (List.ext_getElem? fun j => by
          by_cases hj : j < ts.length
          · exact HJ.out j (by omega)
          · rw [List.getElem?_eq_none (by omega), List.getElem?_eq_none (by have := HL.out; omega)]))
        go_wp2_with fail
        go_ret
        exact ⟨ret_bool H0.out.symm, _, rfl⟩
  · have hb : ((ts.length : Int) != (us.length : Int)) = true := by simp; omega
    have H0 : Hid (r = false) := HR.out.symm.trans (decide_eq_false fun e => hl (by rw [e]))
    go_enter Tryd.func9, Tryd.ntmps9
    go_wp2_with fail
    go_ret
    exact ⟨ret_bool H0.out.symm, 0, rfl⟩

theorem TxtAt.draws {w : World} {p : Option Addr} {ts : List ByteArray} (h : TxtAt w p ts) (n : Nat) : TxtAt (w.drewN n) p ts := h

set_option maxHeartbeats 2000000 in
set_option maxRecDepth 100000 in
theorem sameF_any (v u : Value) (d e : List Fx) (w : World) (hv : IsXs w v d) (hu : IsXs w u e) (hf : FitX d) (hg : FitX e) :
    Calls Tryd.prog 11 #[v, u] w fun r w' => r = .returned (.bool (decide (d.map Fx.fld = e.map Fx.fld))) ∧ ∃ n, w' = w.drewN n := by
  obtain ⟨p, cap, rfl, hd, ht⟩ := hv
  obtain ⟨q, cap', rfl, he, ht'⟩ := hu
  have hl1 := hf.1
  have hl2 := hg.1
  unfold maxLen at hl1 hl2
  have HF := hid hf.2
  have HG := hid hg.2
  have HD := hid hd
  have HE := hid he
  have HT := hid ht
  have HT' := hid ht'
  obtain ⟨r, hr⟩ : ∃ r, decide (d.map Fx.fld = e.map Fx.fld) = r := ⟨_, rfl⟩
  rw [hr]
  have HR := hid hr
  clear hr hd he ht ht' hf hg
  by_cases hl : d.length = e.length
  · have hb : ((d.length : Int) != (e.length : Int)) = false := by simp [hl]
    have HL := hid hl
    clear hl
    go_enter Tryd.func11, Tryd.ntmps11
    go_wp2_with fail
    go_loopg [5] d.length (fun g vi wr => ∃ i m : Nat, vi = .int .i64 i ∧ i ≤ d.length ∧ d.length - i ≤ g ∧ wr = w.drewN m ∧ Hid (∀ j, j < i → (d.map Fx.fld)[j]? = (e.map Fx.fld)[j]?))
    case atStart => exact ⟨0, 0, rfl, by omega, by omega, rfl, fun j h => by omega⟩
    case round =>
      obtain ⟨i, m, rfl, hi, hgk, rfl, HJ⟩ := hrel
      by_cases hlt : i < d.length
      · have hlt2 : i < e.length := by rw [← HL.out]; exact hlt
        have i1 : (0 : Int) ≤ ↑i := by omega
        have i2 : (↑i : Int) < ↑d.length := by omega
        have i3 : (↑i : Int) < ↑e.length := by omega
        rcases HD.out with hn | ⟨b1, o1, rfl, k1⟩
        · rw [hn] at hlt; simp at hlt
        rcases HE.out with hn | ⟨b2, o2, rfl, k2⟩
        · rw [hn] at hlt2; simp at hlt2
        obtain ⟨x0, x1⟩ := k1 i hlt
        obtain ⟨y0, y1⟩ := k2 i hlt2
        have g1 : (d.map Fx.fld)[i]? = some (d[i]).fld := by rw [List.getElem?_map, List.getElem?_eq_getElem hlt]; rfl
        have g2 : (e.map Fx.fld)[i]? = some (e[i]).fld := by rw [List.getElem?_map, List.getElem?_eq_getElem hlt2]; rfl
        have fx := HF.out _ (List.getElem_mem hlt)
        have fy := HG.out _ (List.getElem_mem hlt2)
        have tx := HT.out _ (List.getElem_mem hlt)
        have ty := HT'.out _ (List.getElem_mem hlt2)
        clear k1 k2
        obtain ⟨x, hx⟩ : ∃ x, d[i] = x := ⟨_, rfl⟩
        obtain ⟨y, hy⟩ : ∃ y, e[i] = y := ⟨_, rfl⟩
        rw [hx] at x0 x1 g1 fx tx
        rw [hy] at y0 y1 g2 fy ty
        unfold Fx.sl at x1 y1
        have G1 := hid g1
        have G2 := hid g2
        obtain ⟨W, hW⟩ : ∃ W, w.drewN m = W := ⟨_, rfl⟩
        have HC : Hid (∀ n, Calls Tryd.prog 9 #[.slice x.p x.txt.length x.cap, .slice y.p y.txt.length y.cap] (W.drewN n) fun r w' => r = .returned (.bool (decide (x.txt = y.txt))) ∧ ∃ k, w' = (W.drewN n).drewN k) := fun n => by
          subst hW
          exact sameT_any _ _ _ _ _ _ _ tx ty fx.2.1
        replace x0 : W.cell? ⟨b1, o1 + i * 2, none⟩ = some (.string x.name) := by subst hW; exact x0
        replace x1 : W.cell? ⟨b1, o1 + i * 2 + 1, none⟩ = some (.slice x.p x.txt.length x.cap) := by subst hW; exact x1
        replace y0 : W.cell? ⟨b2, o2 + i * 2, none⟩ = some (.string y.name) := by subst hW; exact y0
        replace y1 : W.cell? ⟨b2, o2 + i * 2 + 1, none⟩ = some (.slice y.p y.txt.length y.cap) := by subst hW; exact y1
        have HW := hid hW
        rw [hW]
        have mixed := Tryd.mixed
        clear hx hy g1 g2 fx fy tx ty hW
        by_cases hst : x.name = y.name
        · obtain ⟨nm, hnm⟩ : ∃ nm, y.name = nm := ⟨_, rfl⟩
          rw [hst, hnm] at x0
          rw [hnm] at y0
          have HN : Hid (x.name = nm ∧ y.name = nm) := ⟨hst.trans hnm, hnm⟩
          clear hst hnm
          by_cases hts : x.txt = y.txt
          · have hd := decide_eq_true hts
            have HTS := hid hts
            rw [hd] at HC
            clear hd hts
            go_wp2_with fail
            refine wp_region_quiet_lit mixed (by kernel_rfl) ?_
            repeat (go_big_quiet_step (first | (go_at_call 9; refine Calls.quiet_of (HC.out _))))
            refine wpQuiet_nil ?_
            intro _ hw'
            obtain ⟨nq, hw''⟩ := hw'
            subst hw''
            go_wp2_with fail
            go_roundg (d.length - (i + 1))
            case measure => omega
            refine ⟨i + 1, m + nq, by go_num, by omega, by omega, by rw [← HW.out, World.drewN_drewN], fun j hj => ?_⟩
            by_cases ej : j = i
            · subst ej
              rw [G1.out, G2.out]
              unfold Fx.fld
              rw [HN.out.1, HN.out.2, HTS.out]
            · exact HJ.out j (by omega)
          · have hd := decide_eq_false hts
            rw [hd] at HC
            have H0 : Hid (r = false) := HR.out.symm.trans (decide_eq_false fun ee => hts (by
              have := G1.out
              rw [ee, G2.out] at this
              have := congrArg Prod.snd (Option.some.inj this)
              exact this.symm))
            clear hd hts
            go_wp2_with fail
            refine wp_region_quiet_lit mixed (by kernel_rfl) ?_
            repeat (go_big_quiet_step (first | (go_at_call 9; refine Calls.quiet_of (HC.out _))))
            refine wpQuiet_nil ?_
            intro _ hw'
            obtain ⟨nq, hw''⟩ := hw'
            subst hw''
            go_wp2_with fail
            go_ret
            exact ⟨ret_bool H0.out.symm, m + nq, by rw [← HW.out, World.drewN_drewN]⟩
        · have hne := str_ne hst
          have H0 : Hid (r = false) := HR.out.symm.trans (decide_eq_false fun ee => hst (by
            have := G1.out
            rw [ee, G2.out] at this
            have := congrArg Prod.fst (Option.some.inj this)
            exact this.symm))
          go_wp2_with fail
          refine wp_region_quiet_lit mixed (by kernel_rfl) ?_
          repeat (go_big_quiet_step (first | (go_at_call 9; refine Calls.quiet_of (HC.out _))))
          refine wpQuiet_nil ?_
          intro _ hw'
          obtain ⟨nq, hw''⟩ := hw'
          subst hw''
          go_wp2_with fail
          go_ret
          exact ⟨ret_bool H0.out.symm, m + nq, by rw [← HW.out, World.drewN_drewN]⟩
      · have hltz : ¬ (i : Int) < (d.length : Int) := by omega
        have H0 : Hid (r = true) := HR.out.symm.trans (decide_eq_true (List.ext_getElem? fun j => by
          by_cases hj : j < d.length
          · exact HJ.out j (by omega)
          · rw [List.getElem?_eq_none (by simp; omega), List.getElem?_eq_none (by have := HL.out; simp; omega)]))
        go_wp2_with fail
        go_ret
        exact ⟨ret_bool H0.out.symm, _, rfl⟩
  · have hb : ((d.length : Int) != (e.length : Int)) = true := by simp; omega
    have H0 : Hid (r = false) := HR.out.symm.trans (decide_eq_false fun ee => hl (by have := congrArg List.length ee; simpa using this))
    go_enter Tryd.func11, Tryd.ntmps11
    go_wp2_with fail
    go_ret
    exact ⟨ret_bool H0.out.symm, 0, rfl⟩

set_option maxHeartbeats 1000000 in
theorem same_any (v u : Value) (d e : List Fx) (k : Int) (w : World) (hv : IsXs w v d) (hu : IsXs w u e) (hf : FitX d) (hg : FitX e) :
    Calls Tryd.prog 14 #[v, u, .int .i64 k, .int .i64 k] w fun r w' => r = .returned (.bool (decide (d.map Fx.fld = e.map Fx.fld))) ∧ ∃ n, w' = w.drewN n := by
  have HC := hid (sameF_any v u d e w hv hu hf hg)
  clear hv hu
  go_enter Tryd.func14, Tryd.ntmps14
  go_wp2_with (first | (go_at_call 11; refine HC.out.mono ?_; rintro r w1 ⟨rfl, n, rfl⟩))
  go_ret
  exact ⟨rfl, n, rfl⟩

end Go.Proofs.YtmjchokacmbkoabDoor

/-
  What Norm answers, by the fields alone: the program's and the reference's.
-/
namespace Go.Proofs.YtmjchokacmbkoabDoor
open Go.RowKit Go.Lib

/-- What Norm answers: the number, and the fields. -/
def codeF (fs : List Fld) : Int := if fs.any misB then 2 else if (normF fs).any bareB then 3 else if mayB (normF fs) then 0 else 5
def ansF (fs : List Fld) : List Fld := if codeF fs = 0 then normF fs else []

theorem codeF_zero {fs : List Fld} (h : codeF fs = 0) : fs.any misB = false ∧ (normF fs).any bareB = false ∧ mayB (normF fs) = true := by
  unfold codeF at h
  cases h1 : fs.any misB with
  | true => rw [h1] at h; simp at h
  | false =>
    cases h2 : (normF fs).any bareB with
    | true => rw [h1, h2] at h; simp at h
    | false =>
      cases h3 : mayB (normF fs) with
      | true => exact ⟨rfl, rfl, rfl⟩
      | false => rw [h1, h2, h3] at h; simp at h

theorem may_fit {d : List Fx} {fs : List Fld} (hmay : mayB fs = true) (hm : d.map Fx.fld = fs) : FitX d := by
  have hl := (may_parts hmay).1
  refine ⟨?_, fun x hx => ?_⟩
  · rw [← hm, List.length_map] at hl
    unfold maxLen; omega
  · have hx' : x.fld ∈ fs := by rw [← hm]; exact List.mem_map.2 ⟨x, hx, rfl⟩
    obtain ⟨h1, _, h3, h4, _⟩ := fits_parts (may_fits hmay _ hx')
    refine ⟨?_, ?_, fun t ht => ?_⟩
    · unfold maxLen; omega
    · unfold maxLen; omega
    · have := h4 t ht; unfold maxLen; omega

theorem ans_fit {d : List Fx} {fs : List Fld} (hm : d.map Fx.fld = ansF fs) : FitX d := by
  unfold ansF at hm
  split at hm
  · rename_i h
    exact may_fit (codeF_zero h).2.2 hm
  · rw [List.map_eq_nil_iff] at hm
    subst hm
    exact ⟨by unfold maxLen; simp, fun x hx => by simp at hx⟩

def NPost (w : World) (fs : List Fld) (e : Ending) (w' : World) : Prop :=
  (∃ u o, e = .returned (.tuple #[u, .int .i64 (codeF fs)]) ∧ OwnXs w.heap.size w' u o ∧ o.map Fx.fld = ansF fs) ∧ Below w.heap.size w w'

theorem own_none (N : Nat) (w : World) : OwnXs N w (.slice none 0 0) [] := ⟨World.ownsRow_nil _ _ _ _, fun x hx => by simp at hx⟩

theorem ansPlain {N : Nat} {fs : List Fld} {e : Ending} {w' : World}
    (h : (fs.any misB = true ∧ e = .returned (.tuple #[.slice none 0 0, .int .i64 2])) ∨
    (fs.any misB = false ∧
     (((normF fs).any bareB = true ∧ e = .returned (.tuple #[.slice none 0 0, .int .i64 3])) ∨
      ((normF fs).any bareB = false ∧ mayB (normF fs) = false ∧ e = .returned (.tuple #[.slice none 0 0, .int .i64 5])) ∨
      ((normF fs).any bareB = false ∧ mayB (normF fs) = true ∧ ∃ u o, e = .returned (.tuple #[u, .int .i64 0]) ∧ OwnXs N w' u o ∧ o.map Fx.fld = normF fs)))) :
    ∃ u o, e = .returned (.tuple #[u, .int .i64 (codeF fs)]) ∧ OwnXs N w' u o ∧ o.map Fx.fld = ansF fs := by
  rcases h with ⟨h1, rfl⟩ | ⟨h1, ⟨h2, rfl⟩ | ⟨h2, h3, rfl⟩ | ⟨h2, h3, u, o, rfl, ho, hm⟩⟩
  · have hc : codeF fs = 2 := by unfold codeF; rw [h1]; rfl
    exact ⟨_, [], by rw [hc], own_none _ _, by unfold ansF; rw [hc]; rfl⟩
  · have hc : codeF fs = 3 := by unfold codeF; rw [h1, h2]; rfl
    exact ⟨_, [], by rw [hc], own_none _ _, by unfold ansF; rw [hc]; rfl⟩
  · have hc : codeF fs = 5 := by unfold codeF; rw [h1, h2, h3]; rfl
    exact ⟨_, [], by rw [hc], own_none _ _, by unfold ansF; rw [hc]; rfl⟩
  · have hc : codeF fs = 0 := by unfold codeF; rw [h1, h2, h3]; rfl
    exact ⟨u, o, by rw [hc], ho, by unfold ansF; rw [hc]; exact hm⟩

theorem norm_plain (v : Value) (d : List Fx) (w : World) (hv : IsXs w v d) (hf : FitX d) (hl : d.length * 40 ≤ 140737488355328) (htot : totF (d.map Fx.fld) * 16 ≤ 140737488355328) :
    Calls Tryd.prog 7 #[v] w fun e w' => NPost w (d.map Fx.fld) e w' := by
  refine (norm_any v d w hv hf hl htot).mono fun e w' h => ⟨ansPlain ?_, h.2⟩
  rcases h.ans.plain with h | ⟨h1, h | h | ⟨h2, h3, u, o, h4, h5, h6⟩⟩
  · exact Or.inl h
  · exact Or.inr ⟨h1, Or.inl h⟩
  · exact Or.inr ⟨h1, Or.inr (Or.inl h)⟩
  · exact Or.inr ⟨h1, Or.inr (Or.inr ⟨h2, h3, u, o, h4, h5.1, h6⟩)⟩

theorem rnorm_plain (v : Value) (d : List Fx) (w : World) (hv : IsXs w v d) (hf : FitX d) (hl : d.length * 40 ≤ 140737488355328) (htot : totF (d.map Fx.fld) * 16 ≤ 140737488355328) :
    Calls Tryd.prog 13 #[v] w fun e w' => NPost w (d.map Fx.fld) e w' :=
  (rnorm_any v d w hv hf hl htot).mono fun _ _ h => ⟨ansPlain h.1, h.2⟩

end Go.Proofs.YtmjchokacmbkoabDoor
