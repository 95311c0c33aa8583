/-
  Texts of this claim, one behind the other: Grp Rname Rmay Rnm Rnn Sam Ncd.
-/
import Derived.Test.YtkcmjeiiogikpaaGreatDoorPb
import Derived.Test.YtkcmjeiiogikpaaGreatDoorPa
import Derived.Deep.CutRange
namespace Go.Proofs.YtkcmjeiiogikpaaGreatDoor
open Go.RowKit Go.Sort Go.Lib
def txtOf (fs : List Fld) (c : ByteArray) : List ByteArray := (fs.filter fun x => decide (x.1 = c)).flatMap (·.2)
def Rising (l : List Fld) : Prop := l.Pairwise fun x y => ltB x.1 y.1 = true
theorem txtOf_snoc (l : List Fld) (f : Fld) (c : ByteArray) : txtOf (l ++ [f]) c = txtOf l c ++ if f.1 = c then f.2 else [] := by
  unfold txtOf
  rw [List.filter_append, List.flatMap_append]
  by_cases e : f.1 = c
  · rw [if_pos e, List.filter_cons_of_pos (by simp [e])]; simp
  · rw [if_neg e, List.filter_cons_of_neg (by simp [e])]; simp
theorem txtOf_none {l : List Fld} {c : ByteArray} (h : ∀ f ∈ l, f.1 ≠ c) : txtOf l c = [] := by
  unfold txtOf
  rw [List.filter_eq_nil_iff.2 (fun x hx => by simpa using h x hx)]
  rfl
structure Groups (l o : List Fld) : Prop where
  rising : Rising o
  names : ∀ c, (∃ f ∈ o, f.1 = c) ↔ ∃ f ∈ l, f.1 = c
  texts : ∀ f ∈ o, f.2 = txtOf l f.1
theorem ltB_ne {a b : ByteArray} (h : ltB a b = true) : a ≠ b := by
  rintro rfl
  rw [ltB_irrefl] at h
  cases h
theorem Groups.step {l o : List Fld} {f : Fld} (h : Groups l o) (hf : ∀ x ∈ l, ltB f.1 x.1 = false) : Groups (l ++ [f]) (joinStep o f) := by
  obtain ⟨h1, h2, h3⟩ := h
  have hfo : ∀ x ∈ o, ltB f.1 x.1 = false := fun x hx => by
    obtain ⟨y, hy, e⟩ := (h2 x.1).1 ⟨x, hx, rfl⟩
    rw [← e]; exact hf y hy
  rcases List.eq_nil_or_concat o with rfl | ⟨o', g, rfl⟩
  · have hl : l = [] := by
      cases l with
      | nil => rfl
      | cons y l =>
        obtain ⟨z, hz, _⟩ := (h2 y.1).2 ⟨y, by simp, rfl⟩
        simp at hz
    subst hl
    rw [joinStep_nil]
    refine ⟨List.pairwise_singleton _ _, fun c => by simp, fun x hx => ?_⟩
    rw [List.mem_singleton] at hx
    subst hx
    simp [txtOf]
  · rw [List.concat_eq_append] at *
    have hr := List.pairwise_append.1 h1
    have ho' : ∀ x ∈ o', ltB x.1 g.1 = true := fun x hx => hr.2.2 x hx g (by simp)
    have hgf := hfo g (by simp)
    by_cases e : g.1 = f.1
    · rw [joinStep_same _ _ _ e]
      refine ⟨?_, fun c => ?_, fun x hx => ?_⟩
      · refine List.pairwise_append.2 ⟨hr.1, List.pairwise_singleton _ _, fun a ha b hb => ?_⟩
        rw [List.mem_singleton] at hb
        subst hb
        exact ho' a ha
      · have := h2 c
        constructor
        · rintro ⟨x, hx, rfl⟩
          rw [List.mem_append, List.mem_singleton] at hx
          rcases hx with hx | rfl
          · obtain ⟨y, hy, ey⟩ := (h2 x.1).1 ⟨x, by simp [hx], rfl⟩
            exact ⟨y, by simp [hy], ey⟩
          · exact ⟨f, by simp, e.symm⟩
        · rintro ⟨y, hy, rfl⟩
          rw [List.mem_append, List.mem_singleton] at hy
          rcases hy with hy | rfl
          · obtain ⟨x, hx, ex⟩ := this.2 ⟨y, hy, rfl⟩
            rw [List.mem_append, List.mem_singleton] at hx
            rcases hx with hx | rfl
            · exact ⟨x, by simp [hx], ex⟩
            · exact ⟨_, List.mem_append_right _ (List.mem_singleton.2 rfl), ex⟩
          · exact ⟨_, List.mem_append_right _ (List.mem_singleton.2 rfl), e⟩
      · rw [List.mem_append, List.mem_singleton] at hx
        rcases hx with hx | rfl
        · rw [txtOf_snoc, if_neg (fun k => ltB_ne (ho' x hx) (k.symm.trans e.symm)), List.append_nil]
          exact h3 x (by simp [hx])
        · show g.2 ++ f.2 = txtOf (l ++ [f]) g.1
          rw [txtOf_snoc, if_pos e.symm, ← h3 g (by simp)]
    · rw [joinStep_other _ _ _ e]
      have hgf' : ltB g.1 f.1 = true := by
        rcases ltB_cases g.1 f.1 with k | k | k
        · exact k
        · exact absurd k e
        · rw [hgf] at k; cases k
      have hlt : ∀ x ∈ o' ++ [g], ltB x.1 f.1 = true := fun x hx => by
        rw [List.mem_append, List.mem_singleton] at hx
        rcases hx with hx | rfl
        · exact ltB_trans (ho' x hx) hgf'
        · exact hgf'
      refine ⟨?_, fun c => ?_, fun x hx => ?_⟩
      · refine List.pairwise_append.2 ⟨h1, List.pairwise_singleton _ _, fun a ha b hb => ?_⟩
        rw [List.mem_singleton] at hb
        subst hb
        exact hlt a ha
      · constructor
        · rintro ⟨x, hx, rfl⟩
          rw [List.mem_append, List.mem_singleton] at hx
          rcases hx with hx | rfl
          · obtain ⟨y, hy, ey⟩ := (h2 x.1).1 ⟨x, hx, rfl⟩
            exact ⟨y, List.mem_append_left _ hy, ey⟩
          · exact ⟨x, by simp, rfl⟩
        · rintro ⟨y, hy, rfl⟩
          rw [List.mem_append, List.mem_singleton] at hy
          rcases hy with hy | rfl
          · obtain ⟨x, hx, ex⟩ := (h2 y.1).2 ⟨y, hy, rfl⟩
            exact ⟨x, List.mem_append_left _ hx, ex⟩
          · exact ⟨y, by simp, rfl⟩
      · rw [List.mem_append, List.mem_singleton] at hx
        rcases hx with hx | rfl
        · rw [txtOf_snoc, if_neg (fun k => ltB_ne (hlt x hx) k.symm), List.append_nil]
          exact h3 x hx
        · rw [txtOf_snoc, if_pos rfl, txtOf_none, List.nil_append]
          intro y hy k
          obtain ⟨z, hz, ez⟩ := (h2 y.1).2 ⟨y, hy, rfl⟩
          exact ltB_ne (hlt z hz) (ez.trans k)
theorem joinS_groups (l : List Fld) (h : InOrder l) : Groups l (joinS l) := by
  have : ∀ k, k ≤ l.length → Groups (l.take k) (joinS (l.take k)) := by
    intro k
    induction k with
    | zero => intro _; exact ⟨List.Pairwise.nil, fun c => by simp [joinS], fun f hf => by simp [joinS] at hf⟩
    | succ k ih =>
      intro hk
      rw [List.take_succ_eq_append_getElem hk, joinS_snoc]
      refine (ih (by omega)).step fun x hx => ?_
      have h1 : InOrder (l.take (k + 1)) := h.sublist (List.take_sublist _ _)
      rw [List.take_succ_eq_append_getElem hk] at h1
      exact (List.pairwise_append.1 h1).2.2 x hx _ (by simp)
  have := this l.length (Nat.le_refl _)
  rwa [List.take_length] at this
theorem normF_groups (fs : List Fld) : Groups fs (normF fs) := by
  obtain ⟨h1, h2⟩ := sortS_spec fs
  obtain ⟨g1, g2, g3⟩ := joinS_groups _ h1
  have hm : ∀ c, (∃ f ∈ sortS fs, f.1 = c) ↔ ∃ f ∈ fs, f.1 = c := fun c => by
    have e := h2 c
    constructor
    · rintro ⟨f, hf, rfl⟩
      have : f ∈ fs.filter (fun x => decide (x.1 = f.1)) := by rw [← e]; exact List.mem_filter.2 ⟨hf, by simp⟩
      exact ⟨f, (List.mem_filter.1 this).1, rfl⟩
    · rintro ⟨f, hf, rfl⟩
      have : f ∈ (sortS fs).filter (fun x => decide (x.1 = f.1)) := by rw [e]; exact List.mem_filter.2 ⟨hf, by simp⟩
      exact ⟨f, (List.mem_filter.1 this).1, rfl⟩
  refine ⟨g1, fun c => (g2 c).trans (hm c), fun f hf => ?_⟩
  rw [g3 f hf]
  unfold txtOf
  rw [h2]
theorem groups_unique {l o p : List Fld} (h : Groups l o) (k : Groups l p) : o = p := by
  refine order_unique o p (h.rising.imp fun hxy => ltB_asymm hxy) (k.rising.imp fun hxy => ltB_asymm hxy) fun c => ?_
  have one : ∀ {q : List Fld}, Groups l q → q.filter (fun x => decide (x.1 = c)) = if ∃ f ∈ l, f.1 = c then [(c, txtOf l c)] else [] := by
    intro q hq
    split
    · rename_i hex
      obtain ⟨f, hf, rfl⟩ := (hq.names c).2 hex
      obtain ⟨a, b, rfl⟩ := List.append_of_mem hf
      have hr := List.pairwise_append.1 hq.rising
      have hr2 := List.pairwise_cons.1 hr.2.1
      have ha : a.filter (fun x => decide (x.1 = f.1)) = [] := List.filter_eq_nil_iff.2 fun x hx e => ltB_ne (hr.2.2 x hx f (by simp)) (by simpa using e)
      have hb : b.filter (fun x => decide (x.1 = f.1)) = [] := List.filter_eq_nil_iff.2 fun x hx e => ltB_ne (hr2.1 x hx) (Eq.symm (of_decide_eq_true e))
      rw [List.filter_append, ha, List.filter_cons_of_pos (by simp), hb, List.nil_append, ← hq.texts f (by simp)]
    · rename_i hex
      refine List.filter_eq_nil_iff.2 fun x hx e => hex ((hq.names c).1 ⟨x, hx, by simpa using e⟩)
  rw [one h, one k]
end Go.Proofs.YtkcmjeiiogikpaaGreatDoor

namespace Go.Proofs.YtkcmjeiiogikpaaGreatDoor
open Go.RowKit
end Go.Proofs.YtkcmjeiiogikpaaGreatDoor

namespace Go.Proofs.YtkcmjeiiogikpaaGreatDoor
open Go.RowKit
end Go.Proofs.YtkcmjeiiogikpaaGreatDoor

namespace Go.Proofs.YtkcmjeiiogikpaaGreatDoor
open Go.RowKit Go.Lib
end Go.Proofs.YtkcmjeiiogikpaaGreatDoor

namespace Go.Proofs.YtkcmjeiiogikpaaGreatDoor
open Go.RowKit Go.Lib
end Go.Proofs.YtkcmjeiiogikpaaGreatDoor

namespace Go.Proofs.YtkcmjeiiogikpaaGreatDoor
open Go.RowKit
end Go.Proofs.YtkcmjeiiogikpaaGreatDoor

namespace Go.Proofs.YtkcmjeiiogikpaaGreatDoor
open Go.RowKit Go.Lib
def codeF (fs : List Fld) : Int := if fs.any misB then 2 else if (normF fs).any bareB then 3 else if mayB (normF fs) then 0 else 5
def ansF (fs : List Fld) : List Fld := if codeF fs = 0 then normF fs else []
theorem codeF_zero {fs : List Fld} (h : codeF fs = 0) : fs.any misB = false ∧ (normF fs).any bareB = false ∧ mayB (normF fs) = true := by
  unfold codeF at h
  cases h1 : fs.any misB with
  | true => rw [h1] at h; simp at h
  | false =>
    cases h2 : (normF fs).any bareB with
    | true => rw [h1, h2] at h; simp at h
    | false =>
      cases h3 : mayB (normF fs) with
      | true => exact ⟨rfl, rfl, rfl⟩
      | false => rw [h1, h2, h3] at h; simp at h
theorem may_fit {d : List Fx} {fs : List Fld} (hmay : mayB fs = true) (hm : d.map Fx.fld = fs) : FitX d := by
  have hl := (may_parts hmay).1
  refine ⟨?_, fun x hx => ?_⟩
  · rw [← hm, List.length_map] at hl
    unfold maxLen; omega
  · have hx' : x.fld ∈ fs := by rw [← hm]; exact List.mem_map.2 ⟨x, hx, rfl⟩
    obtain ⟨h1, _, h3, h4, _⟩ := fits_parts (may_fits hmay _ hx')
    refine ⟨?_, ?_, fun t ht => ?_⟩
    · unfold maxLen; omega
    · unfold maxLen; omega
    · have := h4 t ht; unfold maxLen; omega
theorem ans_fit {d : List Fx} {fs : List Fld} (hm : d.map Fx.fld = ansF fs) : FitX d := by
  unfold ansF at hm
  split at hm
  · rename_i h
    exact may_fit (codeF_zero h).2.2 hm
  · rw [List.map_eq_nil_iff] at hm
    subst hm
    exact ⟨by unfold maxLen; simp, fun x hx => by simp at hx⟩
theorem own_none (N : Nat) (w : World) : OwnXs N w (.slice none 0 0) [] := ⟨World.ownsRow_nil _ _ _ _, fun x hx => by simp at hx⟩
theorem ansPlain {N : Nat} {fs : List Fld} {e : Ending} {w' : World}
    (h : (fs.any misB = true ∧ e = .returned (.tuple #[.slice none 0 0, .int .i64 2])) ∨
    (fs.any misB = false ∧
     (((normF fs).any bareB = true ∧ e = .returned (.tuple #[.slice none 0 0, .int .i64 3])) ∨
      ((normF fs).any bareB = false ∧ mayB (normF fs) = false ∧ e = .returned (.tuple #[.slice none 0 0, .int .i64 5])) ∨
      ((normF fs).any bareB = false ∧ mayB (normF fs) = true ∧ ∃ u o, e = .returned (.tuple #[u, .int .i64 0]) ∧ OwnXs N w' u o ∧ o.map Fx.fld = normF fs)))) :
    ∃ u o, e = .returned (.tuple #[u, .int .i64 (codeF fs)]) ∧ OwnXs N w' u o ∧ o.map Fx.fld = ansF fs := by
  rcases h with ⟨h1, rfl⟩ | ⟨h1, ⟨h2, rfl⟩ | ⟨h2, h3, rfl⟩ | ⟨h2, h3, u, o, rfl, ho, hm⟩⟩
  · have hc : codeF fs = 2 := by unfold codeF; rw [h1]; rfl
    exact ⟨_, [], by rw [hc], own_none _ _, by unfold ansF; rw [hc]; rfl⟩
  · have hc : codeF fs = 3 := by unfold codeF; rw [h1, h2]; rfl
    exact ⟨_, [], by rw [hc], own_none _ _, by unfold ansF; rw [hc]; rfl⟩
  · have hc : codeF fs = 5 := by unfold codeF; rw [h1, h2, h3]; rfl
    exact ⟨_, [], by rw [hc], own_none _ _, by unfold ansF; rw [hc]; rfl⟩
  · have hc : codeF fs = 0 := by unfold codeF; rw [h1, h2, h3]; rfl
    exact ⟨u, o, by rw [hc], ho, by unfold ansF; rw [hc]; exact hm⟩
end Go.Proofs.YtkcmjeiiogikpaaGreatDoor
