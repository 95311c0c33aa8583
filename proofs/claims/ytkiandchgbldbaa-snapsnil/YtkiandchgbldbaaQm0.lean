/-
  The plain mathematics of snapshots (stage 10): those that are open, by their ids; the floor.
-/
import Derived.Test.YtkiandchgbldbaaFrm
namespace Go.Proofs.Ytkiandchgbldbaa
open Go.RowKit

/-- The snapshots by their ids, from 1 on: the stamp of one that is open. -/
abbrev Sn := List (Option Int)

def atQ (os : Sn) (id : Int) : Option Int := if 1 ≤ id then (os[(id - 1).toNat]?).join else none
def closeQ (os : Sn) (id : Int) : Sn := if 1 ≤ id then os.set (id - 1).toNat none else os
def countQ (os : Sn) : Nat := os.countP Option.isSome
def minQ (m : Int) (o : Option Int) : Int := match o with | some s => if s < m then s else m | none => m
def leastQ (os : Sn) (now : Int) : Int := os.foldl minQ now
def lowQ (os : Sn) (f : Int) : Bool := os.any fun o => match o with | some s => decide (s < f) | none => false

/-- What Open answers, and what is open then. -/
def openQ (os : Sn) (fl x : Int) : (Int × Int) × Sn := if x < fl then ((0, 8), os) else (((os.length : Int) + 1, 0), os ++ [some x])
/-- What Raise answers, and the floor then. -/
def raiseQ (os : Sn) (fl f : Int) : Int × Int := if f < fl then (8, fl) else if lowQ os f then (1, fl) else (0, f)

theorem atQ_le {os : Sn} {id : Int} (h : (os.length : Int) < id) : atQ os id = none := by
  unfold atQ
  split
  · rw [List.getElem?_eq_none (by omega)]; rfl
  · rfl

theorem atQ_in {os : Sn} {i : Nat} (h : i < os.length) : atQ os ((i : Int) + 1) = os[i] := by
  unfold atQ
  rw [if_pos (by omega), show ((i : Int) + 1 - 1).toNat = i by omega, List.getElem?_eq_getElem h]
  rfl

theorem atQ_open (os : Sn) (x id : Int) : atQ (os ++ [some x]) id = if id = (os.length : Int) + 1 then some x else atQ os id := by
  unfold atQ
  by_cases h1 : 1 ≤ id
  · rw [if_pos h1, if_pos h1]
    by_cases e : id = (os.length : Int) + 1
    · rw [if_pos e, e, show ((os.length : Int) + 1 - 1).toNat = os.length by omega]
      simp
    · rw [if_neg e]
      rcases Nat.lt_or_ge (id - 1).toNat os.length with h | h
      · rw [List.getElem?_append_left h]
      · rw [List.getElem?_append_right h, List.getElem?_eq_none (l := os) h, List.getElem?_eq_none (by simp; omega)]
  · rw [if_neg h1, if_neg h1, if_neg (by omega)]

theorem atQ_close (os : Sn) (x id : Int) : atQ (closeQ os x) id = if id = x then none else atQ os id := by
  unfold closeQ
  by_cases hx : 1 ≤ x
  · rw [if_pos hx]
    unfold atQ
    by_cases h1 : 1 ≤ id
    · rw [if_pos h1, if_pos h1, List.getElem?_set]
      by_cases e : id = x
      · rw [if_pos e, if_pos (by omega)]
        split <;> rfl
      · rw [if_neg e, if_neg (by omega)]
    · rw [if_neg h1, if_neg h1]
      split <;> rfl
  · rw [if_neg hx]
    by_cases e : id = x
    · rw [if_pos e, e]
      unfold atQ
      rw [if_neg hx]
    · rw [if_neg e]

theorem closeQ_len (os : Sn) (x : Int) : (closeQ os x).length = os.length := by
  unfold closeQ
  split <;> simp

theorem closeQ_same {os : Sn} {x : Int} (h : atQ os x = none) : closeQ os x = os := by
  unfold closeQ
  unfold atQ at h
  by_cases hx : 1 ≤ x
  · rw [if_pos hx] at h ⊢
    rcases Nat.lt_or_ge (x - 1).toNat os.length with k | k
    · rw [List.getElem?_eq_getElem k] at h
      have h2 : os[(x - 1).toNat] = none := h
      apply List.ext_getElem?
      intro j
      rw [List.getElem?_set]
      split
      · next e => subst e; rw [List.getElem?_eq_getElem k, h2]
      · rfl
    · exact List.set_eq_of_length_le k
  · rw [if_neg hx]

theorem minQ_none (m : Int) : minQ m none = m := rfl
theorem minQ_some (m s : Int) : minQ m (some s) = if s < m then s else m := rfl
theorem least_cons (o : Option Int) (os : Sn) (now : Int) : leastQ (o :: os) now = leastQ os (minQ now o) := rfl
theorem least_snoc (os : Sn) (o : Option Int) (now : Int) : leastQ (os ++ [o]) now = minQ (leastQ os now) o := by
  unfold leastQ
  rw [List.foldl_append]
  rfl

theorem least_take {os : Sn} {i : Nat} (h : i < os.length) (now : Int) : leastQ (os.take (i + 1)) now = minQ (leastQ (os.take i) now) os[i] := by
  rw [List.take_succ_eq_append_getElem h, least_snoc]

theorem minQ_le (m : Int) (o : Option Int) : minQ m o ≤ m := by
  cases o with
  | none => exact Int.le_refl _
  | some s => rw [minQ_some]; split <;> omega

theorem least_le (os : Sn) : ∀ now, leastQ os now ≤ now := by
  induction os with
  | nil => intro now; exact Int.le_refl _
  | cons o os ih => intro now; rw [least_cons]; exact Int.le_trans (ih _) (minQ_le _ _)

theorem least_open {os : Sn} {s : Int} (h : some s ∈ os) (now : Int) : leastQ os now ≤ s := by
  induction os generalizing now with
  | nil => cases h
  | cons o os ih =>
    rw [least_cons]
    rcases List.mem_cons.1 h with e | h
    · subst e
      refine Int.le_trans (least_le _ _) ?_
      rw [minQ_some]
      split <;> omega
    · exact ih h _

theorem least_is (os : Sn) : ∀ now, leastQ os now = now ∨ some (leastQ os now) ∈ os := by
  induction os with
  | nil => intro now; exact Or.inl rfl
  | cons o os ih =>
    intro now
    rw [least_cons]
    rcases ih (minQ now o) with h | h
    · rw [h]
      cases o with
      | none => exact Or.inl rfl
      | some s =>
        rw [minQ_some]
        split
        · right; simp
        · exact Or.inl rfl
    · exact Or.inr (List.mem_cons_of_mem _ h)

theorem low_iff (os : Sn) (f : Int) : lowQ os f = true ↔ ∃ s, some s ∈ os ∧ s < f := by
  unfold lowQ
  rw [List.any_eq_true]
  constructor
  · rintro ⟨o, ho, h⟩
    cases o with
    | none => cases h
    | some s => exact ⟨s, ho, of_decide_eq_true h⟩
  · rintro ⟨s, hs, h⟩
    exact ⟨some s, hs, decide_eq_true h⟩

theorem low_least (os : Sn) (f : Int) : lowQ os f = decide (leastQ os f < f) := by
  rw [Bool.eq_iff_iff, low_iff, decide_eq_true_iff]
  constructor
  · rintro ⟨s, hs, h⟩
    have := least_open hs f
    omega
  · intro h
    rcases least_is os f with e | e
    · omega
    · exact ⟨_, e, h⟩

theorem low_take {os : Sn} {i : Nat} (h : i < os.length) (f : Int) : lowQ (os.take (i + 1)) f = (lowQ (os.take i) f || match os[i] with | some s => decide (s < f) | none => false) := by
  unfold lowQ
  rw [List.take_succ_eq_append_getElem h, List.any_append]
  simp only [List.any_cons, List.any_nil, Bool.or_false]

theorem count_take {os : Sn} {i : Nat} (h : i < os.length) : countQ (os.take (i + 1)) = countQ (os.take i) + if (os[i]).isSome then 1 else 0 := by
  unfold countQ
  rw [List.take_succ_eq_append_getElem h, List.countP_append, List.countP_cons, List.countP_nil]
  simp

theorem count_open (os : Sn) (x : Int) : countQ (os ++ [some x]) = countQ os + 1 := by
  unfold countQ
  rw [List.countP_append]
  rfl

theorem count_le (os : Sn) : countQ os ≤ os.length := List.countP_le_length

theorem countQ_set : ∀ (os : Sn) (i : Nat) (h : i < os.length), countQ (os.set i none) + (if (os[i]).isSome then 1 else 0) = countQ os
  | o :: os, 0, _ => by
    unfold countQ
    rw [List.set_cons_zero, List.countP_cons, List.countP_cons]
    cases o <;> simp
  | o :: os, i + 1, h => by
    have := countQ_set os i (by simpa using h)
    unfold countQ at this ⊢
    rw [List.set_cons_succ, List.countP_cons, List.countP_cons, List.getElem_cons_succ]
    omega

theorem count_close (os : Sn) (x : Int) : countQ (closeQ os x) + (if (atQ os x).isSome then 1 else 0) = countQ os := by
  cases hq : atQ os x with
  | none => rw [closeQ_same hq]; simp
  | some s =>
    have h1 : 1 ≤ x := Classical.byContradiction fun h => by unfold atQ at hq; rw [if_neg h] at hq; cases hq
    have h2 : (x - 1).toNat < os.length := Classical.byContradiction fun h => by
      unfold atQ at hq
      rw [if_pos h1, List.getElem?_eq_none (by omega)] at hq
      cases hq
    have h3 : os[(x - 1).toNat] = some s := by
      unfold atQ at hq
      rw [if_pos h1, List.getElem?_eq_getElem h2] at hq
      exact hq
    have := countQ_set os (x - 1).toNat h2
    rw [h3] at this
    unfold closeQ
    rw [if_pos h1]
    exact this

/-- What holds of a registry at every moment: no open snapshot is below the floor. -/
def OkQ (os : Sn) (fl : Int) : Prop := (0 ≤ fl ∧ fl ≤ 18446744073709551615) ∧ ∀ s, some s ∈ os → fl ≤ s ∧ s ≤ 18446744073709551615

theorem okQ_nil : OkQ [] 0 := ⟨⟨by decide, by decide⟩, fun s h => by cases h⟩

theorem mem_close {os : Sn} {x s : Int} (h : some s ∈ closeQ os x) : some s ∈ os := by
  unfold closeQ at h
  split at h
  · rcases List.mem_or_eq_of_mem_set h with h | h
    · exact h
    · cases h
  · exact h

theorem okQ_open {os : Sn} {fl x : Int} (h : OkQ os fl) (hx : 0 ≤ x ∧ x ≤ 18446744073709551615) : OkQ (openQ os fl x).2 fl := by
  unfold openQ
  split
  · exact h
  · next k =>
    refine ⟨h.1, fun s hs => ?_⟩
    rcases List.mem_append.1 hs with hs | hs
    · exact h.2 s hs
    · rw [List.mem_singleton] at hs
      injection hs with hs
      subst hs
      exact ⟨by omega, hx.2⟩

theorem okQ_close {os : Sn} {fl : Int} (h : OkQ os fl) (x : Int) : OkQ (closeQ os x) fl := ⟨h.1, fun s hs => h.2 s (mem_close hs)⟩

theorem okQ_raise {os : Sn} {fl f : Int} (h : OkQ os fl) (hf : 0 ≤ f ∧ f ≤ 18446744073709551615) : OkQ os (raiseQ os fl f).2 := by
  unfold raiseQ
  split
  · exact h
  · split
    · exact h
    · next k =>
      refine ⟨hf, fun s hs => ⟨?_, (h.2 s hs).2⟩⟩
      apply Classical.byContradiction
      intro hn
      exact k ((low_iff os f).2 ⟨s, hs, by omega⟩)

theorem raise_ge (os : Sn) (fl f : Int) : fl ≤ (raiseQ os fl f).2 := by
  unfold raiseQ
  split
  · exact Int.le_refl _
  · split
    · exact Int.le_refl _
    · next k _ => show fl ≤ f; omega

theorem least_ok {os : Sn} {fl now : Int} (h : OkQ os fl) (hn : fl ≤ now) : fl ≤ leastQ os now := by
  rcases least_is os now with e | e
  · omega
  · exact (h.2 _ e).1

theorem raise_least {os : Sn} {fl now : Int} : raiseQ os fl (leastQ os now) = if leastQ os now < fl then (8, fl) else (0, leastQ os now) := by
  unfold raiseQ
  split
  · rfl
  · rw [if_neg]
    intro h
    obtain ⟨s, hs, k⟩ := (low_iff _ _).1 h
    have := least_open hs now
    omega

end Go.Proofs.Ytkiandchgbldbaa
