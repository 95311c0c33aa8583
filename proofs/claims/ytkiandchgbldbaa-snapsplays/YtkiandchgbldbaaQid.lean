/-
  SnapsIDs (stage 10): the registry beside a row of one's own.
-/
import Derived.Test.YtkiandchgbldbaaQfl
namespace Go.Proofs.Ytkiandchgbldbaa
open Go.RowKit

/-- The program's registry, and a row of one's own beside it. -/
def Sid {α : Type} (K : Kind α) (n0 g : Nat) (os : Sn) (fl : Int) (d : List α) (v : Value) (W : World) : Prop :=
  n0 ≤ W.heap.size ∧ ∃ C, OneV n0 W C g os fl W ∧ (∀ k, C k → n0 ≤ k ∧ k < W.heap.size) ∧ K.Own n0 W v d ∧ ∀ k, v.ownBlock = some k → ¬ C k

theorem Sid.of {α : Type} {K : Kind α} {n0 g : Nat} {V : World} {C : Nat → Prop} {os' : Sn} {fl' : Int} {d : List α} {v : Value} {W : World} (t : OneV n0 V C g os' fl' W) (hn : n0 ≤ V.heap.size) (ho : K.Own n0 V v d) (hd : ∀ k, v.ownBlock = some k → ¬ C k) : Sid K n0 g os' fl' d v W := by
  obtain ⟨C', h1, h2, h3, h4⟩ := t.rebase
  refine ⟨Nat.le_trans hn h4.size, C', h1, h2, h4.row ho hd, fun k hk hc => ?_⟩
  rcases h3 k hc with h5 | h5
  · exact hd k hk h5
  · have := (World.ownsRow.lt ho k hk).2
    omega

theorem OneV.fresh {n0 : Nat} {C : Nat → Prop} {g : Nat} {os : Sn} {fl : Int} {W w2 : World} {P : Nat → Prop} (h : OneV n0 W C g os fl W) (f : Fr P W w2) (hP : ∀ k, P k → ¬ C k) : OneV n0 w2 C g os fl w2 := by
  obtain ⟨B, q1, q2, q3⟩ := h
  have hBC : ∀ k, B k → C k := fun k hk => by
    rcases q3 k hk with h6 | h6
    · exact h6
    · have := (q1.blk k hk).2
      omega
  exact ⟨B, q1.fr f fun k hk hv => hP k hv (hBC k hk), Fr.refl _ _, fun k hk => Or.inl (hBC k hk)⟩

theorem Sid.push {α : Type} {K : Kind α} {n0 g : Nat} {os : Sn} {fl : Int} {d d' : List α} {v v' : Value} {W w2 : World} (h : Sid K n0 g os fl d v W) {o : Obj} (hg : (W.alloc o).grownBy w2 v.ownBlock) (ho : K.Own n0 w2 v' d') (hat : v'.ownBlock = v.ownBlock ∨ ∃ k, v'.ownBlock = some k ∧ W.heap.size ≤ k) :
    Sid K n0 g os fl d' v' w2 ∧ Below n0 W w2 := by
  obtain ⟨hn, C, h1, h2, h3, h4⟩ := h
  have hb : Below W.heap.size W (W.alloc o) := (Below.refl _ _).alloc (Nat.le_refl _) _
  have hlv : ∀ k, v.ownBlock = some k → n0 ≤ k ∧ k < W.heap.size := fun k hk => World.ownsRow.lt h3 k hk
  have f2 : Fr (fun k => v.ownBlock = some k) W w2 := (Fr.of_below (P := fun k => v.ownBlock = some k) hb).then (Fr.of_grown (P := fun k => v.ownBlock = some k) hg fun k hk => hk) fun k hk => Or.inl hk
  refine ⟨⟨Nat.le_trans hn f2.size, C, h1.fresh f2 h4, fun k hk => ?_, ho, fun k hk hc => ?_⟩, f2.below hn fun k hk => (hlv k hk).1⟩
  · have := h2 k hk
    have := f2.size
    omega
  · rcases hat with e | ⟨k', e, hk'⟩
    · exact h4 k (by rw [← e]; exact hk) hc
    · rw [hk] at e
      injection e with e
      have := (h2 k hc).2
      omega

theorem Sid.put {α : Type} {K : Kind α} (hk1 : K.k = 1) {n0 g : Nat} {os : Sn} {fl : Int} {d : List α} {b n c : Nat} {W : World} (h : Sid K n0 g os fl d (.slice (some ⟨b, 0, none⟩) n c) W) (hn : d.length = n) (i : Nat) (hi : i < d.length) (x : α) (a : Value) (he : K.enc x = [a]) :
    Sid K n0 g os fl (d.set i x) (.slice (some ⟨b, 0, none⟩) n c) (W.setCell ⟨b, i, none⟩ a) ∧ Below n0 W (W.setCell ⟨b, i, none⟩ a) := by
  obtain ⟨hn0, C, h1, h2, h3, h4⟩ := h
  have f2 : Fr (fun k => k = b) W (W.setCell ⟨b, i, none⟩ a) := ⟨rfl, rfl, rfl, by simp, fun k _ hk => heap_setCell_other W _ k _ hk⟩
  refine ⟨⟨Nat.le_trans hn0 f2.size, C, h1.fresh f2 fun k hk => h4 k (by rw [hk]; rfl), fun k hk => ?_, Kind.own_put1 hk1 h3 hn i hi x a he, h4⟩, f2.below hn0 fun k hk => ?_⟩
  · have := h2 k hk
    have := f2.size
    omega
  · rw [hk]
    exact (World.ownsRow.lt h3 b rfl).1

def opQ (os : Sn) : List Bool := os.map Option.isSome
theorem opQ_len (os : Sn) : (opQ os).length = os.length := by simp [opQ]
theorem opQ_get (os : Sn) (i : Nat) (h : i < (opQ os).length) : (opQ os)[i] = (os[i]'(by rw [opQ_len] at h; exact h)).isSome := by simp [opQ]
theorem opQ_snoc (os : Sn) (x : Int) : opQ (os ++ [some x]) = opQ os ++ [true] := by simp [opQ]
theorem opQ_close (os : Sn) (i : Nat) : opQ (closeQ os ((i : Int) + 1)) = (opQ os).set i false := by
  unfold closeQ opQ
  rw [if_pos (by omega), show ((i : Int) + 1 - 1).toNat = i by omega, List.map_set]
  rfl

/-- What is open has the stamp that it was opened with. -/
def FromQ (st : List Int) (os : Sn) : Prop := ∀ (j : Nat) (s : Int), os[j]? = some (some s) → st[j]? = some s

theorem from_close {st : List Int} {os : Sn} (h : FromQ st os) (x : Int) : FromQ st (closeQ os x) := fun j s hj => by
  unfold closeQ at hj
  split at hj
  · rw [List.getElem?_set] at hj
    split at hj
    · split at hj
      · cases hj
      · cases hj
    · exact h j s hj
  · exact h j s hj
theorem from_open {st : List Int} {os : Sn} (h : FromQ st os) {s : Int} (hs : st[os.length]? = some s) : FromQ st (os ++ [some s]) := fun j x hj => by
  rw [List.getElem?_append] at hj
  split at hj
  · exact h j x hj
  · have hl : j < (os ++ [some s]).length := by
      rcases Nat.lt_or_ge (j - os.length) 1 with h1 | h1
      · rw [List.length_append]; show j < os.length + 1; omega
      · rw [List.getElem?_eq_none (by simpa using h1)] at hj; cases hj
    rw [List.length_append] at hl
    have e : j = os.length := by
      have : j < os.length + 1 := hl
      omega
    subst e
    simp at hj
    rw [← hj]
    exact hs

end Go.Proofs.Ytkiandchgbldbaa
