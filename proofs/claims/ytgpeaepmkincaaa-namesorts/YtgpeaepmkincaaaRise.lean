/-
  Lists of keys that rise: one for each set of keys.
-/
import Derived.Test.YtgpeaepmkincaaaSortz
import Derived.Lib.SlicesCompact
namespace Go.Proofs.Ytgpeaepmkincaaa
open Go.Lib Go.Sort

/-- x stands ahead of y. -/
def ahead (x y : ByteArray × ByteArray) : Prop := cmpK x y < 0

theorem ahead_iff (x y : ByteArray × ByteArray) : ltOf cmpK x y = true ↔ ahead x y := by
  unfold ltOf ahead; rw [decide_eq_true_iff]
theorem ahead_irrefl (x : ByteArray × ByteArray) : ¬ ahead x x := by
  unfold ahead cmpK; rw [cmpI_eq, (cmpL_zero _ _ _ _).2 ⟨rfl, rfl⟩]; omega
theorem ahead_trans {x y z : ByteArray × ByteArray} (h1 : ahead x y) (h2 : ahead y z) : ahead x z := cmpL_lt_trans _ _ _ _ _ _ h1 h2
theorem ahead_total (x y : ByteArray × ByteArray) : ahead x y ∨ x = y ∨ ahead y x := by
  have hn : cmpK y x = - cmpK x y := cmpL_neg _ _ _ _
  have hr : cmpK x y = -1 ∨ cmpK x y = 0 ∨ cmpK x y = 1 := cmpL_range _ _ _ _
  rcases hr with h | h | h
  · left; unfold ahead; omega
  · right; left
    obtain ⟨h1, h2⟩ := (cmpL_zero _ _ _ _).1 h
    obtain ⟨⟨⟨a⟩⟩, ⟨⟨b⟩⟩⟩ := x
    obtain ⟨⟨⟨c⟩⟩, ⟨⟨d⟩⟩⟩ := y
    simp at h1 h2
    rw [h1, h2]
  · right; right; unfold ahead; omega

def Rises (r : List (ByteArray × ByteArray)) : Prop := r.Pairwise ahead

theorem rises_uniq {r s : List (ByteArray × ByteArray)} (hr : Rises r) (hs : Rises s) (h : ∀ x, x ∈ r ↔ x ∈ s) : r = s := by
  induction r generalizing s with
  | nil =>
    cases s with
    | nil => rfl
    | cons y s => exact absurd ((h y).2 (List.mem_cons_self ..)) (by simp)
  | cons x r ih =>
    cases s with
    | nil => exact absurd ((h x).1 (List.mem_cons_self ..)) (by simp)
    | cons y s =>
      obtain ⟨hx, hr'⟩ := List.pairwise_cons.1 hr
      obtain ⟨hy, hs'⟩ := List.pairwise_cons.1 hs
      have hxy : x = y := by
        rcases List.mem_cons.1 ((h x).1 (List.mem_cons_self ..)) with e | e
        · exact e
        · rcases List.mem_cons.1 ((h y).2 (List.mem_cons_self ..)) with e' | e'
          · exact e'.symm
          · exact absurd (ahead_trans (hx y e') (hy x e)) (ahead_irrefl x)
      subst hxy
      rw [ih hr' hs' fun z => ?_]
      constructor
      · intro hz
        rcases List.mem_cons.1 ((h z).1 (List.mem_cons_of_mem _ hz)) with e | e
        · exact absurd (hx z hz) (by rw [e]; exact ahead_irrefl _)
        · exact e
      · intro hz
        rcases List.mem_cons.1 ((h z).2 (List.mem_cons_of_mem _ hz)) with e | e
        · exact absurd (hy z hz) (by rw [e]; exact ahead_irrefl _)
        · exact e

theorem compact_rises (d : Array (ByteArray × ByteArray)) (n : Nat) (hs : SortedIn (ltOf cmpK) 0 n d) : ∀ m, m ≤ n →
    Rises (compactUpTo d m) ∧ (∀ x, x ∈ compactUpTo d m → ∃ j, j < m ∧ x = d[j]!) ∧ (∀ j, j < m → d[j]! ∈ compactUpTo d m) := by
  intro m
  induction m with
  | zero => intro _; exact ⟨List.Pairwise.nil, fun x hx => by simp [compactUpTo] at hx, fun j hj => by omega⟩
  | succ m ih =>
    intro hm
    obtain ⟨h1, h2, h3⟩ := ih (by omega)
    rw [compactUpTo_succ]
    have notlt : ∀ i, i < m → ahead d[i]! d[m]! ∨ d[i]! = d[m]! := by
      intro i hi
      have := hs i m (Nat.zero_le _) hi (by omega)
      rcases ahead_total d[i]! d[m]! with h | h | h
      · exact .inl h
      · exact .inr h
      · rw [(ahead_iff _ _).2 h] at this; cases this
    by_cases hk : keeps d m = true
    · rw [if_pos hk]
      refine ⟨?_, ?_, ?_⟩
      · refine List.pairwise_append.2 ⟨h1, List.pairwise_singleton _ _, fun x hx y hy => ?_⟩
        rw [List.mem_singleton] at hy
        subst hy
        obtain ⟨j, hj, rfl⟩ := h2 x hx
        have hne : d[m]! ≠ d[m - 1]! := by
          have : m = 0 ∨ d[m]! ≠ d[m - 1]! := by simpa [keeps] using hk
          rcases this with h | h
          · omega
          · exact h
        have hlast : ahead d[m - 1]! d[m]! := by
          rcases notlt (m - 1) (by omega) with h | h
          · exact h
          · exact absurd h.symm hne
        by_cases hjm : j = m - 1
        · rw [hjm]; exact hlast
        · have := hs j (m - 1) (Nat.zero_le _) (by omega) (by omega)
          rcases ahead_total d[j]! d[m - 1]! with h | h | h
          · exact ahead_trans h hlast
          · rw [h]; exact hlast
          · rw [(ahead_iff _ _).2 h] at this; cases this
      · intro x hx
        rcases List.mem_append.1 hx with h | h
        · obtain ⟨j, hj, e⟩ := h2 x h
          exact ⟨j, by omega, e⟩
        · exact ⟨m, by omega, List.mem_singleton.1 h⟩
      · intro j hj
        by_cases hjm : j = m
        · subst hjm; exact List.mem_append_right _ (List.mem_singleton.2 rfl)
        · exact List.mem_append_left _ (h3 j (by omega))
    · have hk' : keeps d m = false := by simpa using hk
      rw [if_neg hk, List.append_nil]
      refine ⟨h1, fun x hx => ?_, fun j hj => ?_⟩
      · obtain ⟨j, hj, e⟩ := h2 x hx
        exact ⟨j, by omega, e⟩
      · by_cases hjm : j = m
        · subst hjm
          have : j ≠ 0 ∧ d[j]! = d[j - 1]! := by simpa [keeps] using hk'
          rw [this.2]
          exact h3 (j - 1) (by have := this.1; omega)
        · exact h3 j (by omega)

/-- What sorting and compacting makes of a list: it rises, and holds the same keys. -/
theorem sorted_compact (l : List (ByteArray × ByteArray)) (d : Array (ByteArray × ByteArray)) (hp : PermIn 0 l.length l.toArray d) (hs : SortedIn (ltOf cmpK) 0 l.length d) :
    Rises (compact d.toList) ∧ (∀ x, x ∈ compact d.toList ↔ x ∈ l) ∧ d.size = l.length := by
  obtain ⟨h1, _, h3⟩ := hp
  have hsz : d.size = l.length := by simpa using h1
  have hperm : d.toList.Perm l := by
    have e1 : (d.extract 0 l.length).toList = d.toList := by rw [← hsz]; simp
    have e2 : (l.toArray.extract 0 l.length).toList = l := by simp
    rw [e1, e2] at h3
    exact h3
  have hd : d.toList.toArray = d := by simp
  obtain ⟨r1, r2, r3⟩ := compact_rises d l.length hs l.length (Nat.le_refl _)
  have e : compact d.toList = compactUpTo d l.length := by
    unfold compact
    rw [hd, Array.length_toList, hsz]
  rw [e]
  refine ⟨r1, fun x => ?_, hsz⟩
  rw [← hperm.mem_iff]
  constructor
  · intro hx
    obtain ⟨j, hj, rfl⟩ := r2 x hx
    rw [getElem!_pos d j (by omega)]
    exact Array.getElem_mem_toList ..
  · intro hx
    obtain ⟨j, hj, rfl⟩ := List.mem_iff_getElem.1 hx
    have hj' : j < d.size := by simpa using hj
    have := r3 j (by omega)
    rw [getElem!_pos d j hj'] at this
    simpa using this

end Go.Proofs.Ytgpeaepmkincaaa
