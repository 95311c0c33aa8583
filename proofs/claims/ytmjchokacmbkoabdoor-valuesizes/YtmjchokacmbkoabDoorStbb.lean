/-
  The plain mathematics of a symmetric merge.
-/
import Derived.Test.YtmjchokacmbkoabDoorStba
namespace Go.Proofs.YtmjchokacmbkoabDoor
open Go.Sort
set_option linter.unusedSectionVars false
variable {α : Type} [Inhabited α] {κ : Type} [DecidableEq κ]

/-- What a merge of the part a to b leaves. -/
def Mrg (lt : α → α → Bool) (K : α → κ) (a b : Nat) (d d' : Array α) : Prop := PermIn a b d d' ∧ SortedIn lt a b d' ∧ Stab K d d'

theorem SWO.le_le {lt : α → α → Bool} (hS : SWO lt) {x y z : α} (h1 : lt y x = false) (h2 : lt z y = false) : lt z x = false := hS.ntrans _ _ _ h2 h1

theorem SWO.lt_le {lt : α → α → Bool} (hS : SWO lt) {x y z : α} (h1 : lt x y = true) (h2 : lt z y = false) : lt x z = true := by
  cases h : lt x z
  · exact absurd (hS.ntrans _ _ _ h h2) (by rw [h1]; simp)
  · rfl

theorem SWO.le_lt {lt : α → α → Bool} (hS : SWO lt) {x y z : α} (h1 : lt y x = false) (h2 : lt y z = true) : lt x z = true := by
  cases h : lt x z
  · exact absurd (hS.ntrans _ _ _ h1 h) (by rw [h2]; simp)
  · rfl

theorem SortedIn.le {lt : α → α → Bool} (hS : SWO lt) {a b : Nat} {d : Array α} (h : SortedIn lt a b d) {i j : Nat} (h1 : a ≤ i) (h2 : i ≤ j) (h3 : j < b) : lt d[j]! d[i]! = false := by
  rcases Nat.eq_or_lt_of_le h2 with rfl | h4
  · exact hS.irrefl _
  · exact h i j h1 h4 h3

/-- One step of the first shift: the element of place a has come to place k. -/
theorem Rot.shift_up {a k : Nat} {d dk : Array α} (h : Rot a (a + 1) (k + 1) d dk) (hak : a ≤ k) (hk : k + 1 < d.size) : Rot a (a + 1) (k + 2) d (swp dk k (k + 1)) := by
  obtain ⟨h1, h2, h3, h4⟩ := h
  refine ⟨by rw [size_swp, h1], fun t ht => ?_, fun t ht => ?_, fun i hi => ?_⟩
  · by_cases hlt : t < k + 1 - (a + 1)
    · rw [swp_other _ _ _ _ (by omega) (by omega)]; exact h2 t hlt
    · rw [show a + t = k by omega, swp_left _ _ _ (by omega) (by omega), h4 _ (Or.inr (by omega))]; congr 1; omega
  · obtain rfl : t = 0 := by omega
    rw [show a + (k + 2 - (a + 1)) + 0 = k + 1 by omega, swp_right _ _ _ (by omega)]
    have := h3 0 (by omega)
    rw [show a + (k + 1 - (a + 1)) + 0 = k by omega] at this
    exact this
  · rw [swp_other _ _ _ _ (by omega) (by omega)]; exact h4 _ (by omega)

/-- One step of the second shift: the element of place m has come to place k + 1. -/
theorem Rot.shift_down {k m : Nat} {d dk : Array α} (h : Rot (k + 1) m (m + 1) d dk) (hkm : k + 1 ≤ m) (hm : m < d.size) : Rot k m (m + 1) d (swp dk (k + 1) k) := by
  obtain ⟨h1, h2, h3, h4⟩ := h
  refine ⟨by rw [size_swp, h1], fun t ht => ?_, fun t ht => ?_, fun i hi => ?_⟩
  · obtain rfl : t = 0 := by omega
    show (swp dk (k + 1) k)[k]! = d[m + 0]!
    rw [swp_right _ _ _ (by omega)]
    exact h2 0 (by omega)
  · by_cases h0 : t = 0
    · subst h0
      rw [show k + (m + 1 - m) + 0 = k + 1 by omega, swp_left _ _ _ (by omega) (by omega), h4 _ (Or.inl (by omega)), Nat.add_zero]
    · rw [swp_other _ _ _ _ (by omega) (by omega)]
      have := h3 (t - 1) (by omega)
      rw [show k + 1 + (m + 1 - m) + (t - 1) = k + (m + 1 - m) + t by omega] at this
      rw [this]; congr 1; omega
  · rw [swp_other _ _ _ _ (by omega) (by omega)]; exact h4 _ (by omega)

theorem rot_none (s m : Nat) (d : Array α) : Rot s m m d d := by
  refine ⟨rfl, fun t ht => by omega, fun t _ => by rw [show s + (m - m) + t = s + t by omega], fun _ _ => rfl⟩

theorem rot_none' (m e : Nat) (d : Array α) : Rot m m e d d := by
  refine ⟨rfl, fun t _ => rfl, fun t ht => by omega, fun _ _ => rfl⟩

/-- What the four parts of a rotation hold. -/
theorem Rot.at1 {s m e : Nat} {d d' : Array α} (h : Rot s m e d d') {p : Nat} (h1 : s ≤ p) (h2 : p < s + (e - m)) : d'[p]! = d[p + (m - s)]! ∨ m < s := by
  by_cases hms : m < s
  · exact Or.inr hms
  · left
    have := h.2.1 (p - s) (by omega)
    rw [show s + (p - s) = p by omega] at this
    rw [this]; congr 1; omega

theorem Rot.lo {s m e : Nat} {d d' : Array α} (h : Rot s m e d d') (hsm : s ≤ m) {p : Nat} (h1 : s ≤ p) (h2 : p < s + (e - m)) : d'[p]! = d[p + (m - s)]! := by
  rcases h.at1 h1 h2 with h | h
  · exact h
  · omega

theorem Rot.hi {s m e : Nat} {d d' : Array α} (h : Rot s m e d d') {p : Nat} (h1 : s + (e - m) ≤ p) (h2 : p < e) (hme : m ≤ e) : d'[p]! = d[p - (e - m)]! := by
  have := h.2.2.1 (p - (s + (e - m))) (by omega)
  rw [show s + (e - m) + (p - (s + (e - m))) = p by omega] at this
  rw [this]; congr 1; omega

theorem Rot.out {s m e : Nat} {d d' : Array α} (h : Rot s m e d d') {p : Nat} (h1 : p < s ∨ e ≤ p) : d'[p]! = d[p]! := h.2.2.2 p h1

/-- THE ROTATION OF A SYMMETRIC MERGE: all that lies in the lower half is no greater than what lies in the upper one. -/
theorem Rot.merge {lt : α → α → Bool} {K : α → κ} (hS : SWO lt) (hK : ∀ x y, lt x y = true → K x ≠ K y) {a s m e b : Nat} {d d1 : Array α} (h : Rot s m e d d1) (has : a ≤ s) (hsm : s ≤ m) (hme : m ≤ e) (heb : e ≤ b) (hb : b ≤ d.size)
    (hL : SortedIn lt a m d) (hR : SortedIn lt m b d)
    (hlow : a < s → e < b → lt d[e]! d[s - 1]! = false) (hhigh : s < m → m < e → lt d[e - 1]! d[s]! = true) :
    PermIn a b d d1 ∧ Stab K d d1 ∧ SortedIn lt a s d1 ∧ SortedIn lt s (s + (e - m)) d1 ∧ SortedIn lt (s + (e - m)) e d1 ∧ SortedIn lt e b d1 ∧
      (∀ p q, a ≤ p → p < s + (e - m) → s + (e - m) ≤ q → q < b → lt d1[q]! d1[p]! = false) := by
  have hx : ∀ i j, s ≤ i → i < m → m ≤ j → j < e → lt d[j]! d[i]! = true := fun i j h1 h2 h3 h4 => by
    have t := hhigh (by omega) (by omega)
    exact SWO.lt_le hS (SWO.le_lt hS (SortedIn.le hS hR h3 (show j ≤ e - 1 by omega) (by omega)) t) (SortedIn.le hS hL has h1 h2)
  have hy : ∀ i j, a ≤ i → i < s → e ≤ j → j < b → lt d[j]! d[i]! = false := fun i j h1 h2 h3 h4 => by
    have t := hlow (by omega) (by omega)
    exact SWO.le_le hS (SWO.le_le hS (SortedIn.le hS hL h1 (show i ≤ s - 1 by omega) (by omega)) t) (SortedIn.le hS hR hme h3 h4)
  refine ⟨permIn_mono _ _ _ _ _ _ has heb hb (h.perm hsm hme (by omega)), h.stab hsm hme (by omega) (fun i j h1 h2 h3 h4 e => hK _ _ (hx i j h1 h2 h3 h4) e.symm), fun i j h1 h2 h3 => ?_, fun i j h1 h2 h3 => ?_, fun i j h1 h2 h3 => ?_, fun i j h1 h2 h3 => ?_, fun p q h1 h2 h3 h4 => ?_⟩
  · rw [h.out (Or.inl (by omega)), h.out (Or.inl (by omega))]; exact hL i j h1 h2 (by omega)
  · rw [h.lo hsm (by omega) (by omega), h.lo hsm (by omega) (by omega)]; exact hR _ _ (by omega) (by omega) (by omega)
  · rw [h.hi (by omega) (by omega) hme, h.hi (by omega) (by omega) hme]; exact hL _ _ (by omega) (by omega) (by omega)
  · rw [h.out (Or.inr (by omega)), h.out (Or.inr (by omega))]; exact hR i j (by omega) h2 (by omega)
  · by_cases c1 : p < s
    · rw [h.out (p := p) (Or.inl c1)]
      by_cases c2 : q < e
      · rw [h.hi h3 c2 hme]; exact SortedIn.le hS hL h1 (by omega) (by omega)
      · rw [h.out (Or.inr (by omega))]; exact hy p q h1 c1 (by omega) h4
    · rw [h.lo (p := p) hsm (by omega) h2]
      by_cases c2 : q < e
      · rw [h.hi h3 c2 hme]; exact SWO.asymmA hS (hx _ _ (by omega) (by omega) (by omega) (by omega))
      · rw [h.out (Or.inr (by omega))]; exact SortedIn.le hS hR (by omega) (by omega) h4

/-- THE MERGE IS DONE: both halves are sorted, and nothing in the upper one is less than what is in the lower one. -/
theorem sorted_halves {lt : α → α → Bool} {a c b : Nat} {d1 d2 d3 : Array α} (hac : a ≤ c) (hcb : c ≤ b) (hb : b ≤ d1.size)
    (hX : ∀ p q, a ≤ p → p < c → c ≤ q → q < b → lt d1[q]! d1[p]! = false) (p2 : PermIn a c d1 d2) (s2 : SortedIn lt a c d2) (p3 : PermIn c b d2 d3) (s3 : SortedIn lt c b d3) :
    PermIn a b d1 d3 ∧ SortedIn lt a b d3 := by
  have z2 := p2.1
  have hX2 : ∀ q, c ≤ q → q < b → ∀ p, a ≤ p → p < c → lt d2[q]! d2[p]! = false := fun q h1 h2 => by
    rw [p2.2.1 q (Or.inr h1)]
    exact permIn_all d1 d2 a c (fun x => lt d1[q]! x = false) (by omega) p2 (fun p h3 h4 => hX p q h3 h4 h1 h2)
  have hX3 : ∀ p, a ≤ p → p < c → ∀ q, c ≤ q → q < b → lt d3[q]! d3[p]! = false := fun p h1 h2 => by
    rw [p3.2.1 p (Or.inl h2)]
    exact permIn_all d2 d3 c b (fun x => lt x d2[p]! = false) (by omega) p3 (fun q h3 h4 => hX2 q h3 h4 p h1 h2)
  refine ⟨permIn_trans _ _ _ _ _ (permIn_mono _ _ _ _ _ _ (Nat.le_refl _) hcb hb p2) (permIn_mono _ _ _ _ _ _ hac (Nat.le_refl _) (by omega) p3), fun i j h1 h2 h3 => ?_⟩
  by_cases c1 : i < c
  · by_cases c2 : j < c
    · rw [p3.2.1 i (Or.inl c1), p3.2.1 j (Or.inl c2)]; exact s2 i j h1 h2 c2
    · exact hX3 i h1 c1 j (by omega) h3
  · exact s3 i j (by omega) h2 h3

/-- The whole of a merge's general step. -/
theorem Mrg.of_rot {lt : α → α → Bool} {K : α → κ} (hS : SWO lt) (hK : ∀ x y, lt x y = true → K x ≠ K y) {a s m e b : Nat} {d d1 d2 d3 : Array α} (h : Rot s m e d d1) (has : a ≤ s) (hsm : s ≤ m) (hme : m ≤ e) (heb : e ≤ b) (hb : b ≤ d.size)
    (hL : SortedIn lt a m d) (hR : SortedIn lt m b d) (hlow : a < s → e < b → lt d[e]! d[s - 1]! = false) (hhigh : s < m → m < e → lt d[e - 1]! d[s]! = true)
    (m2 : Mrg lt K a (s + (e - m)) d1 d2) (m3 : Mrg lt K (s + (e - m)) b d2 d3) : Mrg lt K a b d d3 := by
  obtain ⟨p1, st1, _, _, _, _, hX⟩ := h.merge (K := K) hS hK has hsm hme heb hb hL hR hlow hhigh
  obtain ⟨p2, s2, st2⟩ := m2
  obtain ⟨p3, s3, st3⟩ := m3
  obtain ⟨p, s⟩ := sorted_halves (by omega) (by omega) (by rw [h.1]; exact hb) hX p2 s2 p3 s3
  exact ⟨permIn_trans _ _ _ _ _ p1 p, s, st1.trans (st2.trans st3)⟩

/-- A merge of parts one of which is empty, or that lie in order already, changes nothing. -/
theorem Mrg.none {lt : α → α → Bool} {K : α → κ} {a b : Nat} {d : Array α} (h : SortedIn lt a b d) : Mrg lt K a b d d := ⟨permIn_refl _ _ _, h, Stab.refl K d⟩

/-- The first small case: one element on the left. -/
theorem Mrg.one_left {lt : α → α → Bool} {K : α → κ} (hS : SWO lt) (hK : ∀ x y, lt x y = true → K x ≠ K y) {a i b : Nat} {d d' : Array α} (h : Rot a (a + 1) i d d') (hi : a + 1 ≤ i) (hib : i ≤ b) (hb : b ≤ d.size) (hR : SortedIn lt (a + 1) b d)
    (hlo : a + 1 < i → lt d[i - 1]! d[a]! = true) (hhi : i < b → lt d[i]! d[a]! = false) : Mrg lt K a b d d' := by
  have hL : SortedIn lt a (a + 1) d := fun i j h1 h2 h3 => by omega
  obtain ⟨p1, st1, _, s2, _, s4, hX⟩ := h.merge (K := K) hS hK (Nat.le_refl _) (by omega) hi hib hb hL hR (fun h => by omega) (fun _ h => hlo h)
  refine ⟨p1, fun p q h1 h2 h3 => ?_, st1⟩
  have e1 : a + (i - (a + 1)) = i - 1 := by omega
  rw [e1] at s2 hX
  by_cases c1 : p < i - 1
  · by_cases c2 : q < i - 1
    · exact s2 p q h1 h2 c2
    · exact hX p q h1 c1 (by omega) h3
  · by_cases c3 : p = i - 1
    · rw [h.out (p := q) (Or.inr (by omega)), h.hi (p := p) (by omega) (by omega) hi, show p - (i - (a + 1)) = a by omega]
      exact SWO.le_le hS (hhi (by omega)) (SortedIn.le hS hR (by omega) (show i ≤ q by omega) h3)
    · exact s4 p q (by omega) h2 h3

/-- The second small case: one element on the right. -/
theorem Mrg.one_right {lt : α → α → Bool} {K : α → κ} (hS : SWO lt) (hK : ∀ x y, lt x y = true → K x ≠ K y) {a i m : Nat} {d d' : Array α} (h : Rot i m (m + 1) d d') (hai : a ≤ i) (him : i ≤ m) (hb : m + 1 ≤ d.size) (hL : SortedIn lt a m d)
    (hlo : a < i → lt d[m]! d[i - 1]! = false) (hhi : i < m → lt d[m]! d[i]! = true) : Mrg lt K a (m + 1) d d' := by
  have hR : SortedIn lt m (m + 1) d := fun i j h1 h2 h3 => by omega
  obtain ⟨p1, st1, s1, _, s3, _, hX⟩ := h.merge (K := K) hS hK hai him (by omega) (Nat.le_refl _) hb hL hR (fun _ h => by omega) (fun h _ => by rw [show m + 1 - 1 = m by omega]; exact hhi h)
  rw [show i + (m + 1 - m) = i + 1 by omega] at s3 hX
  refine ⟨p1, fun p q h1 h2 h3 => ?_, st1⟩
  by_cases c1 : i + 1 ≤ q
  · by_cases c2 : i + 1 ≤ p
    · exact s3 p q c2 h2 h3
    · exact hX p q h1 (by omega) c1 h3
  · by_cases c3 : q = i
    · rw [h.lo (p := q) him (by omega) (by omega), h.out (p := p) (Or.inl (by omega)), show q + (m - i) = m by omega]
      exact SWO.le_le hS (SortedIn.le hS hL h1 (show p ≤ i - 1 by omega) (by omega)) (hlo (by omega))
    · exact s1 p q h1 h2 (by omega)

end Go.Proofs.YtmjchokacmbkoabDoor
