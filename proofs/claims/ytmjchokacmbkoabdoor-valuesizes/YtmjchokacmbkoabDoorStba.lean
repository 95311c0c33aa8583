/-
  The plain mathematics of a stable sort: parts that change places, and equals that keep their order.
-/
import Derived.Sort.LotA
namespace Go.Proofs.YtmjchokacmbkoabDoor
open Go.Sort
set_option linter.unusedSectionVars false
variable {α : Type} [Inhabited α] {κ : Type} [DecidableEq κ]

/-- Equals keep their order. -/
def Stab (K : α → κ) (d d' : Array α) : Prop := ∀ c, d'.toList.filter (fun x => decide (K x = c)) = d.toList.filter (fun x => decide (K x = c))

theorem Stab.refl (K : α → κ) (d : Array α) : Stab K d d := fun _ => rfl
theorem Stab.trans {K : α → κ} {d d' d'' : Array α} (h : Stab K d d') (h' : Stab K d' d'') : Stab K d d'' := fun c => (h' c).trans (h c)

/-- The parts s to m and m to e have changed places. -/
def Rot (s m e : Nat) (d d' : Array α) : Prop :=
  d'.size = d.size ∧ (∀ t, t < e - m → d'[s + t]! = d[m + t]!) ∧ (∀ t, t < m - s → d'[s + (e - m) + t]! = d[s + t]!) ∧ (∀ i, i < s ∨ e ≤ i → d'[i]! = d[i]!)

theorem toList_range (d : Array α) : d.toList = (List.range' 0 d.size).map (fun i => d[i]!) := by
  have h := extract_toList d 0 d.size (Nat.le_refl _)
  rw [Array.extract_size, Nat.sub_zero] at h
  exact h

theorem range'_cut (s k l : Nat) : List.range' s (k + l) = List.range' s k ++ List.range' (s + k) l := by
  rw [← List.range'_append_1]

theorem map_range'_shift (f g : Nat → α) (s s' n : Nat) (h : ∀ t, t < n → f (s + t) = g (s' + t)) : (List.range' s n).map f = (List.range' s' n).map g := by
  apply List.ext_getElem
  · simp
  · intro i h1 h2
    simp only [List.length_map, List.length_range'] at h1
    simp only [List.getElem_map, List.getElem_range', Nat.one_mul]
    exact h i h1

theorem Rot.parts {s m e : Nat} {d d' : Array α} (h : Rot s m e d d') (hsm : s ≤ m) (hme : m ≤ e) (he : e ≤ d.size) :
    ∃ A L R B : List α, d.toList = A ++ L ++ R ++ B ∧ d'.toList = A ++ R ++ L ++ B ∧ L = (List.range' s (m - s)).map (fun i => d[i]!) ∧ R = (List.range' m (e - m)).map (fun i => d[i]!) := by
  obtain ⟨hz, h1, h2, h3⟩ := h
  refine ⟨(List.range' 0 s).map (fun i => d[i]!), _, _, (List.range' e (d.size - e)).map (fun i => d[i]!), ?_, ?_, rfl, rfl⟩
  · rw [toList_range]
    have e1 : d.size = s + (m - s) + (e - m) + (d.size - e) := by omega
    conv => lhs; rw [e1]
    rw [range'_cut, range'_cut, range'_cut]
    simp only [List.map_append]
    rw [show 0 + s = s by omega, show 0 + (s + (m - s)) = m by omega, show 0 + (s + (m - s) + (e - m)) = e by omega]
  · rw [toList_range, hz]
    have e1 : d.size = s + (e - m) + (m - s) + (d.size - e) := by omega
    conv => lhs; rw [e1]
    rw [range'_cut, range'_cut, range'_cut]
    simp only [List.map_append]
    rw [show 0 + s = s by omega, show 0 + (s + (e - m)) = s + (e - m) by omega, show 0 + (s + (e - m) + (m - s)) = e by omega]
    congr 1
    · congr 1
      · congr 1
        · exact map_range'_shift _ _ 0 0 s (fun t ht => h3 _ (Or.inl (by omega)))
        · exact map_range'_shift _ _ _ _ _ (fun t ht => h1 t ht)
      · exact map_range'_shift _ _ _ _ _ (fun t ht => h2 t ht)
    · exact map_range'_shift _ _ _ _ _ (fun t ht => h3 _ (Or.inr (by omega)))

theorem Rot.stab {K : α → κ} {s m e : Nat} {d d' : Array α} (h : Rot s m e d d') (hsm : s ≤ m) (hme : m ≤ e) (he : e ≤ d.size)
    (hK : ∀ i j, s ≤ i → i < m → m ≤ j → j < e → K d[i]! ≠ K d[j]!) : Stab K d d' := by
  obtain ⟨A, L, R, B, e1, e2, hL, hR⟩ := h.parts hsm hme he
  intro c
  rw [e1, e2]
  simp only [List.filter_append]
  have : L.filter (fun x => decide (K x = c)) = [] ∨ R.filter (fun x => decide (K x = c)) = [] := by
    rcases hl : L.filter (fun x => decide (K x = c)) with _ | ⟨x, l⟩
    · exact Or.inl rfl
    · right
      have hx : x ∈ L.filter (fun x => decide (K x = c)) := by rw [hl]; simp
      rw [List.filter_eq_nil_iff]
      intro y hy hyc
      simp only [decide_eq_true_eq] at hyc
      obtain ⟨hx1, hx2⟩ := List.mem_filter.1 hx
      simp only [decide_eq_true_eq] at hx2
      rw [hL, List.mem_map] at hx1
      rw [hR, List.mem_map] at hy
      obtain ⟨i, hi, rfl⟩ := hx1
      obtain ⟨j, hj, rfl⟩ := hy
      rw [List.mem_range'_1] at hi hj
      exact hK i j (by omega) (by omega) (by omega) (by omega) (hx2.trans hyc.symm)
  rcases this with h0 | h0 <;> rw [h0] <;> simp

theorem Rot.perm {s m e : Nat} {d d' : Array α} (h : Rot s m e d d') (hsm : s ≤ m) (hme : m ≤ e) (he : e ≤ d.size) : PermIn s e d d' := by
  obtain ⟨hz, h1, h2, h3⟩ := h
  refine ⟨hz, h3, ?_⟩
  rw [extract_toList _ _ _ (by omega), extract_toList _ _ _ he]
  have e1 : e - s = (m - s) + (e - m) := by omega
  have e2 : e - s = (e - m) + (m - s) := by omega
  conv => lhs; rw [e2]
  conv => rhs; rw [e1]
  rw [range'_cut, range'_cut]
  simp only [List.map_append]
  rw [map_range'_shift (fun i => d'[i]!) (fun i => d[i]!) s m (e - m) (fun t ht => h1 t ht), map_range'_shift (fun i => d'[i]!) (fun i => d[i]!) (s + (e - m)) s (m - s) (fun t ht => h2 t ht), show s + (m - s) = m by omega]
  exact List.perm_append_comm

/-- An exchange of neighbours is such a change of places. -/
theorem rot_swp (d : Array α) (j : Nat) (h : j + 1 < d.size) : Rot j (j + 1) (j + 2) d (swp d (j + 1) j) := by
  refine ⟨size_swp _ _ _, fun t ht => ?_, fun t ht => ?_, fun i hi => ?_⟩
  · obtain rfl : t = 0 := by omega
    exact swp_right d (j + 1) j (by omega)
  · obtain rfl : t = 0 := by omega
    rw [show j + (j + 2 - (j + 1)) + 0 = j + 1 by omega]
    exact swp_left d (j + 1) j h (by omega)
  · exact swp_other d (j + 1) j i (by omega) (by omega)

theorem swp_comm (d : Array α) (i j : Nat) : swp d i j = swp d j i := by
  rcases Nat.lt_trichotomy i j with h | h | h
  · unfold swp; rw [Array.setIfInBounds_comm _ _ (by omega)]
  · rw [h]
  · unfold swp; rw [Array.setIfInBounds_comm _ _ (by omega)]

/-- The insertion sort keeps the order of equals. -/
theorem insInner_stab {K : α → κ} {lt : α → α → Bool} (hK : ∀ x y, lt x y = true → K x ≠ K y) (a : Nat) : ∀ (j : Nat) (d : Array α), j < d.size → Stab K d (insInner lt a j d)
  | 0, d, _ => Stab.refl K d
  | j + 1, d, hj => by
    unfold insInner
    split
    · rename_i hc
      simp only [Bool.and_eq_true, decide_eq_true_eq] at hc
      refine Stab.trans ((rot_swp d j hj).stab (by omega) (by omega) (by omega) fun i i' h1 h2 h3 h4 => ?_) (insInner_stab hK a j _ (by rw [size_swp]; omega))
      obtain rfl : i = j := by omega
      obtain rfl : i' = i + 1 := by omega
      exact fun e => hK _ _ hc.2 e.symm
    · exact Stab.refl K d

theorem insInner_size {lt : α → α → Bool} (a : Nat) : ∀ (j : Nat) (d : Array α), (insInner lt a j d).size = d.size
  | 0, d => rfl
  | j + 1, d => by
    unfold insInner
    split
    · rw [insInner_size a j, size_swp]
    · rfl

theorem insOuter_stab {K : α → κ} {lt : α → α → Bool} (hK : ∀ x y, lt x y = true → K x ≠ K y) (a b : Nat) : ∀ (n i : Nat) (d : Array α), b - i ≤ n → b ≤ d.size → Stab K d (insOuter lt a b i d)
  | 0, i, d, hn, hb => by
    unfold insOuter
    rw [if_neg (by omega)]
    exact Stab.refl K d
  | n + 1, i, d, hn, hb => by
    unfold insOuter
    split
    · exact (insInner_stab hK a i d (by omega)).trans (insOuter_stab hK a b n (i + 1) _ (by omega) (by rw [insInner_size]; exact hb))
    · exact Stab.refl K d

theorem insertionSort_stab {K : α → κ} {lt : α → α → Bool} (hK : ∀ x y, lt x y = true → K x ≠ K y) (d : Array α) (a b : Nat) (hb : b ≤ d.size) : Stab K d (insertionSort lt d a b) :=
  insOuter_stab hK a b _ _ d (Nat.le_refl _) hb

/-- One step of the rotation, the left part longer. -/
theorem Rot.left {s m e j : Nat} {d dk d' : Array α} (hsm : s ≤ m) (hme : m ≤ e) (hj : j = e - m) (hij : j ≤ m - s) (hz : dk.size = d.size) (h1 : ∀ t, t < j → dk[s + t]! = d[m + t]!) (h2 : ∀ t, t < j → dk[m + t]! = d[s + t]!)
    (h3 : ∀ i, (i < s ∨ s + j ≤ i) → (i < m ∨ m + j ≤ i) → dk[i]! = d[i]!) (h : Rot (s + j) m e dk d') : Rot s m e d d' := by
  obtain ⟨k1, k2, k3, k4⟩ := h
  refine ⟨k1.trans hz, fun t ht => ?_, fun t ht => ?_, fun i hi => ?_⟩
  · rw [k4 _ (Or.inl (by omega))]; exact h1 t (by omega)
  · by_cases hlt : t < j
    · have := k2 t (by omega)
      rw [show s + (e - m) + t = s + j + t by omega, this]
      exact h2 t hlt
    · have := k3 (t - j) (by omega)
      rw [show s + (e - m) + t = s + j + (e - m) + (t - j) by omega, this, h3 _ (by omega) (by omega)]
      congr 1; omega
  · rw [k4 _ (by omega), h3 _ (by omega) (by omega)]

/-- One step of the rotation, the right part longer. -/
theorem Rot.right {s m e i : Nat} {d dk d' : Array α} (hsm : s ≤ m) (hme : m ≤ e) (hi : i = m - s) (hij : i ≤ e - m) (hz : dk.size = d.size) (h1 : ∀ t, t < i → dk[s + t]! = d[e - i + t]!) (h2 : ∀ t, t < i → dk[e - i + t]! = d[s + t]!)
    (h3 : ∀ x, (x < s ∨ s + i ≤ x) → (x < e - i ∨ e ≤ x) → dk[x]! = d[x]!) (h : Rot s m (e - i) dk d') : Rot s m e d d' := by
  obtain ⟨k1, k2, k3, k4⟩ := h
  refine ⟨k1.trans hz, fun t ht => ?_, fun t ht => ?_, fun x hx => ?_⟩
  · by_cases hlt : t < e - i - m
    · rw [k2 t hlt, h3 _ (by omega) (by omega)]
    · have := k3 (t - (e - i - m)) (by omega)
      rw [show s + t = s + (e - i - m) + (t - (e - i - m)) by omega, this, h1 _ (by omega)]
      congr 1; omega
  · rw [k4 _ (by omega), show s + (e - m) + t = e - i + t by omega]
    exact h2 t (by omega)
  · rw [k4 _ (by omega), h3 _ (by omega) (by omega)]

/-- The rotation's last step: both parts are as long. -/
theorem Rot.even {s m e i : Nat} {d d' : Array α} (hi : i = m - s) (hsm : s ≤ m) (hme : m ≤ e) (hij : i = e - m) (hz : d'.size = d.size) (h1 : ∀ t, t < i → d'[s + t]! = d[m + t]!) (h2 : ∀ t, t < i → d'[m + t]! = d[s + t]!)
    (h3 : ∀ x, (x < s ∨ s + i ≤ x) → (x < m ∨ m + i ≤ x) → d'[x]! = d[x]!) : Rot s m e d d' :=
  ⟨hz, fun t ht => h1 t (by omega), fun t ht => by rw [show s + (e - m) + t = m + t by omega]; exact h2 t (by omega), fun x hx => h3 x (by omega) (by omega)⟩

end Go.Proofs.YtmjchokacmbkoabDoor
