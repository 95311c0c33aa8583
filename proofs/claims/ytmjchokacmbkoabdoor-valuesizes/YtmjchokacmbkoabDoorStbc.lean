/-
  The plain mathematics of a stable sort by blocks: sorted blocks, merged two by two.
-/
import Derived.Test.YtmjchokacmbkoabDoorStbb
namespace Go.Proofs.YtmjchokacmbkoabDoor
open Go.Sort
set_option linter.unusedSectionVars false
variable {α : Type} [Inhabited α] {κ : Type} [DecidableEq κ]

/-- The same elements, equals in their order. -/
def Way (K : α → κ) (d dk : Array α) : Prop := PermIn 0 d.size d dk ∧ Stab K d dk

theorem Way.refl (K : α → κ) (d : Array α) : Way K d d := ⟨permIn_refl _ _ _, Stab.refl K d⟩
theorem Way.size {K : α → κ} {d dk : Array α} (h : Way K d dk) : dk.size = d.size := h.1.1

theorem Way.step {K : α → κ} {d dk dl : Array α} {a b : Nat} (h : Way K d dk) (p : PermIn a b dk dl) (hb : b ≤ d.size) (s : Stab K dk dl) : Way K d dl := by
  have e : dk.size = d.size := h.1.1
  exact ⟨permIn_trans _ _ _ _ _ h.1 (permIn_mono _ _ _ _ _ _ (Nat.zero_le _) hb (Nat.le_of_eq e.symm) p), h.2.trans s⟩

/-- The first q blocks of c are sorted. -/
def SegTo (lt : α → α → Bool) (c q : Nat) (d : Array α) : Prop := ∀ t, t < q → SortedIn lt (t * c) (t * c + c) d
/-- The blocks of c are sorted, from place a on up to n. -/
def SegFrom (lt : α → α → Bool) (c a n : Nat) (d : Array α) : Prop := ∀ t, SortedIn lt (a + t * c) (min (a + t * c + c) n) d

theorem sorted_out {lt : α → α → Bool} {a b x y : Nat} {d d' : Array α} (p : PermIn a b d d') (h : SortedIn lt x y d) (hd : y ≤ a ∨ b ≤ x) : SortedIn lt x y d' := fun i j h1 h2 h3 => by
  rw [p.2.1 i (by omega), p.2.1 j (by omega)]
  exact h i j h1 h2 h3

theorem sorted_mono {lt : α → α → Bool} {a b x y : Nat} {d : Array α} (h : SortedIn lt a b d) (h1 : a ≤ x) (h2 : y ≤ b) : SortedIn lt x y d := fun i j k1 k2 k3 => h i j (by omega) k2 (by omega)

theorem segTo_zero (lt : α → α → Bool) (c : Nat) (d : Array α) : SegTo lt c 0 d := fun _ ht => absurd ht (Nat.not_lt_zero _)

theorem blk_le {t q : Nat} (c : Nat) (h : t < q) : t * c + c ≤ q * c := by
  have := Nat.mul_le_mul_right c (show t + 1 ≤ q from h)
  rwa [Nat.add_mul, Nat.one_mul] at this

theorem SegTo.step {lt : α → α → Bool} {c q : Nat} {d d' : Array α} (h : SegTo lt c q d) (p : PermIn (q * c) (q * c + c) d d') (s : SortedIn lt (q * c) (q * c + c) d') : SegTo lt c (q + 1) d' := fun t ht => by
  by_cases e : t < q
  · exact sorted_out p (h t e) (Or.inl (blk_le c e))
  · obtain rfl : t = q := by omega
    exact s

theorem SegTo.last {lt : α → α → Bool} {c q n : Nat} {d d' : Array α} (h : SegTo lt c q d) (hn : n < q * c + c) (p : PermIn (q * c) n d d') (s : SortedIn lt (q * c) n d') : SegFrom lt c 0 n d' := fun t => by
  rw [Nat.zero_add]
  rcases Nat.lt_trichotomy t q with e | e | e
  · exact sorted_mono (sorted_out p (h t e) (Or.inl (blk_le c e))) (Nat.le_refl _) (by omega)
  · subst e
    exact sorted_mono s (Nat.le_refl _) (by omega)
  · have := blk_le c e
    intro i j h1 h2 h3
    omega

theorem SegFrom.first {lt : α → α → Bool} {c a n : Nat} {d : Array α} (h : SegFrom lt c a n d) (hn : a + c ≤ n) : SortedIn lt a (a + c) d := by
  have := h 0
  rw [Nat.zero_mul, Nat.add_zero, Nat.min_eq_left hn] at this
  exact this

theorem SegFrom.second {lt : α → α → Bool} {c a n e : Nat} {d : Array α} (h : SegFrom lt c a n d) (h1 : e ≤ a + c + c) (h2 : e ≤ n) : SortedIn lt (a + c) e d := by
  have := h 1
  rw [Nat.one_mul] at this
  exact sorted_mono this (Nat.le_refl _) (by omega)

theorem SegFrom.short {lt : α → α → Bool} {c a n : Nat} {d : Array α} (h : SegFrom lt c a n d) (hn : n ≤ a + c) : SortedIn lt a n d := by
  have := h 0
  rw [Nat.zero_mul, Nat.add_zero, Nat.min_eq_right hn] at this
  exact this

theorem SegFrom.step {lt : α → α → Bool} {c a n : Nat} {d d' : Array α} (h : SegFrom lt c a n d) (p : PermIn a (a + 2 * c) d d') : SegFrom lt c (a + 2 * c) n d' := fun t => by
  have := h (t + 2)
  have e : a + (t + 2) * c = a + 2 * c + t * c := by rw [Nat.add_mul]; omega
  rw [e] at this
  exact sorted_out p this (Or.inr (by omega))

/-- What the rotation of a merge leaves to do. -/
theorem merge_cut {lt : α → α → Bool} {K : α → κ} (hS : SWO lt) (hK : ∀ x y, lt x y = true → K x ≠ K y) {a s m e b mid : Nat} {d d1 : Array α} (h : Rot s m e d d1) (has : a ≤ s) (hsm : s ≤ m) (hme : m ≤ e) (heb : e ≤ b) (hb : b ≤ d.size) (hmid : s + (e - m) = mid)
    (hL : SortedIn lt a m d) (hR : SortedIn lt m b d) (hlow : a < s → e < b → lt d[e]! d[s - 1]! = false) (hhigh : s < m → m < e → lt d[e - 1]! d[s]! = true) :
    SortedIn lt a s d1 ∧ SortedIn lt s mid d1 ∧ (¬ (a < s ∧ s < mid) → Mrg lt K a mid d1 d1) ∧
      (∀ d2, Mrg lt K a mid d1 d2 → SortedIn lt mid e d2 ∧ SortedIn lt e b d2 ∧ (¬ (mid < e ∧ e < b) → Mrg lt K mid b d2 d2) ∧ ∀ d3, Mrg lt K mid b d2 d3 → Mrg lt K a b d d3) := by
  subst hmid
  obtain ⟨_, _, s1, s2, s3, s4, _⟩ := h.merge (K := K) hS hK has hsm hme heb hb hL hR hlow hhigh
  refine ⟨s1, s2, fun hn => Mrg.none ?_, fun d2 m2 => ?_⟩
  · by_cases e1 : a < s
    · rw [show s + (e - m) = s by omega]; exact s1
    · rw [show a = s by omega]; exact s2
  · have t3 := sorted_out m2.1 s3 (Or.inr (Nat.le_refl _))
    have t4 := sorted_out m2.1 s4 (Or.inr (by omega))
    refine ⟨t3, t4, fun hn => Mrg.none ?_, fun d3 m3 => Mrg.of_rot hS hK h has hsm hme heb hb hL hR hlow hhigh m2 m3⟩
    by_cases e1 : s + (e - m) < e
    · rw [show b = e by omega]; exact t3
    · rw [show s + (e - m) = e by omega]; exact t4

theorem Mrg.size {lt : α → α → Bool} {K : α → κ} {a b : Nat} {d d' : Array α} (h : Mrg lt K a b d d') : d'.size = d.size := h.1.1

end Go.Proofs.YtmjchokacmbkoabDoor
