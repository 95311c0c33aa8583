/-
  What Decode answers, said as the reference reckons it; and that what was decoded is encoded as it was.
-/
import Derived.Test.YtmjchokacmbkoaaDoorDec2
import Derived.Test.YtmjchokacmbkoaaDoorEnc
namespace Go.Proofs.YtmjchokacmbkoaaDoor
open Go.RowKit

def textO : List UInt8 → Option (ByteArray × List UInt8)
  | [] => none
  | c :: r => if r.length < c.toNat then none else some (⟨(r.take c.toNat).toArray⟩, r.drop c.toNat)
def textsO : Nat → List UInt8 → Option (List ByteArray × List UInt8)
  | 0, l => some ([], l)
  | n + 1, l => match textO l with
    | none => none
    | some (t, r) => (textsO n r).map fun x => (t :: x.1, x.2)
def fieldL (l : List UInt8) : Option (Fld × List UInt8) :=
  match textO l with
  | none => none
  | some (_, []) => none
  | some (nm, c :: q) => if 8 < c.toNat then none else (textsO c.toNat q).map fun x => ((nm, x.1), x.2)
def fieldsL : Nat → List UInt8 → Option (List Fld × List UInt8)
  | 0, l => some ([], l)
  | n + 1, l => match fieldL l with
    | none => none
    | some (f, r) => (fieldsL n r).map fun x => (f :: x.1, x.2)
def rdecO : List UInt8 → Option (List Fld)
  | [] => none
  | c :: r => if 16 < c.toNat then none else
    match fieldsL c.toNat r with
    | some (fs, []) => if mayB fs = true then some fs else none
    | _ => none

theorem textO_cons (c : UInt8) (r : List UInt8) : textO (c :: r) = if r.length < c.toNat then none else some (⟨(r.take c.toNat).toArray⟩, r.drop c.toNat) := rfl
theorem rdecO_cons (c : UInt8) (r : List UInt8) : rdecO (c :: r) = if 16 < c.toNat then none else
    match fieldsL c.toNat r with
    | some (fs, []) => if mayB fs = true then some fs else none
    | _ => none := rfl

theorem takeS_short (n : Nat) (l : List UInt8) : (takeS n (l, true)).2.2 = true := by unfold takeS; split <;> rfl
theorem countS_short (l : List UInt8) : (countS (l, true)).2.2 = true := by
  unfold countS
  have := takeS_short 1 l
  split <;> rename_i h <;> rw [h] at this <;> exact this
theorem short_eq (s : Rst) (h : s.2 = true) : s = (s.1, true) := by obtain ⟨a, b⟩ := s; cases h; rfl
theorem textS_short (s : Rst) (h : s.2 = true) : (textS s).2.2 = true := by
  rw [short_eq s h]
  unfold textS
  have h1 := countS_short s.1
  have := takeS_short (countS (s.1, true)).1 (countS (s.1, true)).2.1
  rw [← short_eq _ h1] at this
  exact this
theorem textsS_short (n : Nat) (s : Rst) (h : s.2 = true) : (textsS n s).2.2 = true := by
  induction n generalizing s with
  | zero => exact h
  | succ n ih => rw [textsS]; exact ih _ (textS_short s h)
theorem fieldS_short (s : Rst) (h : s.2 = true) : (fieldS s).2.2 = true := by
  unfold fieldS
  have h1 := textS_short s h
  have h2 := countS_short (textS s).2.1
  rw [← short_eq _ h1] at h2
  exact textsS_short _ _ h2
theorem fieldsS_short (n : Nat) (s : Rst) (h : s.2 = true) : (fieldsS n s).2.2 = true := by
  induction n generalizing s with
  | zero => exact h
  | succ n ih => rw [fieldsS]; exact ih _ (fieldS_short s h)

theorem countS_cons (c : UInt8) (r : List UInt8) : countS (c :: r, false) = (c.toNat, (r, false)) := by
  unfold countS takeS
  simp
theorem countS_nil : countS ([], false) = (0, ([], true)) := by
  unfold countS takeS
  simp

theorem textS_O (l : List UInt8) : (textO l = none ∧ (textS (l, false)).2.2 = true) ∨ ∃ t r, textO l = some (t, r) ∧ textS (l, false) = (t, (r, false)) := by
  cases l with
  | nil =>
    left
    refine ⟨rfl, ?_⟩
    unfold textS
    rw [countS_nil]
    exact takeS_short _ _
  | cons c r =>
    unfold textS textO
    rw [countS_cons]
    simp only
    by_cases h : r.length < c.toNat
    · left
      rw [if_pos h]
      refine ⟨rfl, ?_⟩
      unfold takeS
      rw [if_pos h]
    · right
      rw [if_neg h]
      refine ⟨_, _, rfl, ?_⟩
      unfold takeS
      rw [if_neg h]

theorem textsS_O (n : Nat) (l : List UInt8) : (textsO n l = none ∧ (textsS n (l, false)).2.2 = true) ∨ ∃ ts r, textsO n l = some (ts, r) ∧ textsS n (l, false) = (ts, (r, false)) := by
  induction n generalizing l with
  | zero => exact Or.inr ⟨[], l, rfl, rfl⟩
  | succ n ih =>
    rw [textsO, textsS]
    rcases textS_O l with ⟨h1, h2⟩ | ⟨t, r, h1, h2⟩
    · left
      rw [h1]
      exact ⟨rfl, textsS_short _ _ h2⟩
    · rw [h1, h2]
      rcases ih r with ⟨h3, h4⟩ | ⟨ts, q, h3, h4⟩
      · left
        simp only [h3]
        exact ⟨rfl, h4⟩
      · right
        simp only [h3, h4]
        exact ⟨_, _, rfl, rfl⟩

theorem fieldS_L (l : List UInt8) : (fieldL l = none ∧ ((fieldS (l, false)).2.2 = true ∨ fitsB (fieldS (l, false)).1 = false)) ∨ ∃ f r, fieldL l = some (f, r) ∧ fieldS (l, false) = (f, (r, false)) := by
  unfold fieldL fieldS
  rcases textS_O l with ⟨h1, h2⟩ | ⟨t, r, h1, h2⟩
  · left
    rw [h1]
    refine ⟨rfl, Or.inl ?_⟩
    have h3 := countS_short (textS (l, false)).2.1
    rw [← short_eq _ h2] at h3
    exact textsS_short _ _ h3
  · rw [h1, h2]
    cases r with
    | nil =>
      left
      refine ⟨rfl, Or.inl ?_⟩
      simp only
      rw [countS_nil]
      exact textsS_short _ _ rfl
    | cons c q =>
      simp only
      rw [countS_cons]
      simp only
      by_cases h8 : 8 < c.toNat
      · left
        rw [if_pos h8]
        refine ⟨rfl, Or.inr ?_⟩
        unfold fitsB
        simp only
        rw [textsS_len, decide_eq_false (by omega)]
        simp
      · rw [if_neg h8]
        rcases textsS_O c.toNat q with ⟨h3, h4⟩ | ⟨ts, z, h3, h4⟩
        · left
          rw [h3]
          exact ⟨rfl, Or.inl h4⟩
        · right
          rw [h3, h4]
          exact ⟨_, _, rfl, rfl⟩

theorem fieldsS_L (n : Nat) (l : List UInt8) : (fieldsL n l = none ∧ ((fieldsS n (l, false)).2.2 = true ∨ ∃ f ∈ (fieldsS n (l, false)).1, fitsB f = false)) ∨ ∃ fs r, fieldsL n l = some (fs, r) ∧ fieldsS n (l, false) = (fs, (r, false)) := by
  induction n generalizing l with
  | zero => exact Or.inr ⟨[], l, rfl, rfl⟩
  | succ n ih =>
    rw [fieldsL, fieldsS]
    rcases fieldS_L l with ⟨h1, h2⟩ | ⟨f, r, h1, h2⟩
    · left
      rw [h1]
      refine ⟨rfl, ?_⟩
      rcases h2 with h2 | h2
      · exact Or.inl (fieldsS_short _ _ h2)
      · exact Or.inr ⟨_, List.mem_cons_self, h2⟩
    · rw [h1, h2]
      rcases ih r with ⟨h3, h4⟩ | ⟨fs, q, h3, h4⟩
      · left
        simp only [h3]
        refine ⟨rfl, ?_⟩
        rcases h4 with h4 | ⟨g, hg, h4⟩
        · exact Or.inl h4
        · exact Or.inr ⟨g, List.mem_cons_of_mem _ hg, h4⟩
      · right
        simp only [h3, h4]
        exact ⟨_, _, rfl, rfl⟩

theorem fieldsS_len (n : Nat) (s : Rst) : (fieldsS n s).1.length = n := by
  induction n generalizing s with
  | zero => rfl
  | succ n ih => rw [fieldsS, List.length_cons, ih]

theorem decO_no {l : List UInt8} (h : (valueS (l, false)).2.2 = true ∨ 0 < (valueS (l, false)).2.1.length ∨ mayB (valueS (l, false)).1 = false) : decodeO l = none := by
  unfold decodeO; rw [if_pos h]

theorem rdec_eq (l : List UInt8) : rdecO l = decodeO l := by
  cases l with
  | nil =>
    rw [decO_no]
    · rfl
    · left
      unfold valueS
      rw [countS_nil]
      exact fieldsS_short _ _ rfl
  | cons c r =>
    have hv : valueS (c :: r, false) = fieldsS c.toNat (r, false) := by unfold valueS; rw [countS_cons]
    rw [rdecO_cons]
    by_cases h16 : 16 < c.toNat
    · rw [if_pos h16, decO_no]
      right; right
      rw [hv]
      exact may_long (by rw [fieldsS_len]; exact h16)
    · rw [if_neg h16]
      rcases fieldsS_L c.toNat r with ⟨h1, h2⟩ | ⟨fs, q, h1, h2⟩
      · rw [h1, decO_no]
        rw [hv]
        rcases h2 with h2 | ⟨f, hf, h2⟩
        · exact Or.inl h2
        · right; right
          rw [Bool.eq_false_iff]
          intro hm
          have := may_fits hm f hf
          rw [h2] at this; cases this
      · rw [h1]
        cases q with
        | cons x q =>
          rw [decO_no]
          right; left
          rw [hv, h2]; simp
        | nil =>
          simp only
          unfold decodeO
          rw [hv, h2]
          simp only
          cases hm : mayB fs <;> simp

theorem textO_enc {l : List UInt8} {t : ByteArray} {r : List UInt8} (h : textO l = some (t, r)) : l = encT t ++ r := by
  cases l with
  | nil => cases h
  | cons c q =>
    rw [textO_cons] at h
    split at h
    · cases h
    · rename_i hl
      cases h
      unfold encT
      have e : (ByteArray.mk (q.take c.toNat).toArray).size = c.toNat := by
        show (q.take c.toNat).toArray.size = _
        simp; omega
      rw [e]
      simp
theorem textsO_enc (n : Nat) {l : List UInt8} {ts : List ByteArray} {r : List UInt8} (h : textsO n l = some (ts, r)) : l = ts.flatMap encT ++ r ∧ ts.length = n := by
  induction n generalizing l ts with
  | zero => cases h; exact ⟨rfl, rfl⟩
  | succ n ih =>
    rw [textsO] at h
    cases ht : textO l with
    | none => rw [ht] at h; cases h
    | some x =>
      obtain ⟨t, q⟩ := x
      rw [ht] at h
      simp only at h
      cases hr : textsO n q with
      | none => rw [hr] at h; cases h
      | some y =>
        rw [hr] at h
        cases h
        obtain ⟨h1, h2⟩ := ih (ts := y.1) hr
        rw [textO_enc ht, List.flatMap_cons, List.append_assoc, ← h1]
        exact ⟨rfl, by rw [List.length_cons, h2]⟩
theorem fieldL_enc {l : List UInt8} {f : Fld} {r : List UInt8} (h : fieldL l = some (f, r)) : l = encF f ++ r := by
  unfold fieldL at h
  split at h
  · cases h
  · cases h
  · rename_i nm c q ht
    split at h
    · cases h
    · cases hr : textsO c.toNat q with
      | none => rw [hr] at h; cases h
      | some y =>
        rw [hr] at h
        cases h
        obtain ⟨h1, h2⟩ := textsO_enc _ (ts := y.1) hr
        rw [textO_enc ht, h1]
        unfold encF
        simp only
        rw [h2]
        simp
theorem fieldsL_enc (n : Nat) {l : List UInt8} {fs : List Fld} {r : List UInt8} (h : fieldsL n l = some (fs, r)) : l = fs.flatMap encF ++ r ∧ fs.length = n := by
  induction n generalizing l fs with
  | zero => cases h; exact ⟨rfl, rfl⟩
  | succ n ih =>
    rw [fieldsL] at h
    cases ht : fieldL l with
    | none => rw [ht] at h; cases h
    | some x =>
      obtain ⟨t, q⟩ := x
      rw [ht] at h
      simp only at h
      cases hr : fieldsL n q with
      | none => rw [hr] at h; cases h
      | some y =>
        rw [hr] at h
        cases h
        obtain ⟨h1, h2⟩ := ih (fs := y.1) hr
        rw [fieldL_enc ht, List.flatMap_cons, List.append_assoc, ← h1]
        exact ⟨rfl, by rw [List.length_cons, h2]⟩

theorem decode_enc {l : List UInt8} {fs : List Fld} (h : decodeO l = some fs) : encL fs = l ∧ mayB fs = true := by
  rw [← rdec_eq] at h
  cases l with
  | nil => cases h
  | cons c r =>
    rw [rdecO_cons] at h
    split at h
    · cases h
    · split at h
      · rename_i gs hg
        split at h
        · rename_i hm
          cases h
          obtain ⟨h1, h2⟩ := fieldsL_enc _ hg
          unfold encL
          rw [h2]
          rw [h1]
          simp [hm]
        · cases h
      · cases h

end Go.Proofs.YtmjchokacmbkoaaDoor
