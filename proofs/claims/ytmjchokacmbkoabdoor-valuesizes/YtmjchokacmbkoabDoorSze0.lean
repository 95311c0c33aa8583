/-
  How long a value's bytes are, and how many blanks its line has.
-/
import Derived.Test.YtmjchokacmbkoabDoorFix
namespace Go.Proofs.YtmjchokacmbkoabDoor
open Go.RowKit Go.Lib

/-- What ValueSizes counts. -/
def cntF (f : Fld) : Nat := 2 + f.1.size + (f.2.map fun t => 1 + t.size).sum
def cntB (fs : List Fld) : Nat := 1 + (fs.map cntF).sum

theorem encTs_len (ts : List ByteArray) : (ts.flatMap encT).length = (ts.map fun t => 1 + t.size).sum := by
  induction ts with
  | nil => rfl
  | cons t ts ih =>
    rw [List.flatMap_cons, List.length_append, encT_len, ih, List.map_cons, List.sum_cons]
    omega

theorem encF_cnt (f : Fld) : (encF f).length = cntF f := by
  unfold encF cntF
  rw [List.length_append, List.length_append, encT_len, encTs_len]
  simp only [List.length_cons, List.length_nil]
  omega

theorem encL_cnt (fs : List Fld) : (encL fs).length = cntB fs := by
  unfold encL cntB
  rw [List.length_cons]
  have : (fs.flatMap encF).length = (fs.map cntF).sum := by
    induction fs with
    | nil => rfl
    | cons f fs ih => rw [List.flatMap_cons, List.length_append, encF_cnt, ih, List.map_cons, List.sum_cons]
  omega

/-- The blanks of a text. -/
def blanks (l : List UInt8) : Nat := l.countP fun c => c == 32

theorem blanks_append (a b : List UInt8) : blanks (a ++ b) = blanks a + blanks b := List.countP_append ..

theorem blanks_join : ∀ ws : List (List UInt8), (∀ w ∈ ws, blanks w = 0) → blanks (Lib.join ws [32]) = ws.length - 1
  | [], _ => rfl
  | [w], h => by
    have := h w (by simp)
    simpa [Lib.join] using this
  | w :: v :: ws, h => by
    have h1 := h w (by simp)
    have ih := blanks_join (v :: ws) (fun x hx => h x (by simp [hx]))
    have e : Lib.join (w :: v :: ws) [32] = w ++ [32] ++ Lib.join (v :: ws) [32] := by simp [Lib.join]
    rw [e, blanks_append, blanks_append, h1, ih]
    simp [blanks]
    omega

theorem field_noblank {l : List UInt8} (h : fieldB l = true) : blanks l = 0 := by
  unfold blanks
  rw [List.countP_eq_zero]
  intro c hc
  unfold fieldB spell at h
  cases l with
  | nil => simp at hc
  | cons x r =>
    simp only [Bool.and_eq_true, List.all_eq_true] at h
    have key : lodB (c.toNat : Int) = true ∨ smallB (c.toNat : Int) = true := by
      rcases List.mem_cons.1 hc with rfl | hc
      · exact Or.inr h.1.2
      · exact Or.inl (h.2 c hc)
    intro e
    have e : c = 32 := by simpa using e
    subst e
    rcases key with k | k
    · revert k; decide
    · revert k; decide

theorem hexd_noblank (k : Nat) (h : k < 16) : (hexd k == 32) = false := by
  have t : ((List.range 16).all fun k => !(hexd k == 32)) = true := by decide
  have := List.all_eq_true.1 t k (List.mem_range.2 h)
  simpa using this

theorem write_noblank (l : List UInt8) : blanks (writeL l) = 0 := by
  induction l with
  | nil => rfl
  | cons c l ih =>
    rw [writeL_cons, blanks_append, ih]
    unfold writeC
    cases hp : plainB (c.toNat : Int) with
    | true =>
      have : (c == 32) = false := by
        rw [beq_eq_false_iff_ne]
        intro e
        subst e
        revert hp; decide
      simp [blanks, this]
    | false =>
      have hc := c.toNat_lt
      simp [blanks, hexd_noblank (c.toNat / 16) (by omega), hexd_noblank (c.toNat % 16) (by omega)]

theorem word_data (n t : ByteArray) : (wordOf n t).data.toList = n.data.toList ++ [61] ++ writeL t.data.toList := by
  unfold wordOf
  obtain ⟨⟨n⟩⟩ := n
  simp

theorem word_noblank {n t : ByteArray} (h : fieldB n.data.toList = true) : blanks (wordOf n t).data.toList = 0 := by
  rw [word_data, blanks_append, blanks_append, field_noblank h, write_noblank]
  rfl

theorem words_cnt (fs : List Fld) : (wordsL fs).length = totF fs := by
  unfold wordsL totF
  induction fs with
  | nil => rfl
  | cons f fs ih => rw [List.flatMap_cons, List.length_append, ih]; simp [wordsF]

theorem line_blanks {fs : List Fld} (h : mayB fs = true) : blanks (lineOf fs).data.toList = totF fs - 1 := by
  unfold lineOf
  show blanks (Lib.join ((wordsL fs).map (·.data.toList)) [32]).toArray.toList = _
  rw [List.toList_toArray, blanks_join, List.length_map, words_cnt]
  intro w hw
  obtain ⟨x, hx, rfl⟩ := List.mem_map.1 hw
  obtain ⟨f, hf, hx⟩ := List.mem_flatMap.1 hx
  obtain ⟨t, _, rfl⟩ := List.mem_map.1 hx
  exact word_noblank (fits_parts (may_fits h f hf)).2.2.2.2

theorem line_empty (fs : List Fld) : (lineOf fs).size = 0 ↔ totF fs = 0 := by
  have e : (lineOf fs).size = (Lib.join ((wordsL fs).map (·.data.toList)) [32]).length := by
    show (Lib.join ((wordsL fs).map (·.data.toList)) [32]).toArray.size = _
    simp
  rw [e, ← words_cnt]
  cases hw : wordsL fs with
  | nil => simp [Lib.join, List.intercalate]
  | cons x r =>
    have hx : x ∈ wordsL fs := by rw [hw]; simp
    obtain ⟨f, hf, hx⟩ := List.mem_flatMap.1 hx
    obtain ⟨t, _, rfl⟩ := List.mem_map.1 hx
    have hl : 0 < (wordOf f.1 t).data.toList.length := by rw [word_data]; simp; omega
    constructor
    · intro h
      exfalso
      cases r with
      | nil =>
        rw [List.map_cons, List.map_nil, Lib.join_one] at h
        omega
      | cons y r =>
        have : Lib.join ((wordOf f.1 t :: y :: r).map (·.data.toList)) [32] = (wordOf f.1 t).data.toList ++ [32] ++ Lib.join ((y :: r).map (·.data.toList)) [32] := by simp [Lib.join]
        rw [this] at h
        simp at h
    · intro h; simp at h

theorem join_size (c : Nat) : ∀ ws : List (List UInt8), (∀ w ∈ ws, w.length ≤ c) → (Lib.join ws [32]).length ≤ ws.length * (c + 1)
  | [], _ => by simp [Lib.join, List.intercalate]
  | [w], h => by
    have := h w (by simp)
    rw [Lib.join_one]
    simp
    omega
  | w :: v :: ws, h => by
    have h1 := h w (by simp)
    have ih := join_size c (v :: ws) (fun x hx => h x (by simp [hx]))
    have e : Lib.join (w :: v :: ws) [32] = w ++ [32] ++ Lib.join (v :: ws) [32] := by simp [Lib.join]
    have e2 : (w :: v :: ws).length * (c + 1) = (v :: ws).length * (c + 1) + (c + 1) := by rw [List.length_cons, Nat.add_mul, Nat.one_mul]
    have e3 : ([32] : List UInt8).length = 1 := rfl
    rw [e, List.length_append, List.length_append, e2, e3]
    omega

theorem line_size {fs : List Fld} (h : mayB fs = true) : (lineOf fs).size ≤ 53504 := by
  have e : (lineOf fs).size = (Lib.join ((wordsL fs).map (·.data.toList)) [32]).length := by
    show (Lib.join ((wordsL fs).map (·.data.toList)) [32]).toArray.size = _
    simp
  have h1 := join_size 417 ((wordsL fs).map (·.data.toList)) (fun w hw => by
    obtain ⟨x, hx, rfl⟩ := List.mem_map.1 hw
    obtain ⟨f, hf, hx⟩ := List.mem_flatMap.1 hx
    obtain ⟨t, ht, rfl⟩ := List.mem_map.1 hx
    simpa using word_len (may_fits h f hf) ht)
  have h2 := wordsL_len (fun f hf => may_fits h f hf) (may_parts h).1
  rw [List.length_map] at h1
  have h3 : (wordsL fs).length * (417 + 1) ≤ 128 * (417 + 1) := Nat.mul_le_mul_right _ h2
  omega

theorem cnt_small {fs : List Fld} (h : mayB fs = true) (i : Nat) : 1 + ((fs.take i).map cntF).sum ≤ 17057 := by
  have h1 : ((fs.take i).map cntF).sum = ((fs.take i).flatMap encF).length := by
    generalize fs.take i = gs
    induction gs with
    | nil => rfl
    | cons f gs ih => rw [List.flatMap_cons, List.length_append, encF_cnt, ← ih, List.map_cons, List.sum_cons]
  have := enc_ahead h i
  omega

theorem tot_small {fs : List Fld} (h : mayB fs = true) (i : Nat) : totF (fs.take i) ≤ 128 := by
  rw [← words_cnt]
  refine wordsL_len (fun f hf => may_fits h f (List.mem_of_mem_take hf)) ?_
  have := (may_parts h).1
  rw [List.length_take]
  omega

end Go.Proofs.YtmjchokacmbkoabDoor
