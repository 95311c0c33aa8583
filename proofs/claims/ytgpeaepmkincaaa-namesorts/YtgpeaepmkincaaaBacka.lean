/-
  There and back: Parse of what Print makes, and Print of what Parse gives.
-/
import Derived.Test.YtgpeaepmkincaaaSortz
namespace Go.Proofs.Ytgpeaepmkincaaa
open Go.RowKit

theorem ba_ext {a b : ByteArray} (h : a.data.toList = b.data.toList) : a = b := by
  obtain ⟨⟨x⟩⟩ := a
  obtain ⟨⟨y⟩⟩ := b
  simp at h
  rw [h]

theorem ba_append (a b : ByteArray) : (a ++ b).data.toList = a.data.toList ++ b.data.toList := by simp

theorem letB_slash : letB (47 : Int) = false := by decide
theorem bigB_slash : bigB (47 : Int) = false := by decide

theorem typeB_slash {l : List UInt8} (h : typeB l = true) : (47 : UInt8) ∉ l := by
  cases l with
  | nil => simp
  | cons c r =>
    simp only [typeB, spell, Bool.and_eq_true, List.all_eq_true] at h
    obtain ⟨⟨_, h1⟩, h2⟩ := h
    simp only [List.mem_cons, not_or]
    refine ⟨?_, ?_⟩
    · rintro rfl
      rw [show ((47 : UInt8).toNat : Int) = 47 from rfl, bigB_slash] at h1
      cases h1
    · intro hm
      have := h2 _ hm
      rw [show ((47 : UInt8).toNat : Int) = 47 from rfl, letB_slash] at this
      cases this

theorem ix_first (a b : List UInt8) (c : UInt8) (h : c ∉ a) : Lib.indexByte (a ++ c :: b) c = (a.length : Int) := by
  induction a with
  | nil => simp [Lib.indexByte]
  | cons x a ih =>
    simp only [List.mem_cons, not_or] at h
    have hx : (x == c) = false := by rw [beq_eq_false_iff_ne]; exact fun e => h.1 e.symm
    rw [List.cons_append]
    unfold Lib.indexByte
    rw [hx, ih h.2]
    have : ((a.length : Int) == -1) = false := by rw [beq_eq_false_iff_ne]; omega
    simp [this]

theorem keyB_parts {a b : ByteArray} (h : keyB a b = true) : typeB a.data.toList = true ∧ idenB b.data.toList = true := by
  simpa [keyB] using h

theorem keyB_sizes {a b : ByteArray} (h : keyB a b = true) : a.size ≤ 32 ∧ b.size ≤ 32 := by
  obtain ⟨h1, h2⟩ := keyB_parts h
  exact ⟨by simpa using typeB_len h1, by simpa using idenB_len h2⟩

theorem cat_data (a b : ByteArray) : (a ++ ⟨#[47]⟩ ++ b).data.toList = a.data.toList ++ (47 : UInt8) :: b.data.toList := by
  rw [ba_append, ba_append, List.append_assoc]; rfl

theorem parse_back (a b : ByteArray) (w : World) (hk : keyB a b = true) :
    Calls Try.prog 18 #[.string (a ++ ⟨#[47]⟩ ++ b)] w fun e w' => e = .returned (.tuple #[.agg #[.string a, .string b], .int .i64 0]) ∧ Below w.heap.size w w' := by
  obtain ⟨s1, s2⟩ := keyB_sizes hk
  have hd := cat_data a b
  have hix : Lib.indexByte (a ++ ⟨#[47]⟩ ++ b).data.toList 47 = (a.size : Int) := by
    rw [hd, ix_first _ _ _ (typeB_slash (keyB_parts hk).1)]; rfl
  have hsz : (a ++ ⟨#[47]⟩ ++ b).size = a.size + 1 + b.size := by
    simp
    rfl
  have e1 : (a ++ ⟨#[47]⟩ ++ b).extract 0 a.size = a := by
    apply ba_ext
    rw [ext_head, hd]
    have : a.size = a.data.toList.length := rfl
    rw [this, List.take_left]
  have e2 : (a ++ ⟨#[47]⟩ ++ b).extract (a.size + 1) (a ++ ⟨#[47]⟩ ++ b).size = b := by
    apply ba_ext
    rw [ext_tail, hd]
    have : a.size = a.data.toList.length := rfl
    rw [this, ← List.drop_drop, List.drop_left]
    rfl
  have h := parse_yes (a ++ ⟨#[47]⟩ ++ b) w (by rw [hsz]; unfold maxLen; omega) a.size hix (by omega) (by rw [e1, e2]; exact hk)
  rw [e1, e2] at h
  exact h

/-- What Parse gives of s: a key whose text is s, or none. -/
theorem parse_any (s : ByteArray) (hs : s.size ≤ maxLen) :
    (∃ x y : ByteArray, keyB x y = true ∧ s = x ++ ⟨#[47]⟩ ++ y ∧ ∀ w, Calls Try.prog 18 #[.string s] w fun e w' => e = .returned (.tuple #[.agg #[.string x, .string y], .int .i64 0]) ∧ Below w.heap.size w w') ∨
    (∀ w, Calls Try.prog 18 #[.string s] w fun e w' => e = .returned (.tuple #[.agg #[.string ⟨#[]⟩, .string ⟨#[]⟩], .int .i64 2]) ∧ Below w.heap.size w w') := by
  rcases ix_cases s.data.toList 47 with ⟨h1, _⟩ | ⟨i, h1, h2, h3, _⟩
  · exact .inr fun w => parse_bare s w hs h1
  · have hi : i < s.size := by simpa using h2
    cases hk : keyB (s.extract 0 i) (s.extract (i + 1) s.size) with
    | false => exact .inr fun w => parse_no s w hs i h1 hi hk
    | true =>
      refine .inl ⟨_, _, hk, ?_, fun w => parse_yes s w hs i h1 hi hk⟩
      apply ba_ext
      rw [cat_data, ext_head, ext_tail]
      exact ix_split _ _ _ h2 h3

theorem cell_lt {w : World} {a : Addr} {v : Value} (h : w.cell? a = some v) : a.block < w.heap.size := by
  rcases Nat.lt_or_ge a.block w.heap.size with h' | h'
  · exact h'
  · simp [World.cell?, Array.getElem?_eq_none h'] at h

theorem kept {W w' : World} (hq : Below W.heap.size W w') {b o : Nat} {v : Value} (h : W.cell? ⟨b, o, none⟩ = some v) : w'.cell? ⟨b, o, none⟩ = some v := by
  rw [(bcell hq).1 _ _ (cell_lt h)]; exact h

theorem kept_new {w : World} {b o : Nat} {v : Value} (ob : Obj) (h : w.cell? ⟨b, o, none⟩ = some v) : (w.alloc ob).cell? ⟨b, o, none⟩ = some v := by
  rw [← h]
  have hlt : b < w.heap.size := cell_lt h
  simp only [World.cell?, World.alloc, Array.getElem?_push, Nat.ne_of_lt hlt, if_false]

end Go.Proofs.Ytgpeaepmkincaaa
