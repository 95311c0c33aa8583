/-
  Where a byte first stands in a text, in plain lists.
-/
import Derived.Lib.Bytealg
import Derived.Lib.IndexBytes
namespace Go.Proofs.YtmjchokacmbkoabDoor

theorem ix_cases (l : List UInt8) (c : UInt8) :
    (Lib.indexByte l c = -1 ∧ c ∉ l) ∨ ∃ i : Nat, Lib.indexByte l c = (i : Int) ∧ i < l.length ∧ l[i]? = some c ∧ c ∉ l.take i := by
  induction l with
  | nil => left; exact ⟨rfl, by simp⟩
  | cons b l ih =>
    by_cases hb : b = c
    · right
      refine ⟨0, ?_, by simp, by simp [hb], by simp⟩
      unfold Lib.indexByte; simp [hb]
    · have hbc : (b == c) = false := by simp [hb]
      rcases ih with ⟨h1, h2⟩ | ⟨i, h1, h2, h3, h4⟩
      · left
        refine ⟨?_, ?_⟩
        · unfold Lib.indexByte; rw [hbc]; simp [h1]
        · simp only [List.mem_cons, not_or]; exact ⟨fun h => hb h.symm, h2⟩
      · right
        refine ⟨i + 1, ?_, by simp; omega, by simpa using h3, ?_⟩
        · unfold Lib.indexByte; rw [hbc, h1]
          have : ((i : Int) == -1) = false := by rw [beq_eq_false_iff_ne]; omega
          simp [this]
        · simp only [List.take_succ_cons, List.mem_cons, not_or]; exact ⟨fun h => hb h.symm, h4⟩

/-- The split of a text at its first byte c. -/
theorem ix_split (l : List UInt8) (c : UInt8) (i : Nat) (h1 : i < l.length) (h2 : l[i]? = some c) : l = l.take i ++ c :: l.drop (i + 1) := by
  have h3 : l[i] = c := by rw [List.getElem?_eq_getElem h1] at h2; exact Option.some.inj h2
  calc l = l.take i ++ l.drop i := (List.take_append_drop i l).symm
    _ = l.take i ++ c :: l.drop (i + 1) := by rw [List.drop_eq_getElem_cons h1, h3]

theorem ix_uniq {a b a' b' : List UInt8} {c : UInt8} (h : a ++ c :: b = a' ++ c :: b') (ha : c ∉ a) (ha' : c ∉ a') : a = a' ∧ b = b' := by
  induction a generalizing a' with
  | nil =>
    cases a' with
    | nil => simp at h; exact ⟨rfl, h⟩
    | cons x a' => simp at h; simp [h.1] at ha'
  | cons x a ih =>
    cases a' with
    | nil => simp at h; simp [h.1] at ha
    | cons y a' =>
      simp only [List.cons_append, List.cons.injEq] at h
      simp only [List.mem_cons, not_or] at ha ha'
      obtain ⟨e1, e2⟩ := ih h.2 ha.2 ha'.2
      exact ⟨by rw [h.1, e1], e2⟩

theorem ext_head (s : ByteArray) (i : Nat) : (s.extract 0 i).data.toList = s.data.toList.take i := by
  rw [Lib.extract_data]; simp

theorem ext_tail (s : ByteArray) (i : Nat) : (s.extract i s.size).data.toList = s.data.toList.drop i := Lib.extract_to_end s i

end Go.Proofs.YtmjchokacmbkoabDoor
