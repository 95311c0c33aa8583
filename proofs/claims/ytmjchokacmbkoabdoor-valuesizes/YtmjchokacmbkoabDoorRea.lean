/-
  The contract of Read.
-/
import Derived.Test.YtmjchokacmbkoabDoorFst
import Derived.Test.YtmjchokacmbkoabDoorBld
namespace Go.Proofs.YtmjchokacmbkoabDoor
open Go.RowKit

theorem firstP_some {l : List UInt8} {c : UInt8} {n : Nat} (h : firstP l = some (c, n)) : 0 < n ∧ n ≤ l.length := by
  match l, h with
  | [], h => simp [firstP] at h
  | x :: r, h =>
    simp only [firstP] at h
    by_cases c1 : plainB (x.toNat : Int) = true
    · rw [if_pos c1] at h; simp at h; obtain ⟨_, rfl⟩ := h; simp
    · rw [if_neg c1] at h
      by_cases c2 : x ≠ 37
      · rw [if_pos c2] at h; simp at h
      · rw [if_neg c2] at h
        match r, h with
        | [], h => simp at h
        | [a], h => simp at h
        | a :: b :: t, h =>
          simp only at h
          split at h
          · simp at h
          · split at h
            · simp at h
            · simp at h; obtain ⟨_, rfl⟩ := h; simp

def readL (l : List UInt8) : Option (List UInt8) :=
  if l = [] then some [] else
    match _h : firstP l with
    | none => none
    | some (c, n) => (readL (l.drop n)).map (c :: ·)
termination_by l.length
decreasing_by have := firstP_some _h; rw [List.length_drop]; omega

theorem readL_nil : readL [] = some [] := by unfold readL; simp

theorem readL_none {l : List UInt8} (h0 : l ≠ []) (h : firstP l = none) : readL l = none := by
  unfold readL
  rw [if_neg h0]
  split
  · rfl
  · rename_i h2; rw [h] at h2; simp at h2

theorem readL_some {l : List UInt8} {c : UInt8} {n : Nat} (h : firstP l = some (c, n)) : readL l = (readL (l.drop n)).map (c :: ·) := by
  have h0 : l ≠ [] := by rintro rfl; simp [firstP] at h
  conv => lhs; unfold readL
  rw [if_neg h0]
  split
  · rename_i h2; rw [h] at h2; simp at h2
  · rename_i c2 n2 h2; rw [h] at h2; simp at h2; obtain ⟨rfl, rfl⟩ := h2; rfl

theorem readL_len : ∀ (k : Nat) (l : List UInt8) (m : List UInt8), l.length ≤ k → readL l = some m → m.length ≤ l.length
  | 0, l, m, hk, h => by
    obtain rfl : l = [] := List.length_eq_zero_iff.1 (by omega)
    rw [readL_nil] at h; simp at h; subst h; simp
  | k + 1, l, m, hk, h => by
    by_cases h0 : l = []
    · subst h0; rw [readL_nil] at h; simp at h; subst h; simp
    · cases hf : firstP l with
      | none => rw [readL_none h0 hf] at h; simp at h
      | some o =>
        obtain ⟨c, n⟩ := o
        have hn := firstP_some hf
        rw [readL_some hf] at h
        cases hr : readL (l.drop n) with
        | none => rw [hr] at h; simp at h
        | some m' =>
          rw [hr] at h; simp at h; subst h
          have := readL_len k (l.drop n) m' (by rw [List.length_drop]; omega) hr
          rw [List.length_drop] at this
          rw [List.length_cons]; omega

def readV (o : Option (List UInt8)) : Value := match o with
  | some l => .tuple #[.string ⟨l.toArray⟩, .int .i64 0]
  | none => .tuple #[.string ⟨#[]⟩, .int .i64 4]

theorem readV_map (acc : List UInt8) (o : Option (List UInt8)) (h : o = none) : readV (o.map (acc ++ ·)) = .tuple #[.string ⟨#[]⟩, .int .i64 4] := by subst h; rfl

theorem ext_drop (s : ByteArray) (n : Nat) : (s.extract n s.size).data.toList = s.data.toList.drop n := by
  obtain ⟨⟨l⟩⟩ := s
  simp [ByteArray.size]
  exact List.take_of_length_le (by simp)

set_option maxHeartbeats 4000000 in
set_option maxRecDepth 100000 in
theorem read_any (s : ByteArray) (w : World) (hp : PlainAt w) (hs : s.size ≤ 140737488355327) :
    Calls Tryd.prog 21 #[.string s] w fun e w' => e = .returned (readV (readL s.data.toList)) ∧ Below w.heap.size w w' := by
  have HP := hid hp
  clear hp
  go_enter Tryd.func21, Tryd.ntmps21
  go_wp2_with fail
  go_loopg [0] s.size (fun g vs wr => ∃ (t : ByteArray) (acc : List UInt8), vs = .string t ∧ t.size ≤ g ∧ acc.length + t.size ≤ s.size ∧ Below w.heap.size w wr ∧ Lib.IsBuilder 65 5 w.heap.size w.heap.size (Lib.byteCells acc) wr ∧ Hid (readL s.data.toList = (readL t.data.toList).map (acc ++ ·)))
  case atStart => exact ⟨s, [], rfl, Nat.le_refl _, by simp, (Below.refl _ _).alloc (Nat.le_refl _) _, Lib.fresh_isBuilder _ _ _, by show _ = _; simp⟩
  case round =>
    obtain ⟨t, acc, rfl, hg, hlen, hb, hbu, HR⟩ := hrel
    have HB := hid hbu
    have HL := hid hlen
    clear hbu hlen
    by_cases h0 : 0 < t.size
    · have h0z : (0 : Int) < (t.size : Int) := by omega
      have HPr : PlainAt wr := HP.out.on hb
      have hne : t.data.toList ≠ [] := by
        intro e
        have : t.data.toList.length = t.size := by simp
        rw [e] at this; simp at this; omega
      cases hf : firstP t.data.toList with
      | none =>
        have HF := hid hf
        have HN : Hid (readL s.data.toList = none) := by show _ = _; rw [HR.out, readL_none hne hf]; rfl
        go_wp2_with (first | (go_at_call 38; refine (first_any _ _ HPr h0).mono ?_; rintro e w1 ⟨rfl, hb1⟩; rw [HF.out]; simp only [firstV]))
        go_ret2
        rw [HN.out]
        exact ⟨rfl, hb.trans (hb1.mono hb.size)⟩
      | some o =>
        obtain ⟨c, n⟩ := o
        have HF := hid hf
        obtain ⟨hn0, hn1⟩ := firstP_some hf
        have hn2 : n ≤ t.size := by simpa using hn1
        have HN : Hid (readL s.data.toList = (readL (t.data.toList.drop n)).map ((acc ++ [c]) ++ ·)) := by
          show _ = _; rw [HR.out, readL_some hf, Option.map_map]; congr 1; funext x; simp
        have hz : ¬ (n : Int) = 0 := by omega
        have hz1 : (0 : Int) ≤ n := by omega
        have hz2 : (n : Int) ≤ (t.size : Int) := by omega
        clear hne hn1
        go_wp2_with (first | (go_at_call 38; refine (first_any _ _ HPr h0).mono ?_; rintro e w1 ⟨rfl, hb1⟩; rw [HF.out]; simp only [firstV]) | (go_at_call 39; refine (wbyte_any w.heap.size w.heap.size _ _ _ (bld_on HB.out hb1) (by rw [Lib.byteCells_length]; have := HL.out; omega) (Nat.le_trans hb.size hb1.size)).mono ?_; rintro e w2 ⟨rfl, hbu2, hb2⟩))
        go_roundg (t.size - n)
        case measure => omega
        refine ⟨t.extract n t.size, acc ++ [c], rfl, ?_, ?_, (hb.trans (hb1.mono hb.size)).trans hb2, ?_, ?_⟩
        · simp
        · have := HL.out; simp; omega
        · simpa [Lib.byteCells] using hbu2
        · show _ = _
          rw [ext_drop]; exact HN.out
    · have h0z : ¬ (0 : Int) < (t.size : Int) := by omega
      have hnil : t.data.toList = [] := by
        apply List.length_eq_zero_iff.1
        have : t.data.toList.length = t.size := by simp
        omega
      have HN : Hid (readL s.data.toList = some acc) := by show _ = _; rw [HR.out, hnil, readL_nil]; simp
      clear hnil
      go_wp2_with (go_at_call 40; refine (Tryd.Builder_String_any _ _ _ _ HB.out hb.size).mono ?_; rintro e w1 ⟨rfl, hb1⟩)
      go_ret2
      rw [HN.out]
      exact ⟨rfl, hb.trans hb1⟩

end Go.Proofs.YtmjchokacmbkoabDoor
