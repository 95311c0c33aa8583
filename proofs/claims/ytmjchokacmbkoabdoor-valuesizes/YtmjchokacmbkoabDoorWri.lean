/-
  The contract of Write.
-/
import Derived.Test.YtmjchokacmbkoabDoorTxt
import Derived.Test.YtmjchokacmbkoabDoorBld
namespace Go.Proofs.YtmjchokacmbkoabDoor
open Go.RowKit

theorem room1 {l : List Value} {a : Value} {n : Nat} (h : l.length + 3 ≤ n) : (l ++ [a]).length + 1 ≤ n := by rw [List.length_append]; simp; omega
theorem room2 {l : List Value} {a b : Value} {n : Nat} (h : l.length + 3 ≤ n) : (l ++ [a] ++ [b]).length + 1 ≤ n := by rw [List.length_append, List.length_append]; simp; omega

set_option maxHeartbeats 4000000 in
set_option maxRecDepth 100000 in
theorem write_any (s : ByteArray) (w : World) (hp : PlainAt w) (hs : s.size ≤ 46912496118442) :
    Calls Tryd.prog 22 #[.string s] w fun e w' => e = .returned (.string ⟨(writeL s.data.toList).toArray⟩) ∧ Below w.heap.size w w' := by
  have HP := hid hp
  clear hp
  go_enter Tryd.func22, Tryd.ntmps22
  go_wp2_with fail
  go_loopg [4] s.size (fun g vi wr => ∃ i : Nat, vi = .int .i64 i ∧ i ≤ s.size ∧ s.size - i ≤ g ∧ Below w.heap.size w wr ∧ Lib.IsBuilder 65 5 w.heap.size w.heap.size (Lib.byteCells (writeL (s.data.toList.take i))) wr)
  case atStart => exact ⟨0, rfl, by omega, by omega, (Below.refl _ _).alloc (Nat.le_refl _) _, Lib.fresh_isBuilder _ _ _⟩
  case round =>
    obtain ⟨i, rfl, hi, hg, hb, hbu⟩ := hrel
    have HB := hid hbu
    clear hbu
    by_cases hlt : i < s.size
    · have hltz : (i : Int) < (s.size : Int) := by omega
      obtain ⟨c, hc⟩ : ∃ c, s[i] = c := ⟨_, rfl⟩
      have HPr : PlainAt wr := HP.out.on hb
      have hsz : (Lib.byteCells (writeL (s.data.toList.take i))).length + 3 ≤ 140737488355328 := by
        rw [Lib.byteCells_length]
        have := writeL_len (s.data.toList.take i)
        rw [List.length_take] at this
        omega
      have HS := hid hsz
      clear hsz
      have HW := hid (write_step s i hlt)
      rw [hc] at HW
      have HC := hid hc
      clear hc
      cases hpl : plainB (c.toNat : Int) with
      | true =>
        have HE : Hid (writeC c = [c]) := by show writeC c = [c]; unfold writeC; rw [if_pos hpl]
        go_wp2_with (first | (go_at_call 41; rw [HC.out]; refine (isPlain_any _ _ HPr).mono ?_; rintro e w1 ⟨rfl, hb1⟩) | (go_at_call 39; refine (wbyte_any w.heap.size w.heap.size _ _ _ (bld_on HB.out hb1) (Nat.le_trans (Nat.add_le_add_left (by decide) _) HS.out) (Nat.le_trans hb.size hb1.size)).mono ?_; rintro e w2 ⟨rfl, hbu2, hb2⟩))
        go_roundg (s.size - (i + 1))
        case measure => omega
        refine ⟨i + 1, by go_num, by omega, by omega, (hb.trans (hb1.mono hb.size)).trans hb2, ?_⟩
        rw [HW.out, HE.out]
        simpa [Lib.byteCells, HC.out] using hbu2
      | false =>
        have HE : Hid (writeC c = [37, hexd (c.toNat / 16), hexd (c.toNat % 16)]) := by show writeC c = _; unfold writeC; rw [if_neg (by rw [hpl]; simp)]
        have hc1 : (0 : Int) ≤ ↑c.toNat / 16 ∧ (↑c.toNat : Int) / 16 < 16 := by have := c.toNat_lt; omega
        have hc2 : (0 : Int) ≤ ↑c.toNat % 16 ∧ (↑c.toNat : Int) % 16 < 16 := by omega
        go_wp2_with (first | (go_at_call 41; rw [HC.out]; refine (isPlain_any _ _ HPr).mono ?_; rintro e w1 ⟨rfl, hb1⟩) | (go_at_call 39; refine (wbyte_any w.heap.size w.heap.size _ _ _ (bld_on HB.out hb1) (Nat.le_trans (Nat.add_le_add_left (by decide) _) HS.out) (Nat.le_trans hb.size hb1.size)).mono ?_; rintro e w2 ⟨rfl, hbu2, hb2⟩))
        go_wp2_with (go_at_call 39; refine (wbyte_any w.heap.size w.heap.size _ _ _ hbu2 (room1 HS.out) (Nat.le_trans hb.size (Nat.le_trans hb1.size hb2.size))).mono ?_; rintro e w3 ⟨rfl, hbu3, hb3⟩)
        go_wp2_with (go_at_call 39; refine (wbyte_any w.heap.size w.heap.size _ _ _ hbu3 (room2 HS.out) (Nat.le_trans hb.size (Nat.le_trans hb1.size (Nat.le_trans hb2.size hb3.size)))).mono ?_; rintro e w4 ⟨rfl, hbu4, hb4⟩)
        go_roundg (s.size - (i + 1))
        case measure => omega
        refine ⟨i + 1, by go_num, by omega, by omega, (((hb.trans (hb1.mono hb.size)).trans hb2).trans hb3).trans hb4, ?_⟩
        rw [HW.out, HE.out]
        rw [digit_at, digit_at] at hbu4
        simpa [Lib.byteCells] using hbu4
    · have hltz : ¬ (i : Int) < (s.size : Int) := by omega
      have he : s.data.toList.take i = s.data.toList := List.take_of_length_le (by simp; omega)
      have HB2 := HB.out
      rw [he] at HB2
      have HB3 := hid HB2
      clear HB2 he
      go_wp2_with (go_at_call 40; refine (Tryd.Builder_String_any _ _ _ _ HB3.out hb.size).mono ?_; rintro e w1 ⟨rfl, hb1⟩)
      go_ret
      exact ⟨rfl, hb.trans hb1⟩

end Go.Proofs.YtmjchokacmbkoabDoor
