/-
  ValueTexts answers true, where each text is short enough to be written.
-/
import Derived.Test.YtmjchokacmbkoaaDoorRrd
import Derived.Test.YtmjchokacmbkoaaDoorFix
namespace Go.Proofs.YtmjchokacmbkoaaDoor
open Go.RowKit

theorem hexd_table : ((List.range 16).all fun k => decide (hexN (hexd k) = k)) = true := by decide
theorem hexN_hexd {k : Nat} (h : k < 16) : hexN (hexd k) = k := by
  have := List.all_eq_true.1 hexd_table k (List.mem_range.2 h)
  exact of_decide_eq_true this

theorem hexd_hexN {c : UInt8} (h : hexN c ≠ 16) : hexd (hexN c) = c := by
  rcases hexv_cases c with h1 | ⟨k, hk, _, rfl⟩
  · rw [hexN_eq, if_neg h] at h1
    omega
  · rw [hexN_hexd hk]

theorem read_write (l : List UInt8) : readL (writeL l) = some l := by
  induction l with
  | nil => exact readL_nil
  | cons c l ih =>
    rw [writeL_cons]
    cases hp : plainB (c.toNat : Int) with
    | true =>
      have e : writeC c = [c] := by unfold writeC; rw [if_pos hp]
      rw [e, List.cons_append, List.nil_append, readL_some (firstP_plain hp)]
      show (readL (writeL l)).map _ = _
      rw [ih]; rfl
    | false =>
      have e : writeC c = [37, hexd (c.toNat / 16), hexd (c.toNat % 16)] := by unfold writeC; rw [hp]; rfl
      have hc := c.toNat_lt
      have h1 : hexN (hexd (c.toNat / 16)) = c.toNat / 16 := hexN_hexd (by omega)
      have h2 : hexN (hexd (c.toNat % 16)) = c.toNat % 16 := hexN_hexd (by omega)
      have hs : UInt8.ofNat (16 * (c.toNat / 16) + c.toNat % 16) = c := by
        rw [show 16 * (c.toNat / 16) + c.toNat % 16 = c.toNat by omega, UInt8.ofNat_toNat]
      have hf : firstP (37 :: hexd (c.toNat / 16) :: hexd (c.toNat % 16) :: writeL l) = some (c, 3) := by
        rw [firstP_hex, h1, h2, if_neg (by omega), hs, if_neg (by rw [hp]; simp)]
      rw [e]
      show readL (37 :: hexd (c.toNat / 16) :: hexd (c.toNat % 16) :: writeL l) = _
      rw [readL_some hf]
      show (readL (writeL l)).map _ = _
      rw [ih]; rfl

theorem firstP_write {l : List UInt8} {c : UInt8} {n : Nat} (h : firstP l = some (c, n)) : writeC c = l.take n ∧ 0 < n := by
  cases l with
  | nil => cases h
  | cons x r =>
    cases hp : plainB (x.toNat : Int) with
    | true =>
      rw [firstP_plain hp] at h
      cases h
      refine ⟨?_, by omega⟩
      unfold writeC
      rw [if_pos hp]
      rfl
    | false =>
      by_cases hx : x = 37
      · subst hx
        match r, h with
        | [], h => rw [firstP_short (by simp)] at h; cases h
        | [_], h => rw [firstP_short (by simp)] at h; cases h
        | a :: b :: r, h =>
          rw [firstP_hex] at h
          by_cases h1 : hexN a = 16 ∨ hexN b = 16
          · rw [if_pos h1] at h; cases h
          · rw [if_neg h1] at h
            have ha := hexN_le a
            have hb := hexN_le b
            cases hq : plainB ((UInt8.ofNat (16 * hexN a + hexN b)).toNat : Int) with
            | true => rw [if_pos hq] at h; cases h
            | false =>
              rw [if_neg (by rw [hq]; simp)] at h
              cases h
              refine ⟨?_, by omega⟩
              unfold writeC
              rw [hq]
              have e : (UInt8.ofNat (16 * hexN a + hexN b)).toNat = 16 * hexN a + hexN b := by rw [UInt8.toNat_ofNat']; omega
              rw [e, show (16 * hexN a + hexN b) / 16 = hexN a by omega, show (16 * hexN a + hexN b) % 16 = hexN b by omega, hexd_hexN (by omega), hexd_hexN (by omega)]
              rfl
      · rw [firstP_sign hp hx] at h; cases h

theorem write_read : ∀ (k : Nat) (l m : List UInt8), l.length ≤ k → readL l = some m → writeL m = l
  | 0, l, m, hl, h => by
    obtain rfl := List.length_eq_zero_iff.1 (by omega : l.length = 0)
    rw [readL_nil] at h; cases h; rfl
  | k + 1, l, m, hl, h => by
    by_cases h0 : l = []
    · subst h0; rw [readL_nil] at h; cases h; rfl
    · cases hf : firstP l with
      | none => rw [readL_none h0 hf] at h; cases h
      | some x =>
        obtain ⟨c, n⟩ := x
        rw [readL_some hf] at h
        cases hr : readL (l.drop n) with
        | none => rw [hr] at h; cases h
        | some m' =>
          rw [hr] at h
          cases h
          obtain ⟨h1, h2⟩ := firstP_write hf
          have hlen : l.length ≠ 0 := fun e => h0 (List.length_eq_zero_iff.1 e)
          have := write_read k (l.drop n) m' (by rw [List.length_drop]; omega) hr
          show writeL (c :: m') = l
          rw [writeL_cons, this, h1, List.take_append_drop]

theorem read_back (t : ByteArray) (w : World) (hp : PlainAt w) (hs : t.size ≤ 46912496118442) :
    Calls Tryd.prog 27 #[.string ⟨(writeL t.data.toList).toArray⟩] w fun e w' => e = .returned (.tuple #[.string t, .int .i64 0]) ∧ Below w.heap.size w w' := by
  have hl := writeL_len t.data.toList
  have := read_any ⟨(writeL t.data.toList).toArray⟩ w hp (by
    show (writeL t.data.toList).toArray.size ≤ _
    simp at hl ⊢
    omega)
  rw [show (ByteArray.mk (writeL t.data.toList).toArray).data.toList = writeL t.data.toList by simp, read_write] at this
  have e : (⟨t.data.toList.toArray⟩ : ByteArray) = t := by obtain ⟨⟨l⟩⟩ := t; rfl
  simp only [readV, e] at this
  exact this

theorem write_back (t : ByteArray) (m : List UInt8) (w : World) (hp : PlainAt w) (hs : t.size ≤ 46912496118442) (h : readL t.data.toList = some m) :
    Calls Tryd.prog 26 #[.string ⟨m.toArray⟩] w fun e w' => e = .returned (.string t) ∧ Below w.heap.size w w' := by
  have hl := readL_len _ _ _ (Nat.le_refl _) h
  have := write_any ⟨m.toArray⟩ w hp (by
    show m.toArray.size ≤ _
    simp at hl ⊢
    omega)
  rw [show (ByteArray.mk m.toArray).data.toList = m by simp, write_read _ _ _ (Nat.le_refl _) h] at this
  have e : (⟨t.data.toList.toArray⟩ : ByteArray) = t := by obtain ⟨⟨l⟩⟩ := t; rfl
  rw [e] at this
  exact this

set_option maxHeartbeats 1500000 in
set_option maxRecDepth 100000 in
theorem valtexts_any (p : Option Addr) (cap : Nat) (ts : List ByteArray) (w : World) (hp : PlainAt w) (ht : TxtAt w p ts) (hl : ts.length ≤ maxLen) (hs : ∀ t ∈ ts, t.size ≤ 46912496118442) :
    Calls Tryd.prog 8 #[.slice p ts.length cap] w fun e w' => e = .returned (.bool true) ∧ Below w.heap.size w w' := by
  have HP := hid hp
  have HT := hid ht
  have HS := hid hs
  unfold maxLen at hl
  clear hp ht hs
  go_enter Tryd.func8, Tryd.ntmps8
  go_wp2_with (first
    | (go_at_call 9; refine (fixed_any _ HP.out).mono ?_; rintro e w1 ⟨rfl, q1⟩))
  go_loopg [16] ts.length (fun g vi wr => ∃ i : Nat, vi = .int .i64 i ∧ i ≤ ts.length ∧ ts.length - i ≤ g ∧ Below w.heap.size w wr)
  case atStart => exact ⟨0, rfl, by omega, by omega, q1⟩
  case round =>
    obtain ⟨i, rfl, hi, hgk, hb⟩ := hrel
    by_cases hlt : i < ts.length
    · have hltz : (i : Int) < (ts.length : Int) := by omega
      have hiz : (0 : Int) ≤ (i : Int) := by omega
      rcases HT.out with hn | ⟨b, off, rfl, hc⟩
      · rw [hn] at hlt; simp at hlt
      have c0 : wr.cell? ⟨b, off + i, none⟩ = some (.string ts[i]) := (hb.cell (p := ⟨b, off + i, none⟩) (cell_block (hc i hlt))).trans (hc i hlt)
      have hts := HS.out _ (List.getElem_mem hlt)
      obtain ⟨t, htt⟩ : ∃ t, ts[i] = t := ⟨_, rfl⟩
      rw [htt] at c0 hts
      have HB := hid hb
      have HTS : Hid (t.size * 3 ≤ 140737488355328 ∧ t.size ≤ 140737488355327) := ⟨by omega, by omega⟩
      clear hc htt hb q1
      cases hr : readL t.data.toList with
      | none =>
        have HR := hid hr
        clear hr
        go_wp2_with fail
        refine (write_any _ _ (HP.out.on HB.out) hts).mono ?_
        rintro e w2 ⟨rfl, q2⟩
        have b2 : Below w.heap.size w w2 := bel_then HB.out HB.out.size q2
        go_wp2_with fail
        refine (read_back t w2 (HP.out.on b2) hts).mono ?_
        rintro e w3 ⟨rfl, q3⟩
        have b3 : Below w.heap.size w w3 := bel_then b2 b2.size q3
        go_wp2_with fail
        refine (rwrite_any _ _ HTS.out.1).mono ?_
        rintro e w4 ⟨rfl, q4⟩
        have b4 : Below w.heap.size w w4 := bel_then b3 b3.size q4
        go_wp2_with fail
        refine (read_any t w4 (HP.out.on b4) HTS.out.2).mono ?_
        rintro e w5 ⟨rfl, q5⟩
        rw [HR.out]
        simp only [readV]
        have b5 : Below w.heap.size w w5 := bel_then b4 b4.size q5
        go_wp2_with fail
        refine (rread_any _ _ HTS.out.2).mono ?_
        rintro e w6 ⟨rfl, q6⟩
        rw [HR.out]
        simp only [readV]
        have b6 : Below w.heap.size w w6 := bel_then b5 b5.size q6
        go_wp2_with fail
        go_roundg (ts.length - (i + 1))
        case measure => omega
        exact ⟨i + 1, by go_num, by omega, by omega, b6⟩
      | some m =>
        have HR := hid hr
        clear hr
        go_wp2_with fail
        refine (write_any _ _ (HP.out.on HB.out) hts).mono ?_
        rintro e w2 ⟨rfl, q2⟩
        have b2 : Below w.heap.size w w2 := bel_then HB.out HB.out.size q2
        go_wp2_with fail
        refine (read_back t w2 (HP.out.on b2) hts).mono ?_
        rintro e w3 ⟨rfl, q3⟩
        have b3 : Below w.heap.size w w3 := bel_then b2 b2.size q3
        go_wp2_with fail
        refine (rwrite_any _ _ HTS.out.1).mono ?_
        rintro e w4 ⟨rfl, q4⟩
        have b4 : Below w.heap.size w w4 := bel_then b3 b3.size q4
        go_wp2_with fail
        refine (read_any t w4 (HP.out.on b4) HTS.out.2).mono ?_
        rintro e w5 ⟨rfl, q5⟩
        rw [HR.out]
        simp only [readV]
        have b5 : Below w.heap.size w w5 := bel_then b4 b4.size q5
        go_wp2_with fail
        refine (rread_any _ _ HTS.out.2).mono ?_
        rintro e w6 ⟨rfl, q6⟩
        rw [HR.out]
        simp only [readV]
        have b6 : Below w.heap.size w w6 := bel_then b5 b5.size q6
        go_wp2_with fail
        refine (write_back t m w6 (HP.out.on b6) hts HR.out).mono ?_
        rintro e w7 ⟨rfl, q7⟩
        have b7 : Below w.heap.size w w7 := bel_then b6 b6.size q7
        go_wp2_with fail
        go_roundg (ts.length - (i + 1))
        case measure => omega
        exact ⟨i + 1, by go_num, by omega, by omega, b7⟩
    · have hltz : ¬ (i : Int) < (ts.length : Int) := by omega
      go_wp2_with fail
      go_ret
      exact ⟨rfl, hb⟩

end Go.Proofs.YtmjchokacmbkoaaDoor
