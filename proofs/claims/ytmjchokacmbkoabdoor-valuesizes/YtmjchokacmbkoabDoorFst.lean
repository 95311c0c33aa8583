/-
  The contract of first: the byte that stands first in a written text.
-/
import Derived.Test.YtmjchokacmbkoabDoorTxt
import Derived.Test.YtmjchokacmbkoabDoorShelf
namespace Go.Proofs.YtmjchokacmbkoabDoor
open Go.RowKit

def hexv (c : UInt8) : Int := Lib.indexByte digitsA.data.toList c

def firstP : List UInt8 → Option (UInt8 × Nat)
  | [] => none
  | c :: r => if plainB (c.toNat : Int) then some (c, 1) else if c ≠ 37 then none else
    match r with
    | a :: b :: _ => if hexv a < 0 ∨ hexv b < 0 then none else
      if plainB ((UInt8.ofNat (16 * (hexv a).toNat + (hexv b).toNat)).toNat : Int) then none else some (UInt8.ofNat (16 * (hexv a).toNat + (hexv b).toNat), 3)
    | _ => none

def firstV (o : Option (UInt8 × Nat)) : Value := match o with
  | some (c, n) => .tuple #[.int .u8 c.toNat, .int .i64 n]
  | none => .tuple #[.int .u8 0, .int .i64 0]

theorem hexv_cases (c : UInt8) : hexv c = -1 ∨ ∃ k : Nat, k < 16 ∧ hexv c = k ∧ c = hexd k := by
  by_cases h : ∃ k, k < 16 ∧ c = hexd k
  · obtain ⟨k, hk, rfl⟩ := h
    refine Or.inr ⟨k, hk, ?_, rfl⟩
    have : k = 0 ∨ k = 1 ∨ k = 2 ∨ k = 3 ∨ k = 4 ∨ k = 5 ∨ k = 6 ∨ k = 7 ∨ k = 8 ∨ k = 9 ∨ k = 10 ∨ k = 11 ∨ k = 12 ∨ k = 13 ∨ k = 14 ∨ k = 15 := by omega
    rcases this with rfl | rfl | rfl | rfl | rfl | rfl | rfl | rfl | rfl | rfl | rfl | rfl | rfl | rfl | rfl | rfl <;> decide
  · left
    have hn : ∀ k, k < 16 → hexd k ≠ c := fun k hk e => h ⟨k, hk, e.symm⟩
    have h0 := hn 0 (by decide); have h1 := hn 1 (by decide); have h2 := hn 2 (by decide); have h3 := hn 3 (by decide); have h4 := hn 4 (by decide); have h5 := hn 5 (by decide); have h6 := hn 6 (by decide); have h7 := hn 7 (by decide)
    have h8 := hn 8 (by decide); have h9 := hn 9 (by decide); have h10 := hn 10 (by decide); have h11 := hn 11 (by decide); have h12 := hn 12 (by decide); have h13 := hn 13 (by decide); have h14 := hn 14 (by decide); have h15 := hn 15 (by decide)
    unfold hexv
    show Lib.indexByte [48, 49, 50, 51, 52, 53, 54, 55, 56, 57, 97, 98, 99, 100, 101, 102] c = -1
    have g0 : ((48 : UInt8) == c) = false := beq_eq_false_iff_ne.2 h0
    have g1 : ((49 : UInt8) == c) = false := beq_eq_false_iff_ne.2 h1
    have g2 : ((50 : UInt8) == c) = false := beq_eq_false_iff_ne.2 h2
    have g3 : ((51 : UInt8) == c) = false := beq_eq_false_iff_ne.2 h3
    have g4 : ((52 : UInt8) == c) = false := beq_eq_false_iff_ne.2 h4
    have g5 : ((53 : UInt8) == c) = false := beq_eq_false_iff_ne.2 h5
    have g6 : ((54 : UInt8) == c) = false := beq_eq_false_iff_ne.2 h6
    have g7 : ((55 : UInt8) == c) = false := beq_eq_false_iff_ne.2 h7
    have g8 : ((56 : UInt8) == c) = false := beq_eq_false_iff_ne.2 h8
    have g9 : ((57 : UInt8) == c) = false := beq_eq_false_iff_ne.2 h9
    have g10 : ((97 : UInt8) == c) = false := beq_eq_false_iff_ne.2 h10
    have g11 : ((98 : UInt8) == c) = false := beq_eq_false_iff_ne.2 h11
    have g12 : ((99 : UInt8) == c) = false := beq_eq_false_iff_ne.2 h12
    have g13 : ((100 : UInt8) == c) = false := beq_eq_false_iff_ne.2 h13
    have g14 : ((101 : UInt8) == c) = false := beq_eq_false_iff_ne.2 h14
    have g15 : ((102 : UInt8) == c) = false := beq_eq_false_iff_ne.2 h15
    simp [Lib.indexByte, g0, g1, g2, g3, g4, g5, g6, g7, g8, g9, g10, g11, g12, g13, g14, g15]

set_option maxHeartbeats 2000000 in
theorem first_plain (s : ByteArray) (w : World) (hp : PlainAt w) (h0 : 0 < s.size) (hpl : plainB (s[0].toNat : Int) = true) :
    Calls Tryd.prog 38 #[.string s] w fun e w' => e = .returned (.tuple #[.int .u8 s[0].toNat, .int .i64 1]) ∧ Below w.heap.size w w' := by
  have HP := hid hp
  clear hp
  go_enter Tryd.func38, Tryd.ntmps38
  go_wp2_with (first | (go_at_call 41; refine (isPlain_any _ _ HP.out).mono ?_; rintro e w1 ⟨rfl, hb1⟩))
  go_ret2
  exact ⟨rfl, hb1⟩

set_option maxHeartbeats 2000000 in
theorem first_other (s : ByteArray) (w : World) (hp : PlainAt w) (h0 : 0 < s.size) (hpl : plainB (s[0].toNat : Int) = false) (hn : (s[0].toNat : Int) ≠ 37 ∨ s.size < 3) :
    Calls Tryd.prog 38 #[.string s] w fun e w' => e = .returned (.tuple #[.int .u8 0, .int .i64 0]) ∧ Below w.heap.size w w' := by
  have HP := hid hp
  clear hp
  by_cases hc : (s[0].toNat : Int) = 37
  · have h3 : (s.size : Int) < 3 := by omega
    go_enter Tryd.func38, Tryd.ntmps38
    go_wp2_with (first | (go_at_call 41; refine (isPlain_any _ _ HP.out).mono ?_; rintro e w1 ⟨rfl, hb1⟩))
    go_ret2
    exact ⟨rfl, hb1⟩
  · go_enter Tryd.func38, Tryd.ntmps38
    go_wp2_with (first | (go_at_call 41; refine (isPlain_any _ _ HP.out).mono ?_; rintro e w1 ⟨rfl, hb1⟩))
    go_ret2
    exact ⟨rfl, hb1⟩

theorem ixd_any (c : UInt8) (w : World) : Calls Tryd.prog 57 #[.string ⟨#[48, 49, 50, 51, 52, 53, 54, 55, 56, 57, 97, 98, 99, 100, 101, 102]⟩, .int .u8 c.toNat] w fun e w' => e = .returned (.int .i64 (hexv c)) ∧ w' = w := by
  refine (Tryd.strings_IndexByte _ _ w).mono ?_
  rintro e w' ⟨rfl, rfl⟩
  refine ⟨ret_int ?_, rfl⟩
  unfold hexv digitsA
  simp

set_option maxHeartbeats 2000000 in
theorem first_bad (s : ByteArray) (w : World) (hp : PlainAt w) (h0 : 2 < s.size) (hpl : plainB (s[0].toNat : Int) = false) (hn : (s[0].toNat : Int) = 37) (hab : hexv s[1] < 0 ∨ hexv s[2] < 0) :
    Calls Tryd.prog 38 #[.string s] w fun e w' => e = .returned (.tuple #[.int .u8 0, .int .i64 0]) ∧ Below w.heap.size w w' := by
  have HP := hid hp
  obtain ⟨a, ha⟩ : ∃ a, hexv s[1] = a := ⟨_, rfl⟩
  obtain ⟨b, hb⟩ : ∃ b, hexv s[2] = b := ⟨_, rfl⟩
  rw [ha, hb] at hab
  have h14 := hid (And.intro hpl hn)
  have HA := hid ha
  have HB := hid hb
  clear hp ha hb
  have h3 : ¬ (s.size : Int) < 3 := by omega
  have h11 : 1 < s.size := by omega
  have h12 : (1 : Int) < s.size := by omega
  have h13 : (2 : Int) < s.size := by omega
  by_cases h1 : a < 0
  · clear hab
    go_enter Tryd.func38, Tryd.ntmps38
    go_wp2_with (first | (go_at_call 41; refine (isPlain_any _ _ HP.out).mono ?_; rintro e w1 ⟨rfl, hb1⟩))
    go_quiet (first | (go_at_call 57; refine Calls.quiet_of_same (ixd_any _ _)))
    rw [HA.out, HB.out]
    go_wp2_with fail
    go_ret2
    exact ⟨rfl, bel_drewN hb1 _⟩
  · have h2 : b < 0 := by omega
    clear hab
    go_enter Tryd.func38, Tryd.ntmps38
    go_wp2_with (first | (go_at_call 41; refine (isPlain_any _ _ HP.out).mono ?_; rintro e w1 ⟨rfl, hb1⟩))
    go_quiet (first | (go_at_call 57; refine Calls.quiet_of_same (ixd_any _ _)))
    rw [HA.out, HB.out]
    go_wp2_with fail
    go_ret2
    exact ⟨rfl, bel_drewN hb1 _⟩

theorem or_nibble (a b : Nat) (ha : a < 16) (hb : b < 16) : bits BinOp.or IntKind.i64 ((a : Int) * 16) b % 256 = ((16 * a + b : Nat) : Int) := by
  have h : ∀ a b : Fin 16, bits BinOp.or IntKind.i64 ((a.val : Int) * 16) b.val % 256 = ((16 * a.val + b.val : Nat) : Int) := by decide +kernel
  exact h ⟨a, ha⟩ ⟨b, hb⟩

set_option maxHeartbeats 2000000 in
theorem first_hexp (s : ByteArray) (w : World) (hp : PlainAt w) (h0 : 2 < s.size) (hpl : plainB (s[0].toNat : Int) = false) (hn : (s[0].toNat : Int) = 37) (a b k : Nat) (ha : hexv s[1] = a) (hb : hexv s[2] = b) (ha16 : a < 16) (hb16 : b < 16) (hk : k = 16 * a + b) (hq : plainB (k : Int) = true) :
    Calls Tryd.prog 38 #[.string s] w fun e w' => e = .returned (.tuple #[.int .u8 0, .int .i64 0]) ∧ Below w.heap.size w w' := by
  have HP := hid hp
  have HA := hid ha
  have HB := hid hb
  have HO : Hid (bits BinOp.or IntKind.i64 ((a : Int) * 16) b % 256 = (k : Int)) := by rw [hk]; exact or_nibble a b ha16 hb16
  have HQ := hid hq
  clear hp ha hb hk
  have h3 : ¬ (s.size : Int) < 3 := by omega
  have h11 : 1 < s.size := by omega
  have h12 : (1 : Int) < s.size := by omega
  have h13 : (2 : Int) < s.size := by omega
  have h14 := hid (And.intro hpl hn)
  go_enter Tryd.func38, Tryd.ntmps38
  go_wp2_with (first | (go_at_call 41; refine (isPlain_any _ _ HP.out).mono ?_; rintro e w1 ⟨rfl, hb1⟩))
  go_quiet (first | (go_at_call 57; refine Calls.quiet_of_same (ixd_any _ _)))
  rw [HA.out, HB.out]
  have hb1' := bel_drewN hb1 nq
  have HP2 : PlainAt (w1.drewN nq) := HP.out.on hb1'
  go_wp2_with (first | (go_at_call 41; rw [HO.out]; refine (isPlain_any _ _ HP2).mono ?_; rintro e w2 ⟨rfl, hb2⟩; rw [HQ.out]))
  go_ret2
  exact ⟨rfl, hb1'.trans (hb2.mono hb1'.size)⟩

set_option maxHeartbeats 2000000 in
theorem first_hexn (s : ByteArray) (w : World) (hp : PlainAt w) (h0 : 2 < s.size) (hpl : plainB (s[0].toNat : Int) = false) (hn : (s[0].toNat : Int) = 37) (a b k : Nat) (ha : hexv s[1] = a) (hb : hexv s[2] = b) (ha16 : a < 16) (hb16 : b < 16) (hk : k = 16 * a + b) (hq : plainB (k : Int) = false) :
    Calls Tryd.prog 38 #[.string s] w fun e w' => e = .returned (.tuple #[.int .u8 k, .int .i64 3]) ∧ Below w.heap.size w w' := by
  have HP := hid hp
  have HA := hid ha
  have HB := hid hb
  have HO : Hid (bits BinOp.or IntKind.i64 ((a : Int) * 16) b % 256 = (k : Int)) := by rw [hk]; exact or_nibble a b ha16 hb16
  have HQ := hid hq
  clear hp ha hb hk
  have h3 : ¬ (s.size : Int) < 3 := by omega
  have h11 : 1 < s.size := by omega
  have h12 : (1 : Int) < s.size := by omega
  have h13 : (2 : Int) < s.size := by omega
  have h14 := hid (And.intro hpl hn)
  go_enter Tryd.func38, Tryd.ntmps38
  go_wp2_with (first | (go_at_call 41; refine (isPlain_any _ _ HP.out).mono ?_; rintro e w1 ⟨rfl, hb1⟩))
  go_quiet (first | (go_at_call 57; refine Calls.quiet_of_same (ixd_any _ _)))
  rw [HA.out, HB.out]
  have hb1' := bel_drewN hb1 nq
  have HP2 : PlainAt (w1.drewN nq) := HP.out.on hb1'
  go_wp2_with (first | (go_at_call 41; rw [HO.out]; refine (isPlain_any _ _ HP2).mono ?_; rintro e w2 ⟨rfl, hb2⟩; rw [HQ.out]))
  go_ret2
  exact ⟨rfl, hb1'.trans (hb2.mono hb1'.size)⟩

theorem plain37 : plainB 37 = false := by decide

theorem first_any (s : ByteArray) (w : World) (hp : PlainAt w) (h0 : 0 < s.size) :
    Calls Tryd.prog 38 #[.string s] w fun e w' => e = .returned (firstV (firstP s.data.toList)) ∧ Below w.heap.size w w' := by
  obtain ⟨c, r, hl⟩ : ∃ c r, s.data.toList = c :: r := by
    cases h : s.data.toList with
    | nil => have : s.data.toList.length = s.size := by simp
             rw [h] at this; simp at this; omega
    | cons c r => exact ⟨c, r, rfl⟩
  have hlen : s.size = r.length + 1 := by
    have : s.data.toList.length = s.size := by simp
    rw [hl] at this; simp at this; omega
  have e0 : s[0] = c := by
    have := byte_at s 0 h0
    rw [← this]; simp [hl]
  rw [hl]
  cases hpl : plainB (c.toNat : Int) with
  | true =>
    refine (first_plain s w hp h0 (by rw [e0]; exact hpl)).mono ?_
    rintro e w' ⟨rfl, hb⟩
    refine ⟨?_, hb⟩
    rw [e0]; simp [firstP, hpl, firstV]
  | false =>
    by_cases hc : c = 37
    · subst hc
      match r, hl, hlen with
      | [], hl, hlen =>
        refine (first_other s w hp h0 (by rw [e0]; exact hpl) (Or.inr (by rw [hlen]; simp))).mono ?_
        rintro e w' ⟨rfl, hb⟩
        exact ⟨by simp [firstP, plain37, firstV], hb⟩
      | [a], hl, hlen =>
        refine (first_other s w hp h0 (by rw [e0]; exact hpl) (Or.inr (by rw [hlen]; simp))).mono ?_
        rintro e w' ⟨rfl, hb⟩
        exact ⟨by simp [firstP, plain37, firstV], hb⟩
      | a :: b :: t, hl, hlen =>
        have h2 : 2 < s.size := by rw [hlen]; simp
        have e1 : s[1] = a := by rw [← byte_at s 1 (by omega)]; simp [hl]
        have e2 : s[2] = b := by rw [← byte_at s 2 (by omega)]; simp [hl]
        have h37 : ((s[0].toNat : Nat) : Int) = 37 := by rw [e0]; rfl
        by_cases hab : hexv a < 0 ∨ hexv b < 0
        · refine (first_bad s w hp h2 (by rw [e0]; exact hpl) h37 (by rw [e1, e2]; exact hab)).mono ?_
          rintro e w' ⟨rfl, hb⟩
          exact ⟨by simp [firstP, plain37, firstV, hab], hb⟩
        · obtain ⟨x, hx, hxe, _⟩ : ∃ k : Nat, k < 16 ∧ hexv a = k ∧ a = hexd k := by
            rcases hexv_cases a with h | h
            · omega
            · exact h
          obtain ⟨y, hy, hye, _⟩ : ∃ k : Nat, k < 16 ∧ hexv b = k ∧ b = hexd k := by
            rcases hexv_cases b with h | h
            · omega
            · exact h
          have en : (UInt8.ofNat (16 * x + y)).toNat = 16 * x + y := by rw [UInt8.toNat_ofNat']; omega
          have hab' : ¬ ((x : Int) < 0 ∨ (y : Int) < 0) := by omega
          cases hq : plainB ((16 * x + y : Nat) : Int)
          · refine (first_hexn s w hp h2 (by rw [e0]; exact hpl) h37 x y _ (by rw [e1]; exact hxe) (by rw [e2]; exact hye) hx hy rfl hq).mono ?_
            rintro e w' ⟨rfl, hb⟩
            refine ⟨?_, hb⟩
            simp only [firstP, hpl, hxe, hye, if_neg hab', Int.toNat_natCast, en, hq]; simp [firstV]; omega
          · refine (first_hexp s w hp h2 (by rw [e0]; exact hpl) h37 x y _ (by rw [e1]; exact hxe) (by rw [e2]; exact hye) hx hy rfl hq).mono ?_
            rintro e w' ⟨rfl, hb⟩
            refine ⟨?_, hb⟩
            simp only [firstP, hpl, hxe, hye, if_neg hab', Int.toNat_natCast, en, hq]; simp [firstV]
    · have h37 : ((s[0].toNat : Nat) : Int) ≠ 37 := by
        rw [e0]
        intro h
        exact hc (UInt8.toNat_inj.1 (by have : c.toNat = 37 := by omega
                                        rw [this]; rfl))
      refine (first_other s w hp h0 (by rw [e0]; exact hpl) (Or.inl h37)).mono ?_
      rintro e w' ⟨rfl, hb⟩
      exact ⟨by simp [firstP, hpl, firstV, hc], hb⟩

end Go.Proofs.YtmjchokacmbkoabDoor
