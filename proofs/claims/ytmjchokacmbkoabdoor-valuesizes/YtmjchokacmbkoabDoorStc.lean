/-
  The contracts of swapRangeCmpFunc and rotateCmpFunc, of slices, over fields.
-/
import Derived.Test.YtmjchokacmbkoabDoorStbc
import Derived.Test.YtmjchokacmbkoabDoorSor
import Derived.Sort.WalkB2
import Derived.Sort.WalkB12
import Derived.Deep.LoopGhost
namespace Go.Proofs.YtmjchokacmbkoabDoor
open Go.RowKit Go.Sort Go.Lib Go.Shelf

/-- The runs of n from a on and from b on have changed places. -/
def Swapd (a b n : Nat) (d dk : Array Fx) : Prop :=
  dk.size = d.size ∧ (∀ t, t < n → dk[a + t]! = d[b + t]!) ∧ (∀ t, t < n → dk[b + t]! = d[a + t]!) ∧ ∀ i, (i < a ∨ a + n ≤ i) → (i < b ∨ b + n ≤ i) → dk[i]! = d[i]!

theorem Swapd.zero (a b : Nat) (d : Array Fx) : Swapd a b 0 d d := ⟨rfl, fun t ht => by omega, fun t ht => by omega, fun _ _ _ => rfl⟩

theorem Swapd.step {a b n : Nat} {d dk : Array Fx} (h : Swapd a b n d dk) (hab : a + n < b) (hb : b + n < d.size) : Swapd a b (n + 1) d (swp dk (a + n) (b + n)) := by
  obtain ⟨h1, h2, h3, h4⟩ := h
  refine ⟨by rw [size_swp, h1], fun t ht => ?_, fun t ht => ?_, fun i hi hj => ?_⟩
  · by_cases e : t = n
    · subst e
      rw [swp_left _ _ _ (by omega) (by omega)]
      exact h4 _ (by omega) (by omega)
    · rw [swp_other _ _ _ _ (by omega) (by omega)]; exact h2 t (by omega)
  · by_cases e : t = n
    · subst e
      rw [swp_right _ _ _ (by omega)]
      exact h4 _ (by omega) (by omega)
    · rw [swp_other _ _ _ _ (by omega) (by omega)]; exact h3 t (by omega)
  · rw [swp_other _ _ _ _ (by omega) (by omega)]
    exact h4 _ (by omega) (by omega)

theorem swk_cells {w0 W : World} {blk off : Nat} {d0 dk : Array Fx} (h : SWK encX 2 w0 blk off dk W) (R : RowK encX 2 w0 blk off d0) (hs : dk.size = d0.size) (i : Nat) (hi : i < dk.size) :
    W.cell? ⟨blk, off + i * 2, none⟩ = some (.string dk[i]!.name) ∧ W.frozen? ⟨blk, off + i * 2, none⟩ = false ∧ W.cell? ⟨blk, off + i * 2 + 1, none⟩ = some dk[i]!.sl ∧ W.frozen? ⟨blk, off + i * 2 + 1, none⟩ = false := by
  have H := h.holds R.hblk R.hH hs
  have e0 := H (i * 2) (by rw [size_flatK]; omega)
  have e1 := H (i * 2 + 1) (by rw [size_flatK]; omega)
  rw [get_flatK _ _ _ _ (by omega)] at e0 e1
  rw [show i * 2 / 2 = i by omega, show i * 2 % 2 = 0 by omega] at e0
  rw [show (i * 2 + 1) / 2 = i by omega, show (i * 2 + 1) % 2 = 1 by omega] at e1
  exact ⟨e0.1, e0.2, e1.1, e1.2⟩

theorem swk_swapped {w0 W : World} {blk off : Nat} {d0 dk : Array Fx} (h : SWK encX 2 w0 blk off dk W) (R : RowK encX 2 w0 blk off d0) (i j : Nat) (hi : i < dk.size) (hj : j < dk.size) :
    SWK encX 2 w0 blk off (swp dk i j) ((((W.drew.setCell ⟨blk, off + i * 2, none⟩ (.string dk[j]!.name)).setCell ⟨blk, off + i * 2 + 1, none⟩ dk[j]!.sl).setCell ⟨blk, off + j * 2, none⟩ (.string dk[i]!.name)).setCell ⟨blk, off + j * 2 + 1, none⟩ dk[i]!.sl) :=
  h.swapped R i j hi hj

theorem cell_other {W : World} {b p q : Nat} {v u : Value} (h : W.cell? ⟨b, q, none⟩ = some u) (hne : p ≠ q) : (W.setCell ⟨b, p, none⟩ v).cell? ⟨b, q, none⟩ = some u := 
  (World.cell?_setCell_other (w := W) (a := ⟨b, p, none⟩) (b := ⟨b, q, none⟩) (v := v) (by intro e; cases e; exact hne rfl)).trans h

set_option maxHeartbeats 4000000 in
set_option maxRecDepth 1000000 in
theorem swapR_any (blk off cap a b n : Nat) (fv : Value) (d0 d : Array Fx) (w0 w : World) (R : RowK encX 2 w0 blk off d0) (hs : d0.size = d.size) (S : SWK encX 2 w0 blk off d w) (hab : a + n ≤ b) (hb : b + n ≤ d.size) (hsz : d.size < 2305843009213693952) :
    Calls Tryd.prog 88 #[.slice (some ⟨blk, off, none⟩) d.size cap, .int .i64 a, .int .i64 b, .int .i64 n, fv] w fun e w' =>
      e = .returned (.tuple #[]) ∧ ∃ dk, SWK encX 2 w0 blk off dk w' ∧ Swapd a b n d dk := by
  have mixed := Tryd.mixed
  have S0 : Aside (SWK encX 2 w0 blk off d w) := S
  have RR : Aside (RowK encX 2 w0 blk off d0) := R
  clear S R
  go_enter Tryd.func88, Tryd.ntmps88
  go_wp2_with fail
  go_loopg [10] n (fun kx s8 wr => ∃ (i : Nat) (dk : Array Fx), s8 = .int .i64 i ∧ i ≤ n ∧ n - i ≤ kx ∧ Aside (Swapd a b i d dk) ∧ Aside (SWK encX 2 w0 blk off dk wr))
  case atStart => exact ⟨0, d, rfl, by omega, by omega, Swapd.zero a b d, S0⟩
  case round =>
    clear S0
    obtain ⟨i, dk, rfl, hi, hkx, HS, S1⟩ := hrel
    by_cases hlt : i < n
    · have hltz : (i : Int) < (n : Int) := by omega
      have hds : dk.size = d.size := HS.out.1
      go_wp2_with fail
      have ea44 : ((a : Int) + (i : Int)).toNat = a + i := by omega
      have pa44 : (0 : Int) ≤ (a : Int) + (i : Int) := by omega
      have ba44 : (a : Int) + (i : Int) < (d.size : Int) := by omega
      have ra44 : IntKind.i64.wrap ((a : Int) + (i : Int)) = (a : Int) + (i : Int) := by rw [IntKind.wrap_i64]; omega
      have ec44 : ((b : Int) + (i : Int)).toNat = b + i := by omega
      have pc44 : (0 : Int) ≤ (b : Int) + (i : Int) := by omega
      have bc44 : (b : Int) + (i : Int) < (d.size : Int) := by omega
      have rc44 : IntKind.i64.wrap ((b : Int) + (i : Int)) = (b : Int) + (i : Int) := by rw [IntKind.wrap_i64]; omega
      obtain ⟨a0, a1, a2, a3⟩ := swk_cells S1.out RR.out (by omega) (a + i) (by omega)
      obtain ⟨b0, b1, b2, b3⟩ := swk_cells S1.out RR.out (by omega) (b + i) (by omega)
      have S2 : Aside _ := swk_swapped S1.out RR.out (a + i) (b + i) (by omega) (by omega)
      generalize dk[a + i]! = x at a0 a2 S2
      generalize dk[b + i]! = y at b0 b2 S2
      unfold Fx.sl at a2 b2 S2
      obtain ⟨p, hp⟩ : ∃ p, off + (a + i) * 2 = p := ⟨_, rfl⟩
      obtain ⟨q, hq⟩ : ∃ q, off + (b + i) * 2 = q := ⟨_, rfl⟩
      have n1 : ¬ p = q := by omega
      have n2 : ¬ q = p := by omega
      have n3 : ¬ p + 1 = q := by omega
      have n4 : ¬ q = p + 1 := by omega
      have n5 : ¬ p = q + 1 := by omega
      have n6 : ¬ q + 1 = p := by omega
      rw [hp] at a0 a1 a2 a3 S2
      rw [hq] at b0 b1 b2 b3 S2
      clear S1
      go_wp2_with fail
      go_big_region_o
      clear a0 a1 a2 a3 b0 b1 b2 b3
      go_wp2_with fail
      go_roundg (n - (i + 1))
      case measure => omega
      case rel => exact ⟨i + 1, swp dk (a + i) (b + i), by go_num, by omega, by omega, HS.out.step (by omega) (by omega), S2⟩
    · have hltz : ¬ (i : Int) < (n : Int) := by omega
      obtain rfl : i = n := by omega
      go_wp2_with fail
      go_end0
      exact ⟨rfl, dk, S1.out, HS.out⟩

set_option maxHeartbeats 4000000 in
set_option maxRecDepth 1000000 in
theorem rotate_any (blk off cap a m b : Nat) (fv : Value) (d0 d : Array Fx) (w0 w : World) (R : RowK encX 2 w0 blk off d0) (hs : d0.size = d.size) (S : SWK encX 2 w0 blk off d w) (ham : a < m) (hmb : m < b) (hb : b ≤ d.size) (hsz : d.size < 2305843009213693952) :
    Calls Tryd.prog 83 #[.slice (some ⟨blk, off, none⟩) d.size cap, .int .i64 a, .int .i64 m, .int .i64 b, fv] w fun e w' =>
      e = .returned (.tuple #[]) ∧ ∃ dk, SWK encX 2 w0 blk off dk w' ∧ Rot a m b d dk := by
  have S0 : Aside (SWK encX 2 w0 blk off d w) := S
  have RR : Aside (RowK encX 2 w0 blk off d0) := R
  clear S R
  have ei : IntKind.i64.wrap ((m : Int) - (a : Int)) = ((m - a : Nat) : Int) := by rw [IntKind.wrap_i64]; omega
  have ej : IntKind.i64.wrap ((b : Int) - (m : Int)) = ((b - m : Nat) : Int) := by rw [IntKind.wrap_i64]; omega
  go_enter Tryd.func83, Tryd.ntmps83
  go_wp2_with fail
  go_loopg [10, 11] (b - a) (fun kx vi vj wr => ∃ (i j : Nat) (dk : Array Fx), vi = .int .i64 i ∧ vj = .int .i64 j ∧ 0 < i ∧ 0 < j ∧ a + i ≤ m ∧ m + j ≤ b ∧ i + j ≤ kx ∧ dk.size = d.size ∧ Aside (∀ d', Rot (m - i) m (m + j) dk d' → Rot a m b d d') ∧ Aside (SWK encX 2 w0 blk off dk wr))
  case atStart => exact ⟨m - a, b - m, d, rfl, rfl, by omega, by omega, by omega, by omega, by omega, rfl, fun d' h => by rw [show m - (m - a) = a by omega, show m + (b - m) = b by omega] at h; exact h, S0⟩
  case round =>
    clear S0
    obtain ⟨i, j, dk, rfl, rfl, hi, hj, hai, hjb, hkx, hds, HR, S1⟩ := hrel
    have emi : IntKind.i64.wrap ((m : Int) - (i : Int)) = ((m - i : Nat) : Int) := by rw [IntKind.wrap_i64]; omega
    rcases Nat.lt_trichotomy i j with hij | hij | hij
    · have hc : ((i : Int) == (j : Int)) = false := beq_eq_false_iff_ne.2 (by omega)
      have hne : ¬ (i : Int) = (j : Int) := by omega
      have hg : ¬ (j : Int) < (i : Int) := by omega
      have e2 : IntKind.i64.wrap ((m : Int) + (j : Int)) = (m : Int) + (j : Int) := by rw [IntKind.wrap_i64]; omega
      have e3 : IntKind.i64.wrap ((m : Int) + (j : Int) - (i : Int)) = ((m + j - i : Nat) : Int) := by rw [IntKind.wrap_i64]; omega
      have e4 : IntKind.i64.wrap ((j : Int) - (i : Int)) = ((j - i : Nat) : Int) := by rw [IntKind.wrap_i64]; omega
      have hc := swapR_any blk off cap (m - i) (m + j - i) i fv d0 dk w0 wr RR.out (by omega) S1.out (by omega) (by omega) (by omega)
      rw [hds] at hc
      have HC := hid hc
      clear hc S1
      go_wp2_with (first | (go_at_call 88; refine HC.out.mono ?_; rintro e w1 ⟨rfl, dl, hsl, hsw⟩; have HSL : Aside _ := hsl; have HSW : Aside _ := hsw; clear hsl hsw))
      go_roundg j
      case measure => omega
      case rel =>
        refine ⟨i, j - i, dl, rfl, rfl, hi, by omega, hai, by omega, by omega, HSW.out.1.trans hds, fun d' h => HR.out d' ?_, HSL⟩
        obtain ⟨k1, k2, k3, k4⟩ := HSW.out
        refine Rot.right (i := i) (dk := dl) (by omega) (by omega) (by omega) (by omega) k1 k2 (fun t ht => ?_) (fun x h1 h2 => k4 x (by omega) (by omega)) (by rw [show m + j - i = m + (j - i) by omega]; exact h)
        exact k3 t ht
    · subst hij
      have hc := swapR_any blk off cap (m - i) m i fv d0 dk w0 wr RR.out (by omega) S1.out (by omega) (by omega) (by omega)
      rw [hds] at hc
      have HC := hid hc
      clear hc S1
      go_wp2_with (first | (go_at_call 88; refine HC.out.mono ?_; rintro e w1 ⟨rfl, dl, hsl, hsw⟩; have HSL : Aside _ := hsl; have HSW : Aside _ := hsw; clear hsl hsw))
      go_end0
      obtain ⟨k1, k2, k3, k4⟩ := HSW.out
      exact ⟨rfl, dl, HSL.out, HR.out dl (Rot.even (i := i) (by omega) (by omega) (by omega) (by omega) k1 k2 k3 k4)⟩
    · have hc0 : ((i : Int) == (j : Int)) = false := beq_eq_false_iff_ne.2 (by omega)
      have hne : ¬ (i : Int) = (j : Int) := by omega
      have hg : (j : Int) < (i : Int) := by omega
      have e4 : IntKind.i64.wrap ((i : Int) - (j : Int)) = ((i - j : Nat) : Int) := by rw [IntKind.wrap_i64]; omega
      have hc := swapR_any blk off cap (m - i) m j fv d0 dk w0 wr RR.out (by omega) S1.out (by omega) (by omega) (by omega)
      rw [hds] at hc
      have HC := hid hc
      clear hc S1
      go_wp2_with (first | (go_at_call 88; refine HC.out.mono ?_; rintro e w1 ⟨rfl, dl, hsl, hsw⟩; have HSL : Aside _ := hsl; have HSW : Aside _ := hsw; clear hsl hsw))
      go_roundg i
      case measure => omega
      case rel =>
        refine ⟨i - j, j, dl, rfl, rfl, by omega, hj, by omega, hjb, by omega, HSW.out.1.trans hds, fun d' h => HR.out d' ?_, HSL⟩
        obtain ⟨k1, k2, k3, k4⟩ := HSW.out
        exact Rot.left (j := j) (dk := dl) (by omega) (by omega) (by omega) (by omega) k1 k2 k3 (fun x h1 h2 => k4 x (by omega) (by omega)) (by rw [show m - i + j = m - (i - j) by omega]; exact h)

end Go.Proofs.YtmjchokacmbkoabDoor
