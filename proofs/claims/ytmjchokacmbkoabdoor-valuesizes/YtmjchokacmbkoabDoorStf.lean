/-
  The contracts of stableCmpFunc and SortStableFunc of slices, over fields.
-/
import Derived.Test.YtmjchokacmbkoabDoorSte
namespace Go.Proofs.YtmjchokacmbkoabDoor
open Go.RowKit Go.Sort Go.Lib Go.Shelf

theorem ins_swk (blk off cap a b : Nat) (d0 dk : Array Fx) (w0 W : World) (R : RowK encX 2 w0 blk off d0) (hs : d0.size = dk.size) (S : SWK encX 2 w0 blk off dk W) (hab : a ≤ b) (hb : b ≤ dk.size) (hsz : dk.size < 1152921504606846976) :
    Calls Tryd.prog 75 #[.slice (some ⟨blk, off, none⟩) dk.size cap, .int .i64 a, .int .i64 b, .func (.func 46) #[] #[]] W fun e w' =>
      e = .returned (.tuple #[]) ∧ ∃ dl, SWK encX 2 w0 blk off dl w' ∧ PermIn a b dk dl ∧ SortedIn (ltOf cmpF) a b dl ∧ Stab Fx.name dk dl := by
  refine (ins_any blk off cap a b dk W (S.holds R.hblk R.hH hs.symm) (S.lt R.hblk) hab hb (by omega)).mono ?_
  rintro e w' ⟨rfl, n, os, rfl⟩
  obtain ⟨h1, h2⟩ := insertionSort_holds swoF dk a b hab hb
  exact ⟨rfl, _, S.on R.hblk n _ os h1.1, h1, h2, insertionSort_stab (K := Fx.name) ltF_ne dk a b hb⟩

set_option maxHeartbeats 4000000 in
set_option maxRecDepth 1000000 in
theorem stable_any (blk off cap : Nat) (d : Array Fx) (w : World) (hH : HoldsK encX 2 w blk off d) (hblk : blk < w.heap.size) (hsz : d.size < 1152921504606846976) :
    Calls Tryd.prog 62 #[.slice (some ⟨blk, off, none⟩) d.size cap, .int .i64 d.size, .func (.func 46) #[] #[]] w fun e w' => e = .returned (.tuple #[]) ∧ Sorts w blk off d w' := by
  have RR : Aside (RowK encX 2 w blk off d) := ⟨fun _ => rfl, encX_one, hH, hblk⟩
  have S0 : Aside (SWK encX 2 w blk off d w) := SWK.start hH
  clear hH hblk
  go_enter Tryd.func62, Tryd.ntmps62
  go_wp2_with fail
  go_loopg [7, 8] d.size (fun kx va vb wr => ∃ (A B q : Nat) (dk : Array Fx), va = .int .i64 A ∧ vb = .int .i64 B ∧ B = A + 20 ∧ Hid (A = q * 20) ∧ A ≤ d.size ∧ d.size - A ≤ kx ∧ Aside (Way Fx.name d dk) ∧ Aside (SegTo (ltOf cmpF) 20 q dk) ∧ Aside (SWK encX 2 w blk off dk wr))
  case atStart => exact ⟨0, 20, 0, d, rfl, rfl, rfl, (show Hid _ from by simp [Hid]), by omega, by omega, Way.refl _ _, segTo_zero _ _ _, S0⟩
  case round =>
  clear S0
  obtain ⟨A, B, q, dk, rfl, rfl, hB, HA, hAn, hkx, HW, HG, S1⟩ := hrel
  have hdk : dk.size = d.size := HW.out.size
  by_cases hlt : B ≤ d.size
  · have hltz : (B : Int) ≤ (d.size : Int) := by omega
    have hc := ins_swk blk off cap A B d dk w wr RR.out hdk.symm S1.out (by omega) (by omega) (by omega)
    rw [hdk] at hc
    have HC := hid hc
    have HB := hid hB
    have hAB : A < B := by omega
    clear hc S1 hB
    go_wp2_with (first | (go_at_call 75; refine HC.out.mono ?_; rintro e w1 ⟨rfl, dl, hs1, hp1, ho1, ht1⟩; have HS1 : Aside _ := hs1; have HP1 := hid hp1; have HO1 := hid ho1; have HT1 := hid ht1; clear hs1 hp1 ho1 ht1))
    go_roundg (d.size - B)
    case measure => omega
    case rel =>
      have hb := HB.out
      have ha := HA.out
      have hp := HP1.out
      have ho := HO1.out
      rw [hb, ha] at hp ho
      exact ⟨B, B + 20, q + 1, dl, by first | rfl | go_num, by first | rfl | go_num, rfl, (show Hid _ from by show B = _; omega), hlt, by omega, HW.out.step HP1.out hlt HT1.out, HG.out.step hp ho, HS1⟩
  have hltz : ¬ (B : Int) ≤ (d.size : Int) := by omega
  have hc := ins_swk blk off cap A d.size d dk w wr RR.out hdk.symm S1.out hAn (by omega) (by omega)
  rw [hdk] at hc
  have HC := hid hc
  have hseg : ∀ dl, PermIn A d.size dk dl → SortedIn (ltOf cmpF) A d.size dl → SegFrom (ltOf cmpF) 20 0 d.size dl := fun dl h1 h2 => by
    have ha := HA.out
    refine HG.out.last (by omega) ?_ ?_
    · rw [← ha]; exact h1
    · rw [← ha]; exact h2
  have HSEG := hid hseg
  clear hc S1 hseg hB hkx
  go_wp2_with (first | (go_at_call 75; refine HC.out.mono ?_; rintro e w1 ⟨rfl, dl, hs1, hp1, ho1, ht1⟩; have HS1 : Aside _ := hs1; have HW1 : Aside (Way Fx.name d dl) := HW.out.step hp1 (Nat.le_refl _) ht1; have HF1 : Aside _ := HSEG.out dl hp1 ho1; clear hs1 hp1 ho1 ht1))
  clear HC HSEG HW HG HA hdk
  go_loopg [6] d.size (fun kx vc wr => ∃ (c : Nat) (dk : Array Fx), vc = .int .i64 c ∧ 0 < c ∧ d.size - c ≤ kx ∧ Aside (Way Fx.name d dk) ∧ Aside (SegFrom (ltOf cmpF) c 0 d.size dk) ∧ Aside (SWK encX 2 w blk off dk wr))
  case atStart => exact ⟨20, dl, rfl, by omega, by omega, HW1, HF1, HS1⟩
  case round =>
  clear HW1 HF1 HS1
  obtain ⟨c, dk, rfl, hc0, hkx, HW, HF, S1⟩ := hrel
  by_cases hlt : c < d.size
  · have hltz2 : (c : Int) < (d.size : Int) := by omega
    go_wp2_with fail
    go_loopg [7, 8] d.size (fun kx va vb wr => ∃ (A B q : Nat) (dk : Array Fx), va = .int .i64 A ∧ vb = .int .i64 B ∧ B = A + 2 * c ∧ Hid (A = q * (2 * c)) ∧ A ≤ d.size ∧ d.size - A ≤ kx ∧ Aside (Way Fx.name d dk) ∧ Aside (SegTo (ltOf cmpF) (2 * c) q dk) ∧ Aside (SegFrom (ltOf cmpF) c A d.size dk) ∧ Aside (SWK encX 2 w blk off dk wr))
    case atStart => exact ⟨0, 2 * c, 0, dk, rfl, by first | rfl | go_num, by omega, (show Hid _ from by simp [Hid]), by omega, by omega, HW, segTo_zero _ _ _, HF, S1⟩
    case round =>
    clear HW HF S1
    obtain ⟨A, B, q, dm, rfl, rfl, hB, HA, hAn, hkx2, HW, HG, HF, S1⟩ := hrel
    have hdm : dm.size = d.size := HW.out.size
    obtain ⟨M, hM⟩ : ∃ M, A + c = M := ⟨_, rfl⟩
    have hMz : (A : Int) + (c : Int) = (M : Int) := by omega
    by_cases hlt3 : B ≤ d.size
    · have hltz3 : (B : Int) ≤ (d.size : Int) := by omega
      have hc := sym_any blk off cap d w RR.out (by omega) (B - A) A M B (Nat.le_refl _) (by omega) (by omega) dm wr hdm.symm (by omega) S1.out (by rw [← hM]; exact HF.out.first (by omega)) (by rw [← hM]; exact HF.out.second (by omega) hlt3)
      rw [hdm] at hc
      have HC := hid hc
      have HB := hid hB
      have hAB : A < B := by omega
      have hBw : IntKind.i64.wrap ((B : Int) + 2 * (c : Int)) = (B : Int) + 2 * (c : Int) := by rw [IntKind.wrap_i64]; omega
      clear hc S1 hB hM
      go_wp2_with (first | (go_at_call 76; refine HC.out.mono ?_; rintro e w1 ⟨rfl, dl, hs1, hm1⟩; have HS1 : Aside _ := hs1; have HM1 := hid hm1; clear hs1 hm1))
      go_roundg (d.size - B)
      case measure => omega
      case rel =>
        obtain ⟨hp1, ho1, ht1⟩ := HM1.out
        have hb := HB.out
        have ha := HA.out
        have hp := hp1
        have ho := ho1
        have hp2 := hp1
        rw [hb] at hp2
        rw [hb, ha] at hp ho
        refine ⟨B, B + 2 * c, q + 1, dl, by first | rfl | go_num, by first | rfl | go_num, rfl, (show Hid _ from ?_), hlt3, by omega, HW.out.step hp1 hlt3 ht1, HG.out.step hp ho, ?_, HS1⟩
        · show B = (q + 1) * (2 * c)
          rw [Nat.add_mul, Nat.one_mul, ← ha]; exact hb
        · rw [hb]; exact HF.out.step hp2
    have hltz3 : ¬ (B : Int) ≤ (d.size : Int) := by omega
    have hcw : IntKind.i64.wrap ((c : Int) * 2) = (c : Int) * 2 := by rw [IntKind.wrap_i64]; omega
    have hseg : ∀ dl, PermIn A d.size dm dl → SortedIn (ltOf cmpF) A d.size dl → SegFrom (ltOf cmpF) (2 * c) 0 d.size dl := fun dl h1 h2 => by
      have ha := HA.out
      refine HG.out.last (by omega) ?_ ?_
      · rw [← ha]; exact h1
      · rw [← ha]; exact h2
    have HSEG := hid hseg
    clear hseg
    by_cases hlt4 : M < d.size
    · have hltz4 : (M : Int) < (d.size : Int) := by omega
      have hc := sym_any blk off cap d w RR.out (by omega) (d.size - A) A M d.size (Nat.le_refl _) (by omega) hlt4 dm wr hdm.symm (by omega) S1.out (by rw [← hM]; exact HF.out.first (by omega)) (by rw [← hM]; exact HF.out.second (by omega) (Nat.le_refl _))
      rw [hdm] at hc
      have HC := hid hc
      clear hc S1 hM hB
      go_wp2_with (first | (go_at_call 76; refine HC.out.mono ?_; rintro e w1 ⟨rfl, dl, hs1, hm1⟩; have HS1 : Aside _ := hs1; have HM1 := hid hm1; clear hs1 hm1))
      go_roundg (d.size - 2 * c)
      case measure => omega
      case rel =>
        obtain ⟨hp1, ho1, ht1⟩ := HM1.out
        exact ⟨2 * c, dl, by first | rfl | go_num, by omega, by omega, HW.out.step hp1 (Nat.le_refl _) ht1, HSEG.out dl hp1 ho1, HS1⟩
    · have hltz4 : ¬ (M : Int) < (d.size : Int) := by omega
      have HSO := hid (HF.out.short (show d.size ≤ A + c by omega))
      clear hM hB
      go_wp2_with fail
      go_roundg (d.size - 2 * c)
      case measure => omega
      case rel => exact ⟨2 * c, dm, by first | rfl | go_num, by omega, by omega, HW, HSEG.out dm (permIn_refl _ _ _) HSO.out, S1⟩
  · have hltz2 : ¬ (c : Int) < (d.size : Int) := by omega
    go_wp2_with fail
    go_end0
    obtain ⟨n, os, hw⟩ := S1.out
    exact ⟨rfl, dk, n, os, HW.out.1, HF.out.short (by omega), HW.out.2, hw⟩

set_option maxHeartbeats 1000000 in
theorem sort_any (blk off cap : Nat) (d : Array Fx) (w : World) (hH : HoldsK encX 2 w blk off d) (hblk : blk < w.heap.size) (hsz : d.size < 1152921504606846976) :
    Calls Tryd.prog 45 #[.slice (some ⟨blk, off, none⟩) d.size cap, .func (.func 46) #[] #[]] w fun e w' => e = .returned (.tuple #[]) ∧ Sorts w blk off d w' := by
  have HI := hid (stable_any blk off cap d w hH hblk hsz)
  clear hH
  go_enter Tryd.func45, Tryd.ntmps45
  go_wp2_with (first | (go_at_call 62; refine HI.out.mono ?_; rintro e w1 ⟨rfl, hs⟩))
  go_end0
  exact ⟨rfl, hs⟩

end Go.Proofs.YtmjchokacmbkoabDoor
