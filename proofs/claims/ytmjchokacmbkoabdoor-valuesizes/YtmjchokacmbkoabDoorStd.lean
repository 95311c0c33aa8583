/-
  The contract of symMergeCmpFunc of slices, over fields.
-/
import Derived.Test.YtmjchokacmbkoabDoorStc
namespace Go.Proofs.YtmjchokacmbkoabDoor
open Go.RowKit Go.Sort Go.Lib Go.Shelf

theorem swk_in {w0 W : World} {blk off : Nat} {d0 dk : Array Fx} (h : SWK encX 2 w0 blk off dk W) (R : RowK encX 2 w0 blk off d0) (hs : dk.size = d0.size) (i : Nat) (hi : i < dk.size) (n : Nat) (os : Array Obj) :
    (grow (W.drewN n) os).cell? ⟨blk, off + i * 2, none⟩ = some (.string dk[i]!.name) ∧ (grow (W.drewN n) os).cell? ⟨blk, off + i * 2 + 1, none⟩ = some (.slice dk[i]!.p dk[i]!.txt.length dk[i]!.cap) := by
  have := swk_cells (h.grown n os) R hs i hi
  exact ⟨this.1, this.2.2.1⟩

theorem cmp_in (x y : Fx) (W : World) (n : Nat) (os : Array Obj) :
    Calls Tryd.prog 46 #[.agg #[.string x.name, .slice x.p x.txt.length x.cap], .agg #[.string y.name, .slice y.p y.txt.length y.cap]] (grow (W.drewN n) os) fun e w' => e = .returned (.int .i64 (cmpF x y)) ∧ ∃ q os', w' = grow ((grow (W.drewN n) os).drewN q) os' := byName_any x y _

theorem ltF_true {x y : Fx} (h : ltOf cmpF x y = true) : cmpF x y < 0 := of_decide_eq_true h
theorem ltF_false {x y : Fx} (h : ltOf cmpF x y = false) : ¬ cmpF x y < 0 := of_decide_eq_false h

set_option maxHeartbeats 4000000 in
set_option maxRecDepth 1000000 in
theorem sym_left (blk off cap a m b : Nat) (d0 d : Array Fx) (w0 w : World) (R : RowK encX 2 w0 blk off d0) (hs : d0.size = d.size) (S : SWK encX 2 w0 blk off d w) (hm : m = a + 1) (hmb : m < b) (hb : b ≤ d.size) (hsz : d.size < 2305843009213693952) (hR : SortedIn (ltOf cmpF) m b d) :
    Calls Tryd.prog 76 #[.slice (some ⟨blk, off, none⟩) d.size cap, .int .i64 a, .int .i64 m, .int .i64 b, .func (.func 46) #[] #[]] w fun e w' =>
      e = .returned (.tuple #[]) ∧ ∃ dk, SWK encX 2 w0 blk off dk w' ∧ Mrg (ltOf cmpF) Fx.name a b d dk := by
  have mixed := Tryd.mixed
  have eg := enters_byName
  have S0 : Aside (SWK encX 2 w0 blk off d w) := S
  have RR : Aside (RowK encX 2 w0 blk off d0) := R
  have HR := hid hR
  have HM := hid hm
  have e0 : IntKind.i64.wrap ((m : Int) - (a : Int)) = 1 := by rw [IntKind.wrap_i64]; omega
  have ham : a < m := by omega
  clear S R hR hm
  go_enter Tryd.func76, Tryd.ntmps76
  go_wp2_with fail
  go_loopg [10, 11] (b - m) (fun kx vi vj wr => ∃ (i j : Nat), vi = .int .i64 i ∧ vj = .int .i64 j ∧ m ≤ i ∧ i ≤ j ∧ j ≤ b ∧ j - i ≤ kx ∧ Hid (m < i → ltOf cmpF d[i - 1]! d[a]! = true) ∧ Hid (j < b → ltOf cmpF d[j]! d[a]! = false) ∧ Aside (SWK encX 2 w0 blk off d wr))
  case atStart => exact ⟨m, b, rfl, rfl, by omega, by omega, by omega, by omega, fun h => absurd h (Nat.lt_irrefl _), fun h => absurd h (Nat.lt_irrefl _), S0⟩
  case round =>
    clear S0
    obtain ⟨i, j, rfl, rfl, hmi, hij, hjb, hkx, HLO, HHI, S1⟩ := hrel
    by_cases hlt : i < j
    · have hltz : (i : Int) < (j : Int) := by omega
      obtain ⟨h, hh⟩ : ∃ h, (i + j) / 2 = h := ⟨_, rfl⟩
      have hz : ((i : Int) + (j : Int)) / 2 = (h : Int) := by omega
      have h1 : i ≤ h := by omega
      have h2 : h < j := by omega
      clear hh
      go_wp2_with fail
      cases hL : ltOf cmpF d[h]! d[a]! with
      | true =>
        have ea : ((h : Int)).toNat = h := by omega
        have pa : (0 : Int) ≤ (h : Int) := by omega
        have ba : (h : Int) < (d.size : Int) := by omega
        have ec : ((a : Int)).toNat = a := by omega
        have pc : (0 : Int) ≤ (a : Int) := by omega
        have bc : (a : Int) < (d.size : Int) := by omega
        have la := swk_in S1.out RR.out (by omega) (h) (by omega)
        have lb := swk_in S1.out RR.out (by omega) (a) (by omega)
        have hv := ltF_true hL
        have HL := hid hL
        clear hL
        generalize d[h]! = x at la hv
        generalize d[a]! = y at lb hv
        have la0 := fun n os => (la n os).1
        have la1 := fun n os => (la n os).2
        have lb0 := fun n os => (lb n os).1
        have lb1 := fun n os => (lb n os).2
        clear la lb
        have hd : decide (cmpF x y < 0) = true := decide_eq_true hv
        have hc := cmp_in x y wr
        go_wp2_with fail
        go_quiet_grown (first | (go_at_fn 46; refine Calls.grown_of (hc _ _)))
        have S2 : Aside (SWK encX 2 w0 blk off d (grow (wr.drewN nq) osq)) := S1.out.grown nq osq
        clear la0 la1 lb0 lb1 hc S1
        generalize grow (wr.drewN nq) osq = w2 at S2 ⊢
        clear nq osq
        go_wp2_with fail
        go_roundg (j - (h + 1))
        case measure => omega
        case rel => exact ⟨h + 1, j, by go_num, rfl, by omega, by omega, hjb, by omega, fun _ => HL.out, HHI, S2⟩
      | false =>
        have ea : ((h : Int)).toNat = h := by omega
        have pa : (0 : Int) ≤ (h : Int) := by omega
        have ba : (h : Int) < (d.size : Int) := by omega
        have ec : ((a : Int)).toNat = a := by omega
        have pc : (0 : Int) ≤ (a : Int) := by omega
        have bc : (a : Int) < (d.size : Int) := by omega
        have la := swk_in S1.out RR.out (by omega) (h) (by omega)
        have lb := swk_in S1.out RR.out (by omega) (a) (by omega)
        have hv := ltF_false hL
        have HL := hid hL
        clear hL
        generalize d[h]! = x at la hv
        generalize d[a]! = y at lb hv
        have la0 := fun n os => (la n os).1
        have la1 := fun n os => (la n os).2
        have lb0 := fun n os => (lb n os).1
        have lb1 := fun n os => (lb n os).2
        clear la lb
        have hd : decide (cmpF x y < 0) = false := decide_eq_false hv
        have hc := cmp_in x y wr
        go_wp2_with fail
        go_quiet_grown (first | (go_at_fn 46; refine Calls.grown_of (hc _ _)))
        have S2 : Aside (SWK encX 2 w0 blk off d (grow (wr.drewN nq) osq)) := S1.out.grown nq osq
        clear la0 la1 lb0 lb1 hc S1
        generalize grow (wr.drewN nq) osq = w2 at S2 ⊢
        clear nq osq
        go_wp2_with fail
        go_roundg (h - i)
        case measure => omega
        case rel => exact ⟨i, h, rfl, rfl, hmi, h1, by omega, by omega, HLO, fun _ => HL.out, S2⟩
    · have hltz : ¬ (i : Int) < (j : Int) := by omega
      obtain rfl : i = j := by omega
      have e1 : IntKind.i64.wrap ((i : Int) - 1) = ((i - 1 : Nat) : Int) := by rw [IntKind.wrap_i64]; omega
      clear hij hkx hlt
      have SA := S1
      go_wp2_with fail
      go_loopg [13] (b - a) (fun kx vk wr => ∃ (k : Nat) (dk : Array Fx), vk = .int .i64 k ∧ a ≤ k ∧ k ≤ i - 1 ∧ i - 1 - k ≤ kx ∧ dk.size = d.size ∧ Aside (Rot a (a + 1) (k + 1) d dk) ∧ Aside (SWK encX 2 w0 blk off dk wr))
      case atStart => exact ⟨a, d, rfl, by omega, by omega, by omega, rfl, rot_none _ _ _, SA⟩
      case round =>
        clear SA S1
        obtain ⟨k, dk, rfl, hak, hki, hkx, hds, HT, S1⟩ := hrel
        by_cases hlt : k < i - 1
        · have hltz2 : (k : Int) < ((i - 1 : Nat) : Int) := by omega
          go_wp2_with fail
          have ea : ((k : Int)).toNat = k := by omega
          have pa : (0 : Int) ≤ (k : Int) := by omega
          have ba : (k : Int) < (d.size : Int) := by omega
          have ra : IntKind.i64.wrap ((k : Int)) = (k : Int) := by rw [IntKind.wrap_i64]; omega
          have ec : ((k : Int) + 1).toNat = k + 1 := by omega
          have pc : (0 : Int) ≤ (k : Int) + 1 := by omega
          have bc : (k : Int) + 1 < (d.size : Int) := by omega
          have rc : IntKind.i64.wrap ((k : Int) + 1) = (k : Int) + 1 := by rw [IntKind.wrap_i64]; omega
          obtain ⟨a0, a1, a2, a3⟩ := swk_cells S1.out RR.out (by omega) (k) (by omega)
          obtain ⟨b0, b1, b2, b3⟩ := swk_cells S1.out RR.out (by omega) (k + 1) (by omega)
          have S2 : Aside _ := swk_swapped S1.out RR.out (k) (k + 1) (by omega) (by omega)
          generalize dk[k]! = x at a0 a2 S2
          generalize dk[k + 1]! = y at b0 b2 S2
          unfold Fx.sl at a2 b2 S2
          obtain ⟨p, hp⟩ : ∃ p, off + (k) * 2 = p := ⟨_, rfl⟩
          obtain ⟨q, hq⟩ : ∃ q, off + (k + 1) * 2 = q := ⟨_, rfl⟩
          have n1 : ¬ p = q := by omega
          have n2 : ¬ q = p := by omega
          have n3 : ¬ p + 1 = q := by omega
          have n4 : ¬ q = p + 1 := by omega
          have n5 : ¬ p = q + 1 := by omega
          have n6 : ¬ q + 1 = p := by omega
          rw [hp] at a0 a1 a2 a3 S2
          rw [hq] at b0 b1 b2 b3 S2
          clear S1
          go_wp2_with fail
          go_big_region_o
          clear a0 a1 a2 a3 b0 b1 b2 b3
          go_wp2_with fail
          go_roundg (i - 1 - (k + 1))
          case measure => omega
          case rel => exact ⟨k + 1, swp dk k (k + 1), by go_num, by omega, by omega, by omega, by rw [size_swp]; exact hds, HT.out.shift_up hak (by omega), S2⟩
        · have hltz2 : ¬ (k : Int) < ((i - 1 : Nat) : Int) := by omega
          go_wp2_with fail
          (try simp only [Exit.inBlock, Exit.then]); refine bodyPost_ret (results_none rfl _ _ _) rfl ?_
          have hk : k + 1 = i := by omega
          have ht := HT.out
          rw [hk] at ht
          have hlo := HLO.out
          have hhi := HHI.out
          have hr := HR.out
          rw [HM.out] at hlo hr
          exact ⟨rfl, dk, S1.out, Mrg.one_left swoF ltF_ne ht (by omega) hjb hb hr hlo hhi⟩

set_option maxHeartbeats 4000000 in
set_option maxRecDepth 1000000 in
theorem sym_right (blk off cap a m b : Nat) (d0 d : Array Fx) (w0 w : World) (R : RowK encX 2 w0 blk off d0) (hs : d0.size = d.size) (S : SWK encX 2 w0 blk off d w) (hm : a + 1 < m) (hmb : b = m + 1) (hb : b ≤ d.size) (hsz : d.size < 2305843009213693952) (hL : SortedIn (ltOf cmpF) a m d) :
    Calls Tryd.prog 76 #[.slice (some ⟨blk, off, none⟩) d.size cap, .int .i64 a, .int .i64 m, .int .i64 b, .func (.func 46) #[] #[]] w fun e w' =>
      e = .returned (.tuple #[]) ∧ ∃ dk, SWK encX 2 w0 blk off dk w' ∧ Mrg (ltOf cmpF) Fx.name a b d dk := by
  have mixed := Tryd.mixed
  have eg := enters_byName
  have S0 : Aside (SWK encX 2 w0 blk off d w) := S
  have RR : Aside (RowK encX 2 w0 blk off d0) := R
  have HR := hid hL
  have HM := hid hmb
  have e0 : IntKind.i64.wrap ((m : Int) - (a : Int)) = ((m - a : Nat) : Int) := by rw [IntKind.wrap_i64]; omega
  have e1 : (((m - a : Nat) : Int) == 1) = false := beq_eq_false_iff_ne.2 (by omega)
  have e2 : IntKind.i64.wrap ((b : Int) - (m : Int)) = 1 := by rw [IntKind.wrap_i64]; omega
  have hms : m < d.size := by omega
  clear S R hL hmb
  go_enter Tryd.func76, Tryd.ntmps76
  go_wp2_with fail
  go_loopg [14, 15] (m - a) (fun kx vi vj wr => ∃ (i j : Nat), vi = .int .i64 i ∧ vj = .int .i64 j ∧ a ≤ i ∧ i ≤ j ∧ j ≤ m ∧ j - i ≤ kx ∧ Hid (a < i → ltOf cmpF d[m]! d[i - 1]! = false) ∧ Hid (j < m → ltOf cmpF d[m]! d[j]! = true) ∧ Aside (SWK encX 2 w0 blk off d wr))
  case atStart => exact ⟨a, m, rfl, rfl, by omega, by omega, by omega, by omega, fun h => absurd h (Nat.lt_irrefl _), fun h => absurd h (Nat.lt_irrefl _), S0⟩
  case round =>
    clear S0
    obtain ⟨i, j, rfl, rfl, hmi, hij, hjb, hkx, HLO, HHI, S1⟩ := hrel
    by_cases hlt : i < j
    · have hltz : (i : Int) < (j : Int) := by omega
      obtain ⟨h, hh⟩ : ∃ h, (i + j) / 2 = h := ⟨_, rfl⟩
      have hz : ((i : Int) + (j : Int)) / 2 = (h : Int) := by omega
      have h1 : i ≤ h := by omega
      have h2 : h < j := by omega
      clear hh
      go_wp2_with fail
      cases hL : ltOf cmpF d[m]! d[h]! with
      | false =>
        have ea : ((m : Int)).toNat = m := by omega
        have pa : (0 : Int) ≤ (m : Int) := by omega
        have ba : (m : Int) < (d.size : Int) := by omega
        have ec : ((h : Int)).toNat = h := by omega
        have pc : (0 : Int) ≤ (h : Int) := by omega
        have bc : (h : Int) < (d.size : Int) := by omega
        have la := swk_in S1.out RR.out (by omega) (m) (by omega)
        have lb := swk_in S1.out RR.out (by omega) (h) (by omega)
        have hv := ltF_false hL
        have HL := hid hL
        clear hL
        generalize d[m]! = x at la hv
        generalize d[h]! = y at lb hv
        have la0 := fun n os => (la n os).1
        have la1 := fun n os => (la n os).2
        have lb0 := fun n os => (lb n os).1
        have lb1 := fun n os => (lb n os).2
        clear la lb
        have hd : decide (cmpF x y < 0) = false := decide_eq_false hv
        have hc := cmp_in x y wr
        go_wp2_with fail
        go_quiet_grown (first | (go_at_fn 46; refine Calls.grown_of (hc _ _)))
        have S2 : Aside (SWK encX 2 w0 blk off d (grow (wr.drewN nq) osq)) := S1.out.grown nq osq
        clear la0 la1 lb0 lb1 hc S1
        generalize grow (wr.drewN nq) osq = w2 at S2 ⊢
        clear nq osq
        go_wp2_with fail
        go_roundg (j - (h + 1))
        case measure => omega
        case rel => exact ⟨h + 1, j, by go_num, rfl, by omega, by omega, hjb, by omega, fun _ => HL.out, HHI, S2⟩
      | true =>
        have ea : ((m : Int)).toNat = m := by omega
        have pa : (0 : Int) ≤ (m : Int) := by omega
        have ba : (m : Int) < (d.size : Int) := by omega
        have ec : ((h : Int)).toNat = h := by omega
        have pc : (0 : Int) ≤ (h : Int) := by omega
        have bc : (h : Int) < (d.size : Int) := by omega
        have la := swk_in S1.out RR.out (by omega) (m) (by omega)
        have lb := swk_in S1.out RR.out (by omega) (h) (by omega)
        have hv := ltF_true hL
        have HL := hid hL
        clear hL
        generalize d[m]! = x at la hv
        generalize d[h]! = y at lb hv
        have la0 := fun n os => (la n os).1
        have la1 := fun n os => (la n os).2
        have lb0 := fun n os => (lb n os).1
        have lb1 := fun n os => (lb n os).2
        clear la lb
        have hd : decide (cmpF x y < 0) = true := decide_eq_true hv
        have hc := cmp_in x y wr
        go_wp2_with fail
        go_quiet_grown (first | (go_at_fn 46; refine Calls.grown_of (hc _ _)))
        have S2 : Aside (SWK encX 2 w0 blk off d (grow (wr.drewN nq) osq)) := S1.out.grown nq osq
        clear la0 la1 lb0 lb1 hc S1
        generalize grow (wr.drewN nq) osq = w2 at S2 ⊢
        clear nq osq
        go_wp2_with fail
        go_roundg (h - i)
        case measure => omega
        case rel => exact ⟨i, h, rfl, rfl, hmi, h1, by omega, by omega, HLO, fun _ => HL.out, S2⟩
    · have hltz : ¬ (i : Int) < (j : Int) := by omega
      obtain rfl : i = j := by omega
      clear hij hkx hlt
      have SA := S1
      go_wp2_with fail
      go_loopg [17] (m - a) (fun kx vk wr => ∃ (k : Nat) (dk : Array Fx), vk = .int .i64 k ∧ i ≤ k ∧ k ≤ m ∧ k - i ≤ kx ∧ dk.size = d.size ∧ Aside (Rot k m (m + 1) d dk) ∧ Aside (SWK encX 2 w0 blk off dk wr))
      case atStart => exact ⟨m, d, rfl, by omega, by omega, by omega, rfl, rot_none' _ _ _, SA⟩
      case round =>
        clear SA S1
        obtain ⟨k, dk, rfl, hak, hki, hkx, hds, HT, S1⟩ := hrel
        by_cases hlt : i < k
        · obtain ⟨kp, rfl⟩ : ∃ kp, k = kp + 1 := ⟨k - 1, by omega⟩
          have hltz2 : (i : Int) < (kp : Int) + 1 := by omega
          go_wp2_with fail
          have ea : ((kp : Int) + 1).toNat = kp + 1 := by omega
          have pa : (0 : Int) ≤ (kp : Int) + 1 := by omega
          have ba : (kp : Int) + 1 < (d.size : Int) := by omega
          have ra : IntKind.i64.wrap ((kp : Int) + 1) = (kp : Int) + 1 := by rw [IntKind.wrap_i64]; omega
          have ec : ((kp : Int)).toNat = kp := by omega
          have pc : (0 : Int) ≤ (kp : Int) := by omega
          have bc : (kp : Int) < (d.size : Int) := by omega
          have rc : IntKind.i64.wrap ((kp : Int)) = (kp : Int) := by rw [IntKind.wrap_i64]; omega
          obtain ⟨a0, a1, a2, a3⟩ := swk_cells S1.out RR.out (by omega) (kp + 1) (by omega)
          obtain ⟨b0, b1, b2, b3⟩ := swk_cells S1.out RR.out (by omega) (kp) (by omega)
          have S2 : Aside _ := swk_swapped S1.out RR.out (kp + 1) (kp) (by omega) (by omega)
          generalize dk[kp + 1]! = x at a0 a2 S2
          generalize dk[kp]! = y at b0 b2 S2
          unfold Fx.sl at a2 b2 S2
          obtain ⟨p, hp⟩ : ∃ p, off + (kp + 1) * 2 = p := ⟨_, rfl⟩
          obtain ⟨q, hq⟩ : ∃ q, off + (kp) * 2 = q := ⟨_, rfl⟩
          have n1 : ¬ p = q := by omega
          have n2 : ¬ q = p := by omega
          have n3 : ¬ p + 1 = q := by omega
          have n4 : ¬ q = p + 1 := by omega
          have n5 : ¬ p = q + 1 := by omega
          have n6 : ¬ q + 1 = p := by omega
          rw [hp] at a0 a1 a2 a3 S2
          rw [hq] at b0 b1 b2 b3 S2
          clear S1
          go_wp2_with fail
          go_big_region_o
          clear a0 a1 a2 a3 b0 b1 b2 b3
          go_wp2_with fail
          go_roundg (kp - i)
          case measure => omega
          case rel => exact ⟨kp, swp dk (kp + 1) kp, by first | rfl | go_num, by omega, by omega, by omega, by rw [size_swp]; exact hds, HT.out.shift_down (by omega) (by omega), S2⟩
        · have hltz2 : ¬ (i : Int) < (k : Int) := by omega
          go_wp2_with fail
          (try simp only [Exit.inBlock, Exit.then]); refine bodyPost_ret (results_none rfl _ _ _) rfl ?_
          obtain rfl : k = i := by omega
          have hlo := HLO.out
          have hhi := HHI.out
          rw [HM.out]
          exact ⟨rfl, dk, S1.out, Mrg.one_right swoF ltF_ne HT.out (by omega) (by omega) (by omega) HR.out hlo hhi⟩

end Go.Proofs.YtmjchokacmbkoabDoor
