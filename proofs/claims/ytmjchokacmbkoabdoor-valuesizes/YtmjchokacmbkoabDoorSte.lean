/-
  The contract of symMergeCmpFunc of slices, over fields: the general case, and the whole.
-/
import Derived.Test.YtmjchokacmbkoabDoorStd
import Derived.Deep.CutRange
namespace Go.Proofs.YtmjchokacmbkoabDoor
open Go.RowKit Go.Sort Go.Lib Go.Shelf

/-- What a merge from a to b is asked. -/
def SymIs (blk off cap : Nat) (d0 : Array Fx) (w0 : World) (a m b : Nat) : Prop :=
  ∀ (d : Array Fx) (w : World), d0.size = d.size → b ≤ d.size → SWK encX 2 w0 blk off d w → SortedIn (ltOf cmpF) a m d → SortedIn (ltOf cmpF) m b d →
    Calls Tryd.prog 76 #[.slice (some ⟨blk, off, none⟩) d.size cap, .int .i64 a, .int .i64 m, .int .i64 b, .func (.func 46) #[] #[]] w fun e w' =>
      e = .returned (.tuple #[]) ∧ ∃ dk, SWK encX 2 w0 blk off dk w' ∧ Mrg (ltOf cmpF) Fx.name a b d dk

set_option maxHeartbeats 8000000 in
set_option maxRecDepth 1000000 in
theorem sym_general (blk off cap a m b : Nat) (d0 : Array Fx) (w0 : World) (R : RowK encX 2 w0 blk off d0) (hm : a + 1 < m) (hmb : m + 1 < b) (hsz : d0.size < 2305843009213693952)
    (IH : ∀ a' m' b', a' < m' → m' < b' → b' - a' < b - a → SymIs blk off cap d0 w0 a' m' b') : SymIs blk off cap d0 w0 a m b := by
  intro d w hs hb S hL hR
  have mixed := Tryd.mixed
  have eg := enters_byName
  have S0 : Aside (SWK encX 2 w0 blk off d w) := S
  have RR : Aside (RowK encX 2 w0 blk off d0) := R
  have HIH := hid IH
  have HSL := hid hL
  have HSR := hid hR
  have e0 : IntKind.i64.wrap ((m : Int) - (a : Int)) = ((m - a : Nat) : Int) := by rw [IntKind.wrap_i64]; omega
  have e1 : (((m - a : Nat) : Int) == 1) = false := beq_eq_false_iff_ne.2 (by omega)
  have e2 : IntKind.i64.wrap ((b : Int) - (m : Int)) = ((b - m : Nat) : Int) := by rw [IntKind.wrap_i64]; omega
  have e3 : (((b - m : Nat) : Int) == 1) = false := beq_eq_false_iff_ne.2 (by omega)
  obtain ⟨mid, hmid⟩ : ∃ mid, (a + b) / 2 = mid := ⟨_, rfl⟩
  have hmz : ((a : Int) + (b : Int)) / 2 = (mid : Int) := by omega
  have hm1 : 2 * mid ≤ a + b := by omega
  have hm2 : a + b ≤ 2 * mid + 1 := by omega
  obtain ⟨nn, hnn⟩ : ∃ nn, mid + m = nn := ⟨_, rfl⟩
  have hnz : (mid : Int) + (m : Int) = (nn : Int) := by omega
  have e5 : IntKind.i64.wrap ((nn : Int) - 1) = ((nn - 1 : Nat) : Int) := by rw [IntKind.wrap_i64]; omega
  have HNN := hid hnn
  clear S R hL hR IH hmid hnn
  go_enter Tryd.func76, Tryd.ntmps76
  go_upto_if 140 with fail
  go_cut [20, 21] from 138 to 146 (fun vs vr wx => w = wx ∧ ∃ s0 r0 : Nat, vs = .int .i64 s0 ∧ vr = .int .i64 r0 ∧ s0 ≤ r0 ∧ ((mid < m ∧ s0 + b = nn ∧ r0 = mid) ∨ (m ≤ mid ∧ s0 = a ∧ r0 = m)))
  case first =>
    by_cases hc : mid < m
    · have hcz : (mid : Int) < (m : Int) := by omega
      have e4 : IntKind.i64.wrap ((nn : Int) - (b : Int)) = ((nn - b : Nat) : Int) := by rw [IntKind.wrap_i64]; omega
      go_wp2_with fail
      go_meet
      case rel => exact ⟨rfl, nn - b, mid, rfl, rfl, by have := HNN.out; omega, Or.inl ⟨hc, by have := HNN.out; omega, rfl⟩⟩
    · have hcz : ¬ (mid : Int) < (m : Int) := by omega
      go_wp2_with fail
      go_meet
      case rel => exact ⟨rfl, a, m, rfl, rfl, by omega, Or.inr ⟨by omega, rfl, rfl⟩⟩
  case rest =>
  obtain ⟨rfl, s0, r0, rfl, rfl, hsr, hcase⟩ := hcut
  have hlo : a ≤ s0 ∧ r0 ≤ m ∧ r0 ≤ mid ∧ nn - s0 ≤ b ∧ nn - r0 ≥ m ∧ r0 < nn := by have := HNN.out; omega
  have HCASE := hid hcase
  obtain ⟨k1, k2, k3, k4, k5, k6⟩ := hlo
  clear hcase
  go_wp2_with fail
  go_loopg [20, 21] (r0 - s0) (fun kx vs vr wr => ∃ (s r : Nat), vs = .int .i64 s ∧ vr = .int .i64 r ∧ s0 ≤ s ∧ s ≤ r ∧ r ≤ r0 ∧ r - s ≤ kx ∧ Hid (s0 < s → ltOf cmpF d[nn - s]! d[s - 1]! = false) ∧ Hid (r < r0 → ltOf cmpF d[nn - 1 - r]! d[r]! = true) ∧ Aside (SWK encX 2 w0 blk off d wr))
  case atStart => exact ⟨s0, r0, rfl, rfl, by omega, by omega, by omega, by omega, fun h => absurd h (Nat.lt_irrefl _), fun h => absurd h (Nat.lt_irrefl _), S0⟩
  case round =>
  clear S0
  obtain ⟨s, r, rfl, rfl, hs0, hsr2, hr0, hkx, HLO, HHI, S1⟩ := hrel
  by_cases hlt : s < r
  · have hltz : (s : Int) < (r : Int) := by omega
    obtain ⟨c, hh⟩ : ∃ c, (s + r) / 2 = c := ⟨_, rfl⟩
    have hz : ((s : Int) + (r : Int)) / 2 = (c : Int) := by omega
    have h1 : s ≤ c := by omega
    have h2 : c < r := by omega
    have e6 : IntKind.i64.wrap (((nn - 1 : Nat) : Int) - (c : Int)) = ((nn - 1 - c : Nat) : Int) := by rw [IntKind.wrap_i64]; omega
    clear hh
    go_wp2_with fail
    cases hL : ltOf cmpF d[nn - 1 - c]! d[c]! with
    | false =>
      have ea : (((nn - 1 - c : Nat) : Int)).toNat = nn - 1 - c := by omega
      have pa : (0 : Int) ≤ ((nn - 1 - c : Nat) : Int) := by omega
      have ba : ((nn - 1 - c : Nat) : Int) < (d.size : Int) := by omega
      have ec : ((c : Int)).toNat = c := by omega
      have pc : (0 : Int) ≤ (c : Int) := by omega
      have bc : (c : Int) < (d.size : Int) := by omega
      have la := swk_in S1.out RR.out (by omega) (nn - 1 - c) (by omega)
      have lb := swk_in S1.out RR.out (by omega) (c) (by omega)
      have hv := ltF_false hL
      have HL := hid hL
      clear hL
      generalize d[nn - 1 - c]! = x at la hv
      generalize d[c]! = y at lb hv
      have la0 := fun n os => (la n os).1
      have la1 := fun n os => (la n os).2
      have lb0 := fun n os => (lb n os).1
      have lb1 := fun n os => (lb n os).2
      clear la lb
      have hd : decide (cmpF x y < 0) = false := decide_eq_false hv
      have hc := cmp_in x y wr
      go_wp2_with fail
      go_quiet_grown (first | (go_at_fn 46; refine Calls.grown_of (hc _ _)))
      have S2 : Aside (SWK encX 2 w0 blk off d (grow (wr.drewN nq) osq)) := S1.out.grown nq osq
      clear la0 la1 lb0 lb1 hc S1
      generalize grow (wr.drewN nq) osq = w2 at S2 ⊢
      clear nq osq
      go_wp2_with fail
      go_roundg (r - (c + 1))
      case measure => omega
      case rel => exact ⟨c + 1, r, by go_num, rfl, by omega, by omega, hr0, by omega, fun _ => by rw [show nn - (c + 1) = nn - 1 - c by omega]; exact HL.out, HHI, S2⟩
    | true =>
      have ea : (((nn - 1 - c : Nat) : Int)).toNat = nn - 1 - c := by omega
      have pa : (0 : Int) ≤ ((nn - 1 - c : Nat) : Int) := by omega
      have ba : ((nn - 1 - c : Nat) : Int) < (d.size : Int) := by omega
      have ec : ((c : Int)).toNat = c := by omega
      have pc : (0 : Int) ≤ (c : Int) := by omega
      have bc : (c : Int) < (d.size : Int) := by omega
      have la := swk_in S1.out RR.out (by omega) (nn - 1 - c) (by omega)
      have lb := swk_in S1.out RR.out (by omega) (c) (by omega)
      have hv := ltF_true hL
      have HL := hid hL
      clear hL
      generalize d[nn - 1 - c]! = x at la hv
      generalize d[c]! = y at lb hv
      have la0 := fun n os => (la n os).1
      have la1 := fun n os => (la n os).2
      have lb0 := fun n os => (lb n os).1
      have lb1 := fun n os => (lb n os).2
      clear la lb
      have hd : decide (cmpF x y < 0) = true := decide_eq_true hv
      have hc := cmp_in x y wr
      go_wp2_with fail
      go_quiet_grown (first | (go_at_fn 46; refine Calls.grown_of (hc _ _)))
      have S2 : Aside (SWK encX 2 w0 blk off d (grow (wr.drewN nq) osq)) := S1.out.grown nq osq
      clear la0 la1 lb0 lb1 hc S1
      generalize grow (wr.drewN nq) osq = w2 at S2 ⊢
      clear nq osq
      go_wp2_with fail
      go_roundg (c - s)
      case measure => omega
      case rel => exact ⟨s, c, rfl, rfl, hs0, h1, by omega, by omega, HLO, fun _ => HL.out, S2⟩
  have hltz : ¬ (s : Int) < (r : Int) := by omega
  obtain rfl : s = r := by omega
  obtain ⟨e, he⟩ : ∃ e, nn - s = e := ⟨_, rfl⟩
  have e7 : IntKind.i64.wrap ((nn : Int) - (s : Int)) = (e : Int) := by rw [IntKind.wrap_i64]; omega
  have hge : m ≤ e := by omega
  have heb : e ≤ b := by omega
  have hsm : s ≤ m := by omega
  have has : a ≤ s := by omega
  have hds : s + (e - m) = mid := by have := HNN.out; omega
  have hlow : a < s → e < b → ltOf cmpF d[e]! d[s - 1]! = false := fun h1 h2 => by
    have := HLO.out (by have := HCASE.out; have := HNN.out; omega)
    rw [he] at this; exact this
  have hhigh : s < m → m < e → ltOf cmpF d[e - 1]! d[s]! = true := fun h1 h2 => by
    have := HHI.out (by have := HCASE.out; have := HNN.out; omega)
    rw [show nn - 1 - s = e - 1 by omega] at this; exact this
  have HLOW := hid hlow
  have HHIGH := hid hhigh
  have ham : a < mid := by omega
  have hmb2 : mid < b := by omega
  clear hlow hhigh HLO HHI hsr2 hkx hlt he k4 k5
  go_upto_region 39 with fail
  go_cut [185] from 178 to 185 (fun v wx => wr = wx ∧ ∃ B : Bool, v = .bool B ∧ Hid (B = true ↔ (s < m ∧ m < e)))
  case first =>
    by_cases g1 : s < m
    · have g1z : (s : Int) < (m : Int) := by omega
      have g1d : decide ((s : Int) < (m : Int)) = true := decide_eq_true g1z
      by_cases g2 : m < e
      · have g2z : (m : Int) < (e : Int) := by omega
        have g2d : decide ((m : Int) < (e : Int)) = true := decide_eq_true g2z
        go_wp2_with fail
        go_meet
        case rel => exact ⟨rfl, true, rfl, ⟨fun _ => ⟨g1, g2⟩, fun _ => rfl⟩⟩
      · have g2z : ¬ (m : Int) < (e : Int) := by omega
        have g2d : decide ((m : Int) < (e : Int)) = false := decide_eq_false g2z
        go_wp2_with fail
        go_meet
        case rel => exact ⟨rfl, false, rfl, ⟨fun h => Bool.noConfusion h, fun h => absurd h.2 g2⟩⟩
    · have g1z : ¬ (s : Int) < (m : Int) := by omega
      have g1d : decide ((s : Int) < (m : Int)) = false := decide_eq_false g1z
      go_wp2_with fail
      go_meet
      case rel => exact ⟨rfl, false, rfl, ⟨fun h => Bool.noConfusion h, fun h => absurd h.1 g1⟩⟩
  case rest =>
  obtain ⟨rfl, B, rfl, HB⟩ := hcut
  go_upto_if 185 with fail
  go_cut [] from 185 to 191 (fun wx => ∃ d1, Aside (SWK encX 2 w0 blk off d1 wx) ∧ d1.size = d.size ∧ Hid (Rot s m e d d1))
  case first =>
    cases B with
    | true =>
      have hc := HB.out.1 rfl
      have hr := rotate_any blk off cap s m e (.func (.func 46) #[] #[]) d0 d w0 wr RR.out hs S1.out hc.1 hc.2 (by omega) (by omega)
      have HRO := hid hr
      clear hr S1 hc
      go_wp2_with (first | (go_at_call 83; refine HRO.out.mono ?_; rintro _ w1 ⟨rfl, d1, hs1, hr1⟩; have HS1 : Aside _ := hs1; have HR1 := hid hr1; clear hs1 hr1))
      go_meet
      case rel => exact ⟨d1, HS1, HR1.out.1, HR1⟩
    | false =>
      have hc : ¬ (s < m ∧ m < e) := fun h => Bool.noConfusion (HB.out.2 h)
      have hrot : Rot s m e d d := by
        by_cases e1 : s < m
        · rw [show e = m by omega]; exact rot_none _ _ _
        · rw [show s = m by omega]; exact rot_none' _ _ _
      have HRT := hid hrot
      clear hrot hc
      go_wp2_with fail
      go_meet
      case rel => exact ⟨d, S1, rfl, HRT⟩
  case rest =>
  clear S1
  obtain ⟨d1, S1, hz1, HRT⟩ := hcut
  have hcut2 := merge_cut (K := Fx.name) swoF ltF_ne HRT.out has hsm hge heb hb hds HSL.out HSR.out HLOW.out HHIGH.out
  obtain ⟨t1, t2, t3, t4⟩ := hcut2
  have HT1 := hid t1
  have HT2 := hid t2
  have HT3 := hid t3
  have HT4 := hid t4
  clear t1 t2 t3 t4 HLOW HHIGH HRT
  go_upto_region 41 with fail
  go_cut [199] from 192 to 199 (fun v wx => wc = wx ∧ ∃ B : Bool, v = .bool B ∧ Hid (B = true ↔ (a < s ∧ s < mid)))
  case first =>
    by_cases g1 : a < s
    · have g1z : (a : Int) < (s : Int) := by omega
      have g1d : decide ((a : Int) < (s : Int)) = true := decide_eq_true g1z
      by_cases g2 : s < mid
      · have g2z : (s : Int) < (mid : Int) := by omega
        have g2d : decide ((s : Int) < (mid : Int)) = true := decide_eq_true g2z
        go_wp2_with fail
        go_meet
        case rel => exact ⟨rfl, true, rfl, ⟨fun _ => ⟨g1, g2⟩, fun _ => rfl⟩⟩
      · have g2z : ¬ (s : Int) < (mid : Int) := by omega
        have g2d : decide ((s : Int) < (mid : Int)) = false := decide_eq_false g2z
        go_wp2_with fail
        go_meet
        case rel => exact ⟨rfl, false, rfl, ⟨fun h => Bool.noConfusion h, fun h => absurd h.2 g2⟩⟩
    · have g1z : ¬ (a : Int) < (s : Int) := by omega
      have g1d : decide ((a : Int) < (s : Int)) = false := decide_eq_false g1z
      go_wp2_with fail
      go_meet
      case rel => exact ⟨rfl, false, rfl, ⟨fun h => Bool.noConfusion h, fun h => absurd h.1 g1⟩⟩
  case rest =>
  obtain ⟨rfl, B, rfl, HB⟩ := hcut
  go_upto_if 199 with fail
  go_cut [] from 199 to 205 (fun wx => ∃ d2, Aside (SWK encX 2 w0 blk off d2 wx) ∧ Hid (Mrg (ltOf cmpF) Fx.name a mid d1 d2))
  case first =>
    cases B with
    | true =>
      have hc := HB.out.1 rfl
      have hr := HIH.out a s mid hc.1 hc.2 (by omega) d1 wc (by omega) (by omega) S1.out HT1.out HT2.out
      rw [hz1] at hr
      have HRO := hid hr
      clear hr S1 hc
      go_wp2_with (first | (go_at_call 76; refine HRO.out.mono ?_; rintro _ w1 ⟨rfl, d2, hs1, hr1⟩; have HS1 : Aside _ := hs1; have HR1 := hid hr1; clear hs1 hr1))
      go_meet
      case rel => exact ⟨d2, HS1, HR1⟩
    | false =>
      have hc : ¬ (a < s ∧ s < mid) := fun h => Bool.noConfusion (HB.out.2 h)
      have HRT := hid (HT3.out hc)
      clear hc
      go_wp2_with fail
      go_meet
      case rel => exact ⟨d1, S1, HRT⟩
  case rest =>
  clear S1
  obtain ⟨d2, S1, HM2⟩ := hcut
  obtain ⟨t1, t2, t3, t4⟩ := HT4.out d2 HM2.out
  have hz2 : d2.size = d1.size := HM2.out.1.1
  have HU1 := hid t1
  have HU2 := hid t2
  have HU3 := hid t3
  have HU4 := hid t4
  clear t1 t2 t3 t4 HT1 HT2 HT3 HT4 HM2
  go_upto_region 43 with fail
  go_cut [213] from 206 to 213 (fun v wx => wc = wx ∧ ∃ B : Bool, v = .bool B ∧ Hid (B = true ↔ (mid < e ∧ e < b)))
  case first =>
    by_cases g1 : mid < e
    · have g1z : (mid : Int) < (e : Int) := by omega
      have g1d : decide ((mid : Int) < (e : Int)) = true := decide_eq_true g1z
      by_cases g2 : e < b
      · have g2z : (e : Int) < (b : Int) := by omega
        have g2d : decide ((e : Int) < (b : Int)) = true := decide_eq_true g2z
        go_wp2_with fail
        go_meet
        case rel => exact ⟨rfl, true, rfl, ⟨fun _ => ⟨g1, g2⟩, fun _ => rfl⟩⟩
      · have g2z : ¬ (e : Int) < (b : Int) := by omega
        have g2d : decide ((e : Int) < (b : Int)) = false := decide_eq_false g2z
        go_wp2_with fail
        go_meet
        case rel => exact ⟨rfl, false, rfl, ⟨fun h => Bool.noConfusion h, fun h => absurd h.2 g2⟩⟩
    · have g1z : ¬ (mid : Int) < (e : Int) := by omega
      have g1d : decide ((mid : Int) < (e : Int)) = false := decide_eq_false g1z
      go_wp2_with fail
      go_meet
      case rel => exact ⟨rfl, false, rfl, ⟨fun h => Bool.noConfusion h, fun h => absurd h.1 g1⟩⟩
  case rest =>
  obtain ⟨rfl, B, rfl, HB⟩ := hcut
  cases B with
  | true =>
    have hc := HB.out.1 rfl
    have hr := HIH.out mid e b hc.1 hc.2 (by omega) d2 wc (by omega) (by omega) S1.out HU1.out HU2.out
    rw [hz2, hz1] at hr
    have HRO := hid hr
    clear hr S1 hc
    go_wp2_with (first | (go_at_call 76; refine HRO.out.mono ?_; rintro _ w1 ⟨rfl, d3, hs1, hr1⟩; have HS1 : Aside _ := hs1; have HR1 := hid hr1; clear hs1 hr1))
    go_end0
    exact ⟨rfl, d3, HS1.out, HU4.out d3 HR1.out⟩
  | false =>
    have hc : ¬ (mid < e ∧ e < b) := fun h => Bool.noConfusion (HB.out.2 h)
    have HRT := hid (HU4.out d2 (HU3.out hc))
    clear hc
    go_wp2_with fail
    go_end0
    exact ⟨rfl, d2, S1.out, HRT.out⟩

theorem sym_any (blk off cap : Nat) (d0 : Array Fx) (w0 : World) (R : RowK encX 2 w0 blk off d0) (hsz : d0.size < 2305843009213693952) : ∀ (n a m b : Nat), b - a ≤ n → a < m → m < b → SymIs blk off cap d0 w0 a m b
  | 0, a, m, b, hn, h1, h2 => by omega
  | n + 1, a, m, b, hn, h1, h2 => by
    by_cases c1 : m = a + 1
    · intro d w hs hb S hL hR
      exact sym_left blk off cap a m b d0 d w0 w R hs S c1 h2 hb (by omega) hR
    · by_cases c2 : b = m + 1
      · intro d w hs hb S hL hR
        exact sym_right blk off cap a m b d0 d w0 w R hs S (by omega) c2 hb (by omega) hL
      · exact sym_general blk off cap a m b d0 w0 R (by omega) (by omega) hsz (fun a' m' b' k1 k2 k3 => sym_any blk off cap d0 w0 R hsz n a' m' b' (by omega) k1 k2)

end Go.Proofs.YtmjchokacmbkoabDoor
