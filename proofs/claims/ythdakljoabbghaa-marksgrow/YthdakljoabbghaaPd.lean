/-
  Texts of this claim, one behind the other: Mq2 Mq3 Mq4 Mq5 Mq6 Mq7 Flt Mq8 Pu2 Mq9 Mqa.
-/
import Derived.Test.YthdakljoabbghaaPc
import Derived.Test.YthdakljoabbghaaPb
import Derived.Test.YthdakljoabbghaaPa
import Derived.Lib.AppendZerosOnto
import Derived.Deep.RegionHeld3
/-
  Package marks (stage 12): same, has, Touches; slices.ContainsFunc at ranges and at changes.
-/
namespace Go.Proofs.Ythdakljoabbghaa
open Go.RowKit

set_option maxHeartbeats 2000000 in
set_option maxRecDepth 100000 in
theorem msame12_any (a b : Rx) (w : World) (ha : a.at w) (hb : b.at w) :
    Calls Try.prog 38 #[.agg (encRx a).toArray, .agg (encRx b).toArray] w fun e w' => e = .returned (.bool (decide (a.rg = b.rg))) ∧ Below w.heap.size w w' := by
  obtain ⟨hbV, h1, h2, hs⟩ := two_boxes w (encRx a).toArray (encRx b).toArray 34 34
  obtain ⟨V, hV⟩ : ∃ V, (w.alloc (.cells (encRx a).toArray 34)).alloc (.cells (encRx b).toArray 34) = V := ⟨_, rfl⟩
  obtain ⟨M, hM⟩ : ∃ M, w.heap.size = M := ⟨_, rfl⟩
  rw [hV] at hbV h1 h2 hs
  rw [hM] at h1 h2 hs
  have HS := hid (pequal_any a.sl b.sl a.tm b.tm V (ha.on hbV).1 (hb.on hbV).1 ha.2.1.1 hb.2.1.1)
  have HB := hid hbV
  obtain ⟨at', ap, ac, am⟩ := a
  obtain ⟨bt, bp, bc, bm⟩ := b
  simp only [encRx, Rx.sl, Rx.rg] at *
  have c0 : V.cell? ⟨M, 0, none⟩ = some (.string at') := by rw [Lib.cell_of_heap h1]; rfl
  have c1 : V.cell? ⟨M, 1, none⟩ = some (.slice ap am.length ac) := by rw [Lib.cell_of_heap h1]; rfl
  have d0 : V.cell? ⟨M + 1, 0, none⟩ = some (.string bt) := by rw [Lib.cell_of_heap h2]; rfl
  have d1 : V.cell? ⟨M + 1, 1, none⟩ = some (.slice bp bm.length bc) := by rw [Lib.cell_of_heap h2]; rfl
  clear ha hb hbV h1 h2 hs
  go_enter Try.func38, Try.ntmps38
  by_cases ht : at' = bt
  · have q1 : (at'.toList == bt.toList) = true := seq_true ht
    have HD : Hid (decide ((at', am) = (bt, bm)) = decide (am = bm)) := by show _ = _; rw [ht]; simp
    clear ht
    go_wp2_with fail
    try rw [hV]
    refine HS.out.mono ?_
    rintro e w1 ⟨rfl, hb1⟩
    have HB1 := hid (bel_then HB.out HB.out.size hb1)
    clear hb1
    generalize decide (am = bm) = R at *
    go_wp2_with fail
    go_ret
    exact ⟨ret_bool HD.out.symm, HB1.out⟩
  · have q1 : (at'.toList == bt.toList) = false := seq_false ht
    have HD : Hid (decide ((at', am) = (bt, bm)) = false) := by show _ = _; rw [decide_eq_false_iff_not]; intro h; exact ht (congrArg Prod.fst h)
    clear ht
    go_wp2_with fail
    try rw [hV]
    go_ret
    exact ⟨ret_bool HD.out.symm, HB.out⟩

set_option maxHeartbeats 4000000 in
set_option maxRecDepth 100000 in
theorem mtouches12_any (r : Rx) (c : Cx) (w : World) (hr : r.at w) (hc : CIn w c) :
    Calls Try.prog 23 #[.agg (encRx r).toArray, .agg (encCx c).toArray] w fun e w' => e = .returned (.bool (touchesM r.rg c.ch)) ∧ Below w.heap.size w w' := by
  obtain ⟨hbV, h1, h2, hs⟩ := two_boxes w (encRx r).toArray (encCx c).toArray 34 43
  obtain ⟨V, hV⟩ : ∃ V, (w.alloc (.cells (encRx r).toArray 34)).alloc (.cells (encCx c).toArray 43) = V := ⟨_, rfl⟩
  obtain ⟨M, hM⟩ : ∃ M, w.heap.size = M := ⟨_, rfl⟩
  rw [hV] at hbV h1 h2 hs
  rw [hM] at h1 h2 hs
  have HMT : Hid (∀ W', Below V.heap.size V W' → (Calls Try.prog 47 #[r.sl, .slice c.wp c.wo.length c.wc] W' fun e w' => e = .returned (.bool (matchM r.tm (c.wo.map Fx.fld))) ∧ Below W'.heap.size W' w') ∧ (Calls Try.prog 47 #[r.sl, .slice c.ip c.io.length c.ic] W' fun e w' => e = .returned (.bool (matchM r.tm (c.io.map Fx.fld))) ∧ Below W'.heap.size W' w')) := fun W' hW => by
    have hb : Below w.heap.size w W' := bel_then hbV hbV.size hW
    have hr' := hr.on hb
    have hc' := hc.on hb
    exact ⟨pmatch_any _ _ r.tm c.wo W' hr'.1 hr'.2.1 hc'.was hc'.wfit hc'.wcp.2, pmatch_any _ _ r.tm c.io W' hr'.1 hr'.2.1 hc'.is hc'.ifit hc'.icp.2⟩
  have HB := hid hbV
  have HBX : Hid (∀ W' : World, Below V.heap.size V W' → (W'.cell? ⟨M, 0, none⟩ = some (.string r.typ) ∧ W'.cell? ⟨M, 1, none⟩ = some r.sl) ∧ W'.cell? ⟨M + 1, 0, none⟩ = some (.string c.a) ∧ W'.cell? ⟨M + 1, 1, none⟩ = some (.string c.b) ∧ W'.cell? ⟨M + 1, 2, none⟩ = some (.bool c.wl) ∧ W'.cell? ⟨M + 1, 3, none⟩ = some (.slice c.wp c.wo.length c.wc) ∧ W'.cell? ⟨M + 1, 4, none⟩ = some (.bool c.il) ∧ W'.cell? ⟨M + 1, 5, none⟩ = some (.slice c.ip c.io.length c.ic)) := fun W' hW => by
    have e1 := (hW.block M (by omega)).trans h1
    have e2 := (hW.block (M + 1) (by omega)).trans h2
    exact ⟨⟨by rw [Lib.cell_of_heap e1]; rfl, by rw [Lib.cell_of_heap e1]; rfl⟩, by rw [Lib.cell_of_heap e2]; rfl, by rw [Lib.cell_of_heap e2]; rfl, by rw [Lib.cell_of_heap e2]; rfl, by rw [Lib.cell_of_heap e2]; rfl, by rw [Lib.cell_of_heap e2]; rfl, by rw [Lib.cell_of_heap e2]; rfl⟩
  clear hr hc hbV h1 h2 hs
  obtain ⟨rt, rp, rc, rm⟩ := r
  obtain ⟨ca, cb, wl, wp, wc, wo, il, ip, ic, io⟩ := c
  have HTV : Hid (∀ R1 R2, matchM rm (wo.map Fx.fld) = R1 → matchM rm (io.map Fx.fld) = R2 → touchesM (⟨rt, rp, rc, rm⟩ : Rx).rg (⟨ca, cb, wl, wp, wc, wo, il, ip, ic, io⟩ : Cx).ch = (decide (rt = ca) && ((wl && R1) || (il && R2)))) := by rintro _ _ rfl rfl; rfl
  generalize touchesM (⟨rt, rp, rc, rm⟩ : Rx).rg (⟨ca, cb, wl, wp, wc, wo, il, ip, ic, io⟩ : Cx).ch = TT at *
  simp only [encRx, encCx, Rx.sl] at *
  obtain ⟨⟨a0, a1⟩, b0, b1, b2, b3, b4, b5⟩ := HBX.out V (Below.refl _ _)
  go_enter Try.func23, Try.ntmps23
  by_cases ht : rt = ca
  · have q1 : (rt.toList == ca.toList) = true := seq_true ht
    have q2 : (ca.toList == rt.toList) = true := seq_true ht.symm
    obtain ⟨R1, hR1⟩ : ∃ R1, matchM rm (wo.map Fx.fld) = R1 := ⟨_, rfl⟩
    obtain ⟨R2, hR2⟩ : ∃ R2, matchM rm (io.map Fx.fld) = R2 := ⟨_, rfl⟩
    have HT := hid (HTV.out R1 R2 hR1 hR2)
    rw [decide_eq_true ht] at HT
    rw [hR1, hR2] at HMT
    clear ht hR1 hR2 HTV
    obtain ⟨HM1, HM2⟩ := HMT.out V (Below.refl _ _)
    have H1 := hid HM1
    have H2 := hid HM2
    have HM3 : Hid (∀ W', Below V.heap.size V W' → Calls Try.prog 47 #[.slice rp rm.length rc, .slice ip io.length ic] W' fun e w' => e = .returned (.bool R2) ∧ Below W'.heap.size W' w') := fun W' hW => (HMT.out W' hW).2
    clear HM1 HM2 HMT
    cases wl with
    | true =>
      go_wp2_with fail
      try rw [hV]
      refine H1.out.mono ?_
      rintro e w1 ⟨rfl, hb1⟩
      have HB1 := hid (bel_then HB.out HB.out.size hb1)
      have H3 := hid (HM3.out w1 hb1)
      obtain ⟨⟨a0, a1⟩, b0, b1, b2, b3, b4, b5⟩ := HBX.out w1 hb1
      clear hb1 H1 H2 HM3
      cases R1 with
      | true =>
        go_wp2_with fail
        go_ret
        exact ⟨ret_bool HT.out.symm, HB1.out⟩
      | false =>
        cases il with
        | true =>
          go_wp2_with fail
          refine H3.out.mono ?_
          rintro e w2 ⟨rfl, hb2⟩
          have HB2 := hid (bel_then HB1.out HB1.out.size hb2)
          clear hb2 H3
          go_wp2_with fail
          go_ret
          exact ⟨ret_bool (by rw [HT.out]; cases R2 <;> rfl), HB2.out⟩
        | false =>
          go_wp2_with fail
          go_ret
          exact ⟨ret_bool HT.out.symm, HB1.out⟩
    | false =>
      cases il with
      | true =>
        go_wp2_with fail
        try rw [hV]
        refine H2.out.mono ?_
        rintro e w2 ⟨rfl, hb2⟩
        have HB2 := hid (bel_then HB.out HB.out.size hb2)
        clear hb2 H1 H2 HM3
        go_wp2_with fail
        go_ret
        exact ⟨ret_bool (by rw [HT.out]; cases R2 <;> rfl), HB2.out⟩
      | false =>
        go_wp2_with fail
        try rw [hV]
        go_ret
        exact ⟨ret_bool HT.out.symm, HB.out⟩
  · have q1 : (rt.toList == ca.toList) = false := seq_false ht
    have q2 : (ca.toList == rt.toList) = false := seq_false (Ne.symm ht)
    have HT := hid (HTV.out _ _ rfl rfl)
    rw [decide_eq_false ht] at HT
    clear ht HTV
    go_wp2_with fail
    try rw [hV]
    go_ret
    exact ⟨ret_bool HT.out.symm, HB.out⟩


set_option maxHeartbeats 4000000 in
set_option maxRecDepth 100000 in
theorem idxRange_any (f : Rx → Bool) (k : Nat) (lb : Array Value) (eg : ∀ args w, (callFunc k args).run Try.prog w = .ok (.enter k args) w) (v : Value) (l : List Rx) (w : World) (hv : KRx.Is w v l) (hl : l.length ≤ 9000000000000000000)
    (hk : ∀ (W : World) (x : Rx), Below w.heap.size w W → x ∈ l → Calls Try.prog k (#[.agg (encRx x).toArray] ++ lb) W fun e w' => e = .returned (.bool (f x)) ∧ Below W.heap.size W w') :
    Calls Try.prog 69 #[v, .func (.func k) #[] lb] w fun e w' => (∃ n : Int, e = .returned (.int .i64 n) ∧ decide (n ≥ 0) = l.any f) ∧ Below w.heap.size w w' := by
  obtain ⟨p, cap, rfl, hd⟩ := hv
  have HD := hid hd
  have HK := hid hk
  clear hd hk
  go_enter Try.func69, Try.ntmps69
  go_wp2_with fail
  go_loopg [8] l.length (fun gg vi wr => ∃ i : Nat, vi = .int .i64 i ∧ i ≤ l.length ∧ l.length - i ≤ gg ∧ Hid (Below w.heap.size w wr ∧ ∀ x ∈ l.take i, f x = false))
  case atStart => exact ⟨0, rfl, by omega, by omega, Below.refl _ _, fun x hx => by simp at hx⟩
  case round =>
    obtain ⟨i, rfl, hi, hgk, HI⟩ := hrel
    by_cases hlt : i < l.length
    · have hltz : (i : Int) < (l.length : Int) := by omega
      have hiz : (0 : Int) ≤ i := by omega
      obtain ⟨b1, o1, rfl, k1⟩ : ∃ b off, p = some ⟨b, off, none⟩ ∧ KRx.At w b off l := by
        rcases HD.out with h | h
        · rw [h] at hlt; simp at hlt
        · exact h
      obtain ⟨y0, y1⟩ := krx_at (Kind.at_kept k1 HI.out.1) i hlt
      have hmem : l[i] ∈ l := List.getElem_mem hlt
      have htk : l.take (i + 1) = l.take i ++ [l[i]] := List.take_succ_eq_append_getElem hlt
      have HC := hid (HK.out wr l[i] HI.out.1 hmem)
      have HNO : Hid (f l[i] = false → ∀ x ∈ l.take (i + 1), f x = false) := fun h x hx => by
        rw [htk] at hx
        rcases List.mem_append.1 hx with hx | hx
        · exact HI.out.2 x hx
        · rw [List.mem_singleton.1 hx]; exact h
      have HYES : Hid (f l[i] = true → l.any f = true) := fun h => List.any_eq_true.2 ⟨_, hmem, h⟩
      have HB := hid HI.out.1
      clear HI k1 hmem htk
      generalize l[i] = x at *
      cases hq : f x with
      | true =>
        rw [hq] at HC
        have HY := hid (HYES.out hq)
        clear HNO HYES hq
        simp only [encRx, Rx.sl] at *
        go_wp2_with (go_at_fn k; refine HC.out.mono ?_; rintro e w1 ⟨rfl, hb1⟩)
        go_ret
        exact ⟨⟨i, rfl, by rw [HY.out]; exact decide_eq_true hiz⟩, bel_then HB.out HB.out.size hb1⟩
      | false =>
        rw [hq] at HC
        have HN := hid (HNO.out hq)
        clear HNO HYES hq
        simp only [encRx, Rx.sl] at *
        go_wp2_with (go_at_fn k; refine HC.out.mono ?_; rintro e w1 ⟨rfl, hb1⟩)
        have HB1 := hid (bel_then HB.out HB.out.size hb1)
        clear hb1
        go_roundg (l.length - (i + 1))
        case measure => omega
        exact ⟨i + 1, by go_num, by omega, by omega, HB1.out, HN.out⟩
    · have hltz : ¬ (i : Int) < (l.length : Int) := by omega
      have hti : l.take i = l := List.take_of_length_le (by omega)
      rw [hti] at HI
      go_wp2_with fail
      go_ret
      refine ⟨⟨-1, rfl, ?_⟩, HI.out.1⟩
      have : l.any f = false := by
        rw [List.any_eq_false]
        exact fun x hx => by rw [HI.out.2 x hx]; simp
      rw [this]
      decide

set_option maxHeartbeats 2000000 in
theorem hasRange_any (f : Rx → Bool) (k : Nat) (lb : Array Value) (eg : ∀ args w, (callFunc k args).run Try.prog w = .ok (.enter k args) w) (v : Value) (l : List Rx) (w : World) (hv : KRx.Is w v l) (hl : l.length ≤ 9000000000000000000)
    (hk : ∀ (W : World) (x : Rx), Below w.heap.size w W → x ∈ l → Calls Try.prog k (#[.agg (encRx x).toArray] ++ lb) W fun e w' => e = .returned (.bool (f x)) ∧ Below W.heap.size W w') :
    Calls Try.prog 54 #[v, .func (.func k) #[] lb] w fun e w' => e = .returned (.bool (l.any f)) ∧ Below w.heap.size w w' := by
  have HX := hid (idxRange_any f k lb eg v l w hv hl hk)
  clear hv hk
  go_enter Try.func54, Try.ntmps54
  go_wp2_with fail
  refine HX.out.mono ?_
  rintro e w1 ⟨⟨n, rfl, hn⟩, hb1⟩
  have HN := hid hn
  clear hn
  go_wp2_with fail
  go_ret
  exact ⟨ret_bool HN.out, hb1⟩

set_option maxHeartbeats 4000000 in
set_option maxRecDepth 100000 in
theorem idxChange_any (f : Cx → Bool) (k : Nat) (lb : Array Value) (eg : ∀ args w, (callFunc k args).run Try.prog w = .ok (.enter k args) w) (v : Value) (l : List Cx) (w : World) (hv : KCx.Is w v l) (hl : l.length ≤ 9000000000000000000)
    (hk : ∀ (W : World) (x : Cx), Below w.heap.size w W → x ∈ l → Calls Try.prog k (#[.agg (encCx x).toArray] ++ lb) W fun e w' => e = .returned (.bool (f x)) ∧ Below W.heap.size W w') :
    Calls Try.prog 62 #[v, .func (.func k) #[] lb] w fun e w' => (∃ n : Int, e = .returned (.int .i64 n) ∧ decide (n ≥ 0) = l.any f) ∧ Below w.heap.size w w' := by
  obtain ⟨p, cap, rfl, hd⟩ := hv
  have HD := hid hd
  have HK := hid hk
  clear hd hk
  go_enter Try.func62, Try.ntmps62
  go_wp2_with fail
  go_loopg [8] l.length (fun gg vi wr => ∃ i : Nat, vi = .int .i64 i ∧ i ≤ l.length ∧ l.length - i ≤ gg ∧ Hid (Below w.heap.size w wr ∧ ∀ x ∈ l.take i, f x = false))
  case atStart => exact ⟨0, rfl, by omega, by omega, Below.refl _ _, fun x hx => by simp at hx⟩
  case round =>
    obtain ⟨i, rfl, hi, hgk, HI⟩ := hrel
    by_cases hlt : i < l.length
    · have hltz : (i : Int) < (l.length : Int) := by omega
      have hiz : (0 : Int) ≤ i := by omega
      obtain ⟨b1, o1, rfl, k1⟩ : ∃ b off, p = some ⟨b, off, none⟩ ∧ KCx.At w b off l := by
        rcases HD.out with h | h
        · rw [h] at hlt; simp at hlt
        · exact h
      obtain ⟨y0, y1, y2, y3, y4, y5⟩ := kcx_at (Kind.at_kept k1 HI.out.1) i hlt
      have hmem : l[i] ∈ l := List.getElem_mem hlt
      have htk : l.take (i + 1) = l.take i ++ [l[i]] := List.take_succ_eq_append_getElem hlt
      have HC := hid (HK.out wr l[i] HI.out.1 hmem)
      have HNO : Hid (f l[i] = false → ∀ x ∈ l.take (i + 1), f x = false) := fun h x hx => by
        rw [htk] at hx
        rcases List.mem_append.1 hx with hx | hx
        · exact HI.out.2 x hx
        · rw [List.mem_singleton.1 hx]; exact h
      have HYES : Hid (f l[i] = true → l.any f = true) := fun h => List.any_eq_true.2 ⟨_, hmem, h⟩
      have HB := hid HI.out.1
      clear HI k1 hmem htk
      generalize l[i] = x at *
      cases hq : f x with
      | true =>
        rw [hq] at HC
        have HY := hid (HYES.out hq)
        clear HNO HYES hq
        simp only [encCx] at *
        go_wp2_with (go_at_fn k; refine HC.out.mono ?_; rintro e w1 ⟨rfl, hb1⟩)
        go_ret
        exact ⟨⟨i, rfl, by rw [HY.out]; exact decide_eq_true hiz⟩, bel_then HB.out HB.out.size hb1⟩
      | false =>
        rw [hq] at HC
        have HN := hid (HNO.out hq)
        clear HNO HYES hq
        simp only [encCx] at *
        go_wp2_with (go_at_fn k; refine HC.out.mono ?_; rintro e w1 ⟨rfl, hb1⟩)
        have HB1 := hid (bel_then HB.out HB.out.size hb1)
        clear hb1
        go_roundg (l.length - (i + 1))
        case measure => omega
        exact ⟨i + 1, by go_num, by omega, by omega, HB1.out, HN.out⟩
    · have hltz : ¬ (i : Int) < (l.length : Int) := by omega
      have hti : l.take i = l := List.take_of_length_le (by omega)
      rw [hti] at HI
      go_wp2_with fail
      go_ret
      refine ⟨⟨-1, rfl, ?_⟩, HI.out.1⟩
      have : l.any f = false := by
        rw [List.any_eq_false]
        exact fun x hx => by rw [HI.out.2 x hx]; simp
      rw [this]
      decide

set_option maxHeartbeats 2000000 in
theorem hasChange_any (f : Cx → Bool) (k : Nat) (lb : Array Value) (eg : ∀ args w, (callFunc k args).run Try.prog w = .ok (.enter k args) w) (v : Value) (l : List Cx) (w : World) (hv : KCx.Is w v l) (hl : l.length ≤ 9000000000000000000)
    (hk : ∀ (W : World) (x : Cx), Below w.heap.size w W → x ∈ l → Calls Try.prog k (#[.agg (encCx x).toArray] ++ lb) W fun e w' => e = .returned (.bool (f x)) ∧ Below W.heap.size W w') :
    Calls Try.prog 44 #[v, .func (.func k) #[] lb] w fun e w' => e = .returned (.bool (l.any f)) ∧ Below w.heap.size w w' := by
  have HX := hid (idxChange_any f k lb eg v l w hv hl hk)
  clear hv hk
  go_enter Try.func44, Try.ntmps44
  go_wp2_with fail
  refine HX.out.mono ?_
  rintro e w1 ⟨⟨n, rfl, hn⟩, hb1⟩
  have HN := hid hn
  clear hn
  go_wp2_with fail
  go_ret
  exact ⟨ret_bool HN.out, hb1⟩

theorem enters_mhas : ∀ args w, (callFunc 55 args).run Try.prog w = .ok (.enter 55 args) w := enters_of Try.func55 (by kernel_rfl) rfl

set_option maxHeartbeats 2000000 in
theorem has1_any (r x : Rx) (M : Nat) (w : World) (hM : w.heap[M]? = some (.cells (encRx r).toArray 34 (0, 0))) (hr : r.at w) (hx : x.at w) :
    Calls Try.prog 55 #[.agg (encRx x).toArray, .pointer (some ⟨M, 0, none⟩)] w fun e w' => e = .returned (.bool (decide (x.rg = r.rg))) ∧ Below w.heap.size w w' := by
  obtain ⟨hb, h1, hs⟩ := one_box w (encRx x).toArray 34
  obtain ⟨V, hV⟩ : ∃ V, w.alloc (.cells (encRx x).toArray 34) = V := ⟨_, rfl⟩
  rw [hV] at hb h1 hs
  have hlt : M < w.heap.size := (Array.getElem?_eq_some_iff.1 hM).1
  have h2 := (hb.block M hlt).trans hM
  have HS := hid (msame12_any x r V (hx.on hb) (hr.on hb))
  have HB := hid hb
  generalize decide (x.rg = r.rg) = R at *
  obtain ⟨K, hK⟩ : ∃ K, w.heap.size = K := ⟨_, rfl⟩
  rw [hK] at h1
  obtain ⟨xt, xp, xc, xm⟩ := x
  obtain ⟨rt, rp, rc, rm⟩ := r
  simp only [encRx, Rx.sl] at *
  have c0 : V.cell? ⟨K, 0, none⟩ = some (.string xt) := by rw [Lib.cell_of_heap h1]; rfl
  have c1 : V.cell? ⟨K, 1, none⟩ = some (.slice xp xm.length xc) := by rw [Lib.cell_of_heap h1]; rfl
  have d0 : V.cell? ⟨M, 0, none⟩ = some (.string rt) := by rw [Lib.cell_of_heap h2]; rfl
  have d1 : V.cell? ⟨M, 1, none⟩ = some (.slice rp rm.length rc) := by rw [Lib.cell_of_heap h2]; rfl
  clear hM hr hx h1 h2 hb hs
  go_enter Try.func55, Try.ntmps55
  go_wp2_with fail
  try rw [hV]
  try rw [hK]
  refine HS.out.mono ?_
  rintro e w1 ⟨rfl, hb1⟩
  have HB1 := hid (bel_then HB.out HB.out.size hb1)
  clear hb1
  go_wp2_with fail
  go_ret
  exact ⟨rfl, HB1.out⟩

set_option maxHeartbeats 2000000 in
theorem mhas12_any (v : Value) (l : List Rx) (r : Rx) (w : World) (hv : KRx.Is w v l) (hl : l.length ≤ 9000000000000000000) (he : ∀ x ∈ l, x.at w) (hr : r.at w) :
    Calls Try.prog 40 #[v, .agg (encRx r).toArray] w fun e w' => e = .returned (.bool ((l.map Rx.rg).any fun x => decide (x = r.rg))) ∧ Below w.heap.size w w' := by
  obtain ⟨hb, h1, hs⟩ := one_box w (encRx r).toArray 34
  obtain ⟨V, hV⟩ : ∃ V, w.alloc (.cells (encRx r).toArray 34) = V := ⟨_, rfl⟩
  obtain ⟨M, hM⟩ : ∃ M, w.heap.size = M := ⟨_, rfl⟩
  rw [hV] at hb h1 hs
  rw [hM] at h1 hs
  have HH := hid (hasRange_any (fun x => decide (x.rg = r.rg)) 55 #[.pointer (some ⟨M, 0, none⟩)] enters_mhas v l V (Kind.is_kept hv hb) hl (fun W x hW hx => has1_any r x M W ((hW.block M (by omega)).trans h1) ((hr.on hb).on hW) (((he x hx).on hb).on hW)))
  have HE : Hid (l.any (fun x => decide (x.rg = r.rg)) = (l.map Rx.rg).any fun x => decide (x = r.rg)) := by show _ = _; rw [List.any_map]; rfl
  have HB := hid hb
  generalize l.any (fun x => decide (x.rg = r.rg)) = R at *
  clear hv he hr hb h1 hs
  obtain ⟨rt, rp, rc, rm⟩ := r
  simp only [encRx, Rx.sl] at *
  go_enter Try.func40, Try.ntmps40
  go_wp2_with fail
  try rw [hV]
  try rw [hM]
  refine HH.out.mono ?_
  rintro e w1 ⟨rfl, hb1⟩
  have HB1 := hid (bel_then HB.out HB.out.size hb1)
  clear hb1
  go_wp2_with fail
  go_ret
  exact ⟨ret_bool HE.out, HB1.out⟩

end Go.Proofs.Ythdakljoabbghaa

/-
  Package marks (stage 12): Equal.
-/
namespace Go.Proofs.Ythdakljoabbghaa
open Go.RowKit

theorem neqKy_at : NeqAt Try.prog 27 (fun x : Ky => .agg (encKy x).toArray) (fun x y => decide (x = y)) :=
  ⟨fun x y w => by have := Z.neq_key x.1 x.2 y.1 y.2 w; rw [Z.eqK_iff] at this; exact this, GuardAt.agg (fun x : Ky => (encKy x).toArray) (by kernel_rfl)⟩
theorem eqlKy_at : EqlAt Try.prog 27 (fun x : Ky => .agg (encKy x).toArray) (fun x y => decide (x = y)) :=
  ⟨fun x y w => by have := Z.eql_key x.1 x.2 y.1 y.2 w; rw [Z.eqK_iff] at this; exact this, GuardAt.agg (fun x : Ky => (encKy x).toArray) (by kernel_rfl)⟩
theorem allEq_decideK : ∀ (p q : List Ky), Lib.allEq (fun x y => decide (x = y)) p q = decide (p = q)
  | [], [] => rfl
  | [], y :: q => by simp [Lib.allEq]
  | x :: p, [] => by simp [Lib.allEq]
  | x :: p, y :: q => by
    have := allEq_decideK p q
    unfold Lib.allEq
    rw [this]
    by_cases h1 : x = y <;> by_cases h2 : p = q <;> simp [h1, h2]
theorem kk_enc {w : World} {b off : Nat} {p : List Ky} (h : KK.At w b off p) (j : Nat) (hj : j < p.length) (i : Nat) (v : Value) (hv : (encKy p[j])[i]? = some v) : w.cell? ⟨b, off + j * 2 + i, none⟩ = some v := h j hj i v hv

set_option maxHeartbeats 1000000 in
theorem eqKy_none1 (q1 q2 : Option Addr) (c1 c2 m : Nat) (hm : m ≤ maxLen) (w : World) :
    Calls Try.prog 36 #[.slice q1 0 c1, .slice q2 m c2] w fun e w' => e = .returned (.bool (decide (m = 0))) ∧ w' = w := by
  unfold maxLen at hm
  by_cases h0 : m = 0
  · subst h0
    go_enter Try.func36, Try.ntmps36
    go_wp2_with fail
    refine wp_loop_rounds 1 ?_
    rw [rounds_succ]
    go_wp2_with fail
    go_ret
    exact ⟨rfl, rfl⟩
  · have hz : ((0 : Int) != (m : Int)) = true := by simp; omega
    have hd := decide_eq_false h0
    rw [hd]
    go_enter Try.func36, Try.ntmps36
    go_wp2_with fail
    go_ret
    exact ⟨rfl, rfl⟩

set_option maxHeartbeats 1000000 in
theorem eqKy_none2 (q1 q2 : Option Addr) (c1 c2 m : Nat) (hm : m ≠ 0) (w : World) :
    Calls Try.prog 36 #[.slice q1 m c1, .slice q2 0 c2] w fun e w' => e = .returned (.bool false) ∧ w' = w := by
  have hz : ((m : Int) != 0) = true := by simp; omega
  go_enter Try.func36, Try.ntmps36
  go_wp2_with fail
  go_ret
  exact ⟨rfl, rfl⟩

theorem eqKy_any (v u : Value) (p q : List Ky) (w : World) (hv : KK.Is w v p) (hu : KK.Is w u q) (hl1 : p.length ≤ maxLen) (hl2 : q.length ≤ maxLen) :
    Calls Try.prog 36 #[v, u] w fun e w' => e = .returned (.bool (decide (p = q))) ∧ Below w.heap.size w w' := by
  obtain ⟨a1, k1, rfl, hd1⟩ := hv
  obtain ⟨a2, k2, rfl, hd2⟩ := hu
  by_cases h1 : p = []
  · subst h1
    refine (eqKy_none1 a1 a2 k1 k2 q.length hl2 w).mono ?_
    rintro e w' ⟨rfl, rfl⟩
    refine ⟨ret_bool ?_, Below.refl _ _⟩
    cases q <;> simp
  · by_cases h2 : q = []
    · subst h2
      refine (eqKy_none2 a1 a2 k1 k2 p.length (fun e => h1 (List.length_eq_zero_iff.1 e)) w).mono ?_
      rintro e w' ⟨rfl, rfl⟩
      exact ⟨ret_bool (by rw [decide_eq_false h1]), Below.refl _ _⟩
    · rcases hd1 with hd1 | ⟨b1, o1, rfl, x1⟩
      · exact absurd hd1 h1
      · rcases hd2 with hd2 | ⟨b2, o2, rfl, x2⟩
        · exact absurd hd2 h2
        · unfold maxLen at hl1 hl2
          have hc := AnyQ.slices_Equal (α := Ky) Try.eqKys 2 Try.isAgg27 Try.sizeOf27 encKy (fun _ => rfl) (fun x y => decide (x = y)) neqKy_at b1 o1 p.length k1 b2 o2 q.length k2 p q w (Nat.le_refl _) (Nat.le_refl _) (by omega) (by omega)
            (fun j hj i v hv => by rw [getElem!_pos p j hj] at hv; exact kk_enc x1 j hj i v hv) (fun j hj i v hv => by rw [getElem!_pos q j hj] at hv; exact kk_enc x2 j hj i v hv)
          change Calls Try.prog 36 _ _ _ at hc
          refine hc.mono ?_
          rintro e w' ⟨rfl, n, rfl⟩
          exact ⟨ret_bool (by rw [List.take_length, List.take_length, allEq_decideK]), bel_drewN (Below.refl _ _) n⟩

set_option maxHeartbeats 1000000 in
theorem conKy_none (q1 : Option Addr) (c1 : Nat) (k : Ky) (w : World) :
    Calls Try.prog 57 #[.slice q1 0 c1, .agg (encKy k).toArray] w fun e w' => e = .returned (.bool false) ∧ Below w.heap.size w w' := by
  have hix : ∀ W : World, Calls Try.prog 70 #[.slice q1 0 c1, .agg (encKy k).toArray] W fun e w' => e = .returned (.int .i64 (-1)) ∧ Below W.heap.size W w' := fun W => by
    have HB := hid ((Below.refl W.heap.size W).alloc (Nat.le_refl _) (.cells #[.string k.1, .string k.2] 27))
    obtain ⟨ka, kb⟩ := k
    simp only [encKy] at *
    go_enter Try.func70, Try.ntmps70
    go_wp2_with fail
    refine wp_loop_rounds 1 ?_
    rw [rounds_succ]
    go_wp2_with fail
    go_ret
    exact ⟨rfl, HB.out⟩
  have HX := hid hix
  have HB := hid ((Below.refl w.heap.size w).alloc (Nat.le_refl _) (.cells #[.string k.1, .string k.2] 27))
  clear hix
  obtain ⟨ka, kb⟩ := k
  simp only [encKy] at *
  go_enter Try.func57, Try.ntmps57
  go_wp2_with fail
  refine (HX.out _).mono ?_
  rintro e w1 ⟨rfl, hb1⟩
  have HB1 := hid (bel_then HB.out HB.out.size hb1)
  clear hb1
  go_wp2_with fail
  go_ret
  exact ⟨rfl, HB1.out⟩

theorem conKy_any (v : Value) (p : List Ky) (k : Ky) (w : World) (hv : KK.Is w v p) (hl1 : p.length ≤ maxLen) :
    Calls Try.prog 57 #[v, .agg (encKy k).toArray] w fun e w' => e = .returned (.bool (p.any fun x => decide (x = k))) ∧ Below w.heap.size w w' := by
  obtain ⟨a1, k1, rfl, hd1⟩ := hv
  by_cases h1 : p = []
  · subst h1
    exact conKy_none a1 k1 k w
  · rcases hd1 with hd1 | ⟨b1, o1, rfl, x1⟩
    · exact absurd hd1 h1
    · unfold maxLen at hl1
      have hc := AnyQ.slices_Contains (α := Ky) Try.conKys 2 Try.isAgg27 Try.sizeOf27 encKy (fun _ => rfl) (fun x y => decide (x = y)) eqlKy_at b1 o1 p.length k1 p k w (Nat.le_refl _) (by omega)
        (fun j hj i v hv => by rw [getElem!_pos p j hj] at hv; exact kk_enc x1 j hj i v hv)
      change Calls Try.prog 57 _ _ _ at hc
      refine hc.mono ?_
      rintro e w' ⟨rfl, hb⟩
      refine ⟨ret_bool ?_, hb⟩
      rw [List.take_length]
      congr 1
      funext x
      exact decide_eq_decide.2 ⟨fun h => h.symm, fun h => h.symm⟩

theorem enters_msame : ∀ args w, (callFunc 38 args).run Try.prog w = .ok (.enter 38 args) w := enters_of Try.func38 (by kernel_rfl) rfl

set_option maxHeartbeats 4000000 in
set_option maxRecDepth 100000 in
theorem eqfRg_any (v u : Value) (l m : List Rx) (w : World) (hv : KRx.Is w v l) (hu : KRx.Is w u m) (he : ∀ r ∈ l, r.at w) (hf : ∀ r ∈ m, r.at w) (hl : l.length ≤ 9000000000000000000) :
    Calls Try.prog 37 #[v, u, .func (.func 38) #[] #[]] w fun e w' => e = .returned (.bool (decide (l.map Rx.rg = m.map Rx.rg))) ∧ Below w.heap.size w w' := by
  have eg := enters_msame
  obtain ⟨p, cap, rfl, hd⟩ := hv
  obtain ⟨p2, cap2, rfl, hd2⟩ := hu
  have HD := hid hd
  have HD2 := hid hd2
  have HE := hid he
  have HF := hid hf
  obtain ⟨R, hR⟩ : ∃ R, decide (l.map Rx.rg = m.map Rx.rg) = R := ⟨_, rfl⟩
  rw [hR]
  have HR := hid hR
  clear hd hd2 he hf hR
  by_cases hlm : l.length = m.length
  · have HLM := hid hlm
    have q1 : ((l.length : Int) != (m.length : Int)) = false := by simp; omega
    have hltm : ∀ i : Nat, i < l.length → i < m.length := fun i h => by omega
    have HLT := hid hltm
    clear hlm hltm
    go_enter Try.func37, Try.ntmps37
    go_wp2_with fail
    go_loopg [17] l.length (fun gg vi wr => ∃ i : Nat, vi = .int .i64 i ∧ i ≤ l.length ∧ l.length - i ≤ gg ∧ Hid (Below w.heap.size w wr ∧ (l.take i).map Rx.rg = (m.take i).map Rx.rg))
    case atStart => exact ⟨0, rfl, by omega, by omega, Below.refl _ _, rfl⟩
    case round =>
      obtain ⟨i, rfl, hi, hgk, HI⟩ := hrel
      by_cases hlt : i < l.length
      · have hltz : (i : Int) < (l.length : Int) := by omega
        have hiz : (0 : Int) ≤ i := by omega
        have hlt2 : i < m.length := HLT.out i hlt
        have hltz2 : (i : Int) < (m.length : Int) := by omega
        obtain ⟨b1, o1, rfl, k1⟩ : ∃ b off, p = some ⟨b, off, none⟩ ∧ KRx.At w b off l := by
          rcases HD.out with h | h
          · rw [h] at hlt; simp at hlt
          · exact h
        obtain ⟨b2, o2, rfl, k2⟩ : ∃ b off, p2 = some ⟨b, off, none⟩ ∧ KRx.At w b off m := by
          rcases HD2.out with h | h
          · rw [h] at hlt2; simp at hlt2
          · exact h
        have hbw := HI.out.1
        obtain ⟨y0, y1⟩ := krx_at (Kind.at_kept k1 hbw) i hlt
        obtain ⟨V, hV⟩ : ∃ V, wr.alloc (.cells #[.string (l[i]).typ, (l[i]).sl] 34) = V := ⟨_, rfl⟩
        have hbV : Below wr.heap.size wr V := by rw [← hV]; exact (Below.refl _ _).alloc (Nat.le_refl _) _
        have hbwV := bel_then hbw hbw.size hbV
        obtain ⟨z0, z1⟩ := krx_at (Kind.at_kept k2 hbwV) i hlt2
        obtain ⟨V2, hV2⟩ : ∃ V2, V.alloc (.cells #[.string (m[i]).typ, (m[i]).sl] 34) = V2 := ⟨_, rfl⟩
        have hbV2 : Below V.heap.size V V2 := by rw [← hV2]; exact (Below.refl _ _).alloc (Nat.le_refl _) _
        have hbw2 := bel_then hbwV hbwV.size hbV2
        have h1 : V2.heap[wr.heap.size]? = some (.cells #[.string (l[i]).typ, (l[i]).sl] 34 (0, 0)) := by
          have : V.heap[wr.heap.size]? = some (.cells #[.string (l[i]).typ, (l[i]).sl] 34 (0, 0)) := by rw [← hV]; exact heap_alloc_new wr _
          exact (hbV2.block _ (Array.getElem?_eq_some_iff.1 this).1).trans this
        have h2 : V2.heap[V.heap.size]? = some (.cells #[.string (m[i]).typ, (m[i]).sl] 34 (0, 0)) := by rw [← hV2]; exact heap_alloc_new V _
        have HC := hid (msame12_any l[i] m[i] V2 ((HE.out _ (List.getElem_mem hlt)).on hbw2) ((HF.out _ (List.getElem_mem hlt2)).on hbw2))
        have HYES : Hid ((l[i]).rg = (m[i]).rg → (l.take (i + 1)).map Rx.rg = (m.take (i + 1)).map Rx.rg) := fun h => by
          rw [List.take_succ_eq_append_getElem hlt, List.take_succ_eq_append_getElem hlt2, List.map_append, List.map_append, HI.out.2]
          simp [h]
        have HNO : Hid (¬ (l[i]).rg = (m[i]).rg → R = false) := fun h => by
          rw [← HR.out, decide_eq_false_iff_not]
          intro e
          apply h
          have := congrArg (fun q => q[i]?) e
          simpa [hlt, hlt2] using this
        have HB := hid hbw2
        obtain ⟨S1, hS1⟩ : ∃ S1, wr.heap.size = S1 := ⟨_, rfl⟩
        obtain ⟨S2, hS2⟩ : ∃ S2, V.heap.size = S2 := ⟨_, rfl⟩
        rw [hS1] at h1
        rw [hS2] at h2
        generalize l[i] = x at *
        generalize m[i] = y at *
        obtain ⟨xt, xp, xc, xm⟩ := x
        obtain ⟨yt, yp, yc, ym⟩ := y
        simp only [encRx, Rx.sl] at *
        have c0 : V2.cell? ⟨S1, 0, none⟩ = some (.string xt) := by rw [Lib.cell_of_heap h1]; rfl
        have c1 : V2.cell? ⟨S1, 1, none⟩ = some (.slice xp xm.length xc) := by rw [Lib.cell_of_heap h1]; rfl
        have d0 : V2.cell? ⟨S2, 0, none⟩ = some (.string yt) := by rw [Lib.cell_of_heap h2]; rfl
        have d1 : V2.cell? ⟨S2, 1, none⟩ = some (.slice yp ym.length yc) := by rw [Lib.cell_of_heap h2]; rfl
        clear HI k1 k2 hbw hbV hbwV hbV2 hbw2 h1 h2
        by_cases hq : (⟨xt, xp, xc, xm⟩ : Rx).rg = (⟨yt, yp, yc, ym⟩ : Rx).rg
        · rw [decide_eq_true hq] at HC
          have HY := hid (HYES.out hq)
          clear HNO HYES hq
          go_upto_region 6 with fail
          try rw [hS1]
          try rw [hV]
          go_upto_region 7 with fail
          try rw [hS2]
          try rw [hV2]
          clear y0 y1 z0 z1
          go_wp2_with (go_at_fn 38; refine HC.out.mono ?_; rintro e w1 ⟨rfl, hb1⟩)
          have HB1 := hid (bel_then HB.out HB.out.size hb1)
          clear hb1
          go_roundg (l.length - (i + 1))
          case measure => omega
          exact ⟨i + 1, by go_num, by omega, by omega, HB1.out, HY.out⟩
        · rw [decide_eq_false hq] at HC
          have HN := hid (HNO.out hq)
          clear HNO HYES hq
          go_upto_region 6 with fail
          try rw [hS1]
          try rw [hV]
          go_upto_region 7 with fail
          try rw [hS2]
          try rw [hV2]
          clear y0 y1 z0 z1
          go_wp2_with (go_at_fn 38; refine HC.out.mono ?_; rintro e w1 ⟨rfl, hb1⟩)
          have HB1 := hid (bel_then HB.out HB.out.size hb1)
          clear hb1
          go_ret
          exact ⟨ret_bool HN.out.symm, HB1.out⟩
      · have hltz : ¬ (i : Int) < (l.length : Int) := by omega
        have hti : l.take i = l := List.take_of_length_le (by omega)
        have hti2 : m.take i = m := List.take_of_length_le (by have := HLM.out; omega)
        rw [hti, hti2] at HI
        have HE2 : Hid (R = true) := by show R = true; rw [← HR.out]; exact decide_eq_true HI.out.2
        go_wp2_with fail
        go_ret
        exact ⟨ret_bool HE2.out.symm, HI.out.1⟩
  · have q1 : ((l.length : Int) != (m.length : Int)) = true := by simp; omega
    have HE2 : Hid (R = false) := by
      show R = false
      rw [← HR.out, decide_eq_false_iff_not]
      intro e
      have := congrArg List.length e
      rw [List.length_map, List.length_map] at this
      exact hlm this
    clear hlm
    go_enter Try.func37, Try.ntmps37
    go_wp2_with fail
    go_ret
    exact ⟨ret_bool HE2.out.symm, Below.refl _ _⟩

set_option maxHeartbeats 4000000 in
set_option maxRecDepth 100000 in
theorem mequal12_any (a b : Mx) (w : World) (ha : MIn w a) (hb : MIn w b) (la : LenM a) (lb : LenM b) :
    Calls Try.prog 15 #[.agg (encMx a).toArray, .agg (encMx b).toArray] w fun e w' => BoolPost w (decide (a.mk' = b.mk')) e w' := by
  obtain ⟨hbV, h1, h2, hs⟩ := two_boxes w (encMx a).toArray (encMx b).toArray 25 25
  obtain ⟨V, hV⟩ : ∃ V, (w.alloc (.cells (encMx a).toArray 25)).alloc (.cells (encMx b).toArray 25) = V := ⟨_, rfl⟩
  obtain ⟨M, hM⟩ : ∃ M, w.heap.size = M := ⟨_, rfl⟩
  rw [hV] at hbV h1 h2 hs
  rw [hM] at h1 h2 hs
  have l1 := la.1
  have l2 := la.2
  have l3 := lb.1
  have l4 := lb.2
  have HK := hid (eqKy_any a.ksl b.ksl a.ks b.ks V (ha.on hbV).keys (hb.on hbV).keys (by unfold maxLen; omega) (by unfold maxLen; omega))
  have HR : Hid (∀ W', Below V.heap.size V W' → Calls Try.prog 37 #[a.rsl, b.rsl, .func (.func 38) #[] #[]] W' fun e w' => e = .returned (.bool (decide (a.rs.map Rx.rg = b.rs.map Rx.rg))) ∧ Below W'.heap.size W' w') := fun W' hW =>
    eqfRg_any _ _ a.rs b.rs W' ((ha.on hbV).on hW).rows ((hb.on hbV).on hW).rows ((ha.on hbV).on hW).each ((hb.on hbV).on hW).each (by omega)
  have HB := hid hbV
  have HBX : Hid (∀ W' : World, Below V.heap.size V W' → (W'.cell? ⟨M, 0, none⟩ = some a.ksl ∧ W'.cell? ⟨M, 1, none⟩ = some a.rsl) ∧ W'.cell? ⟨M + 1, 0, none⟩ = some b.ksl ∧ W'.cell? ⟨M + 1, 1, none⟩ = some b.rsl) := fun W' hW => by
    have e1 := (hW.block M (by omega)).trans h1
    have e2 := (hW.block (M + 1) (by omega)).trans h2
    exact ⟨⟨by rw [Lib.cell_of_heap e1]; rfl, by rw [Lib.cell_of_heap e1]; rfl⟩, by rw [Lib.cell_of_heap e2]; rfl, by rw [Lib.cell_of_heap e2]; rfl⟩
  have HV : Hid (∀ B1 B2, decide (a.ks = b.ks) = B1 → decide (a.rs.map Rx.rg = b.rs.map Rx.rg) = B2 → decide (a.mk' = b.mk') = (B1 && B2)) := by
    rintro _ _ rfl rfl
    unfold Mx.mk'
    rw [Bool.eq_iff_iff, decide_eq_true_iff, Prod.mk.injEq, Bool.and_eq_true, decide_eq_true_iff, decide_eq_true_iff]
  obtain ⟨B1, hB1⟩ : ∃ B1, decide (a.ks = b.ks) = B1 := ⟨_, rfl⟩
  obtain ⟨B2, hB2⟩ : ∃ B2, decide (a.rs.map Rx.rg = b.rs.map Rx.rg) = B2 := ⟨_, rfl⟩
  have HE := hid (HV.out B1 B2 hB1 hB2)
  rw [hB1] at HK
  rw [hB2] at HR
  obtain ⟨RR, hRR⟩ : ∃ RR, decide (a.mk' = b.mk') = RR := ⟨_, rfl⟩
  rw [hRR] at HE ⊢
  obtain ⟨⟨a0, a1⟩, b0, b1⟩ := HBX.out V (Below.refl _ _)
  clear ha hb la lb hbV h1 h2 hs HV hB1 hB2 hRR
  obtain ⟨akp, akc, aks, arp, arc, ars⟩ := a
  obtain ⟨bkp, bkc, bks, brp, brc, brs⟩ := b
  simp only [encMx, Mx.ksl, Mx.rsl] at *
  go_enter Try.func15, Try.ntmps15
  cases B1 with
  | true =>
    go_wp2_with fail
    try rw [hV]
    refine HK.out.mono ?_
    rintro e w1 ⟨rfl, hb1⟩
    obtain ⟨⟨a0, a1⟩, b0, b1⟩ := HBX.out w1 hb1
    have HR1 := hid (HR.out w1 hb1)
    have HB1 := hid (bel_then HB.out HB.out.size hb1)
    clear hb1 HR
    go_wp2_with fail
    refine HR1.out.mono ?_
    rintro e w2 ⟨rfl, hb2⟩
    have HB2 := hid (bel_then HB1.out HB1.out.size hb2)
    clear hb2
    go_wp2_with fail
    go_ret
    exact ⟨ret_bool HE.out.symm, HB2.out⟩
  | false =>
    go_wp2_with fail
    try rw [hV]
    refine HK.out.mono ?_
    rintro e w1 ⟨rfl, hb1⟩
    obtain ⟨⟨a0, a1⟩, b0, b1⟩ := HBX.out w1 hb1
    have HB1 := hid (bel_then HB.out HB.out.size hb1)
    clear hb1 HR
    go_wp2_with fail
    go_ret
    exact ⟨ret_bool HE.out.symm, HB1.out⟩

end Go.Proofs.Ythdakljoabbghaa

/-
  Package marks (stage 12): hit, Hits, Which.
-/
namespace Go.Proofs.Ythdakljoabbghaa
open Go.RowKit

theorem enters_mhit : ∀ args w, (callFunc 58 args).run Try.prog w = .ok (.enter 58 args) w := enters_of Try.func58 (by kernel_rfl) rfl
theorem enters_mhits : ∀ args w, (callFunc 45 args).run Try.prog w = .ok (.enter 45 args) w := enters_of Try.func45 (by kernel_rfl) rfl

set_option maxHeartbeats 2000000 in
set_option maxRecDepth 100000 in
theorem hit1_any (c : Cx) (x : Rx) (M : Nat) (w : World) (hM : w.heap[M]? = some (.cells (encCx c).toArray 43 (0, 0))) (hc : CIn w c) (hx : x.at w) :
    Calls Try.prog 58 #[.agg (encRx x).toArray, .pointer (some ⟨M, 0, none⟩)] w fun e w' => e = .returned (.bool (touchesM x.rg c.ch)) ∧ Below w.heap.size w w' := by
  obtain ⟨hb, h1, hs⟩ := one_box w (encRx x).toArray 34
  obtain ⟨V, hV⟩ : ∃ V, w.alloc (.cells (encRx x).toArray 34) = V := ⟨_, rfl⟩
  rw [hV] at hb h1 hs
  have hlt : M < w.heap.size := (Array.getElem?_eq_some_iff.1 hM).1
  have h2 := (hb.block M hlt).trans hM
  have HS := hid (mtouches12_any x c V (hx.on hb) (hc.on hb))
  have HB := hid hb
  generalize touchesM x.rg c.ch = R at *
  obtain ⟨K, hK⟩ : ∃ K, w.heap.size = K := ⟨_, rfl⟩
  rw [hK] at h1
  obtain ⟨xt, xp, xc, xm⟩ := x
  obtain ⟨ca, cb, wl, wp, wc, wo, il, ip, ic, io⟩ := c
  simp only [encRx, encCx, Rx.sl] at *
  have c0 : V.cell? ⟨K, 0, none⟩ = some (.string xt) := by rw [Lib.cell_of_heap h1]; rfl
  have c1 : V.cell? ⟨K, 1, none⟩ = some (.slice xp xm.length xc) := by rw [Lib.cell_of_heap h1]; rfl
  have d0 : V.cell? ⟨M, 0, none⟩ = some (.string ca) := by rw [Lib.cell_of_heap h2]; rfl
  have d1 : V.cell? ⟨M, 1, none⟩ = some (.string cb) := by rw [Lib.cell_of_heap h2]; rfl
  have d2 : V.cell? ⟨M, 2, none⟩ = some (.bool wl) := by rw [Lib.cell_of_heap h2]; rfl
  have d3 : V.cell? ⟨M, 3, none⟩ = some (.slice wp wo.length wc) := by rw [Lib.cell_of_heap h2]; rfl
  have d4 : V.cell? ⟨M, 4, none⟩ = some (.bool il) := by rw [Lib.cell_of_heap h2]; rfl
  have d5 : V.cell? ⟨M, 5, none⟩ = some (.slice ip io.length ic) := by rw [Lib.cell_of_heap h2]; rfl
  clear hM hc hx h1 h2 hb hs
  go_enter Try.func58, Try.ntmps58
  go_wp2_with fail
  try rw [hV]
  try rw [hK]
  refine HS.out.mono ?_
  rintro e w1 ⟨rfl, hb1⟩
  have HB1 := hid (bel_then HB.out HB.out.size hb1)
  clear hb1
  go_wp2_with fail
  go_ret
  exact ⟨rfl, HB1.out⟩

set_option maxHeartbeats 4000000 in
set_option maxRecDepth 100000 in
theorem mhit12_any (m : Mx) (c : Cx) (w : World) (hm : MIn w m) (hw : LenM m) (hc : CIn w c) :
    Calls Try.prog 42 #[.agg (encMx m).toArray, .agg (encCx c).toArray] w fun e w' => e = .returned (.bool (hitM m.mk' c.ch)) ∧ Below w.heap.size w w' := by
  obtain ⟨hbV, h1, h2, hs⟩ := two_boxes w (encMx m).toArray (encCx c).toArray 25 43
  obtain ⟨V, hV⟩ : ∃ V, (w.alloc (.cells (encMx m).toArray 25)).alloc (.cells (encCx c).toArray 43) = V := ⟨_, rfl⟩
  obtain ⟨M, hM⟩ : ∃ M, w.heap.size = M := ⟨_, rfl⟩
  rw [hV] at hbV h1 h2 hs
  rw [hM] at h1 h2 hs
  have l1 := hw.1
  have l2 := hw.2
  have HK := hid (conKy_any m.ksl m.ks (c.a, c.b) V (hm.on hbV).keys (by unfold maxLen; omega))
  have HR : Hid (∀ W', Below V.heap.size V W' → Calls Try.prog 54 #[m.rsl, .func (.func 58) #[] #[.pointer (some ⟨M + 1, 0, none⟩)]] W' fun e w' => e = .returned (.bool (m.rs.any fun r => touchesM r.rg c.ch)) ∧ Below W'.heap.size W' w') := fun W' hW =>
    hasRange_any (fun r => touchesM r.rg c.ch) _ _ enters_mhit _ m.rs W' ((hm.on hbV).on hW).rows (by omega) (fun W x hW2 hx => hit1_any c x (M + 1) W (((bel_then hW hW.size hW2).block (M + 1) (by omega)).trans h2) ((hc.on hbV).on (bel_then hW hW.size hW2)) ((((hm.on hbV).on (bel_then hW hW.size hW2))).each x hx))
  have HB := hid hbV
  have HBX : Hid (∀ W' : World, Below V.heap.size V W' → (W'.cell? ⟨M, 0, none⟩ = some m.ksl ∧ W'.cell? ⟨M, 1, none⟩ = some m.rsl) ∧ W'.cell? ⟨M + 1, 0, none⟩ = some (.string c.a) ∧ W'.cell? ⟨M + 1, 1, none⟩ = some (.string c.b)) := fun W' hW => by
    have e1 := (hW.block M (by omega)).trans h1
    have e2 := (hW.block (M + 1) (by omega)).trans h2
    exact ⟨⟨by rw [Lib.cell_of_heap e1]; rfl, by rw [Lib.cell_of_heap e1]; rfl⟩, by rw [Lib.cell_of_heap e2]; rfl, by rw [Lib.cell_of_heap e2]; rfl⟩
  have HV : Hid (∀ B1 B2, (m.ks.any fun x => decide (x = (c.a, c.b))) = B1 → (m.rs.any fun r => touchesM r.rg c.ch) = B2 → hitM m.mk' c.ch = (B1 || B2)) := by
    rintro _ _ rfl rfl
    unfold hitM Mx.mk'
    rw [List.any_map]
    rfl
  obtain ⟨B1, hB1⟩ : ∃ B1, (m.ks.any fun x => decide (x = (c.a, c.b))) = B1 := ⟨_, rfl⟩
  obtain ⟨B2, hB2⟩ : ∃ B2, (m.rs.any fun r => touchesM r.rg c.ch) = B2 := ⟨_, rfl⟩
  have HE := hid (HV.out B1 B2 hB1 hB2)
  rw [hB1] at HK
  rw [hB2] at HR
  obtain ⟨RR, hRR⟩ : ∃ RR, hitM m.mk' c.ch = RR := ⟨_, rfl⟩
  rw [hRR] at HE ⊢
  obtain ⟨⟨a0, a1⟩, b0, b1⟩ := HBX.out V (Below.refl _ _)
  clear hm hw hc hbV h1 h2 hs HV hB1 hB2 hRR
  obtain ⟨akp, akc, aks, arp, arc, ars⟩ := m
  obtain ⟨ca, cb, wl, wp, wc, wo, il, ip, ic, io⟩ := c
  simp only [encMx, encCx, Mx.ksl, Mx.rsl, encKy] at *
  go_enter Try.func42, Try.ntmps42
  cases B1 with
  | true =>
    go_wp2_with fail
    try rw [hV]
    refine HK.out.mono ?_
    rintro e w1 ⟨rfl, hb1⟩
    obtain ⟨⟨a0, a1⟩, b0, b1⟩ := HBX.out w1 hb1
    have HB1 := hid (bel_then HB.out HB.out.size hb1)
    clear hb1 HR
    go_wp2_with fail
    go_ret
    exact ⟨ret_bool HE.out.symm, HB1.out⟩
  | false =>
    go_wp2_with fail
    try rw [hV]
    refine HK.out.mono ?_
    rintro e w1 ⟨rfl, hb1⟩
    obtain ⟨⟨a0, a1⟩, b0, b1⟩ := HBX.out w1 hb1
    have HR1 := hid (HR.out w1 hb1)
    have HB1 := hid (bel_then HB.out HB.out.size hb1)
    clear hb1 HR
    go_wp2_with fail
    try rw [hM]
    refine HR1.out.mono ?_
    rintro e w2 ⟨rfl, hb2⟩
    have HB2 := hid (bel_then HB1.out HB1.out.size hb2)
    clear hb2
    go_wp2_with fail
    go_ret
    exact ⟨ret_bool (by rw [HE.out]; rfl), HB2.out⟩

set_option maxHeartbeats 2000000 in
set_option maxRecDepth 100000 in
theorem hits1_any (m : Mx) (c : Cx) (M : Nat) (w : World) (hM : w.heap[M]? = some (.cells (encMx m).toArray 25 (0, 0))) (hm : MIn w m) (hw : LenM m) (hc : CIn w c) :
    Calls Try.prog 45 #[.agg (encCx c).toArray, .pointer (some ⟨M, 0, none⟩)] w fun e w' => e = .returned (.bool (hitM m.mk' c.ch)) ∧ Below w.heap.size w w' := by
  obtain ⟨hb, h1, hs⟩ := one_box w (encCx c).toArray 43
  obtain ⟨V, hV⟩ : ∃ V, w.alloc (.cells (encCx c).toArray 43) = V := ⟨_, rfl⟩
  rw [hV] at hb h1 hs
  have hlt : M < w.heap.size := (Array.getElem?_eq_some_iff.1 hM).1
  have h2 := (hb.block M hlt).trans hM
  have HS := hid (mhit12_any m c V (hm.on hb) hw (hc.on hb))
  have HB := hid hb
  generalize hitM m.mk' c.ch = R at *
  obtain ⟨K, hK⟩ : ∃ K, w.heap.size = K := ⟨_, rfl⟩
  rw [hK] at h1
  obtain ⟨akp, akc, aks, arp, arc, ars⟩ := m
  obtain ⟨ca, cb, wl, wp, wc, wo, il, ip, ic, io⟩ := c
  simp only [encMx, encCx, Mx.ksl, Mx.rsl] at *
  have c0 : V.cell? ⟨M, 0, none⟩ = some (.slice akp aks.length akc) := by rw [Lib.cell_of_heap h2]; rfl
  have c1 : V.cell? ⟨M, 1, none⟩ = some (.slice arp ars.length arc) := by rw [Lib.cell_of_heap h2]; rfl
  have d0 : V.cell? ⟨K, 0, none⟩ = some (.string ca) := by rw [Lib.cell_of_heap h1]; rfl
  have d1 : V.cell? ⟨K, 1, none⟩ = some (.string cb) := by rw [Lib.cell_of_heap h1]; rfl
  have d2 : V.cell? ⟨K, 2, none⟩ = some (.bool wl) := by rw [Lib.cell_of_heap h1]; rfl
  have d3 : V.cell? ⟨K, 3, none⟩ = some (.slice wp wo.length wc) := by rw [Lib.cell_of_heap h1]; rfl
  have d4 : V.cell? ⟨K, 4, none⟩ = some (.bool il) := by rw [Lib.cell_of_heap h1]; rfl
  have d5 : V.cell? ⟨K, 5, none⟩ = some (.slice ip io.length ic) := by rw [Lib.cell_of_heap h1]; rfl
  clear hM hc hm hw h1 h2 hb hs
  go_enter Try.func45, Try.ntmps45
  go_wp2_with fail
  try rw [hV]
  try rw [hK]
  refine HS.out.mono ?_
  rintro e w1 ⟨rfl, hb1⟩
  have HB1 := hid (bel_then HB.out HB.out.size hb1)
  clear hb1
  go_wp2_with fail
  go_ret
  exact ⟨rfl, HB1.out⟩

set_option maxHeartbeats 2000000 in
set_option maxRecDepth 100000 in
theorem mhits12_any' (m : Mx) (v : Value) (l : List Cx) (w : World) (hm : MIn w m) (hw : LenM m) (hv : ChgIn w v l) (hl : l.length < 1500000000000) :
    Calls Try.prog 19 #[.agg (encMx m).toArray, v] w fun e w' => BoolPost w (hitsM m.mk' (l.map Cx.ch)) e w' := by
  obtain ⟨hb, h1, hs⟩ := one_box w (encMx m).toArray 25
  obtain ⟨V, hV⟩ : ∃ V, w.alloc (.cells (encMx m).toArray 25) = V := ⟨_, rfl⟩
  obtain ⟨M, hM⟩ : ∃ M, w.heap.size = M := ⟨_, rfl⟩
  rw [hV] at hb h1 hs
  rw [hM] at h1 hs
  have hvV := hv.on hb
  have HH := hid (hasChange_any (fun x => hitM m.mk' x.ch) 45 #[.pointer (some ⟨M, 0, none⟩)] enters_mhits v l V hvV.is (by omega) (fun W x hW hx => hits1_any m x M W ((hW.block M (by omega)).trans h1) ((hm.on hb).on hW) hw ((hvV.each x hx).on hW)))
  have HE : Hid (l.any (fun x => hitM m.mk' x.ch) = hitsM m.mk' (l.map Cx.ch)) := by show _ = _; unfold hitsM; rw [List.any_map]; rfl
  have HB := hid hb
  generalize l.any (fun x => hitM m.mk' x.ch) = R at *
  generalize hitsM m.mk' (l.map Cx.ch) = R2 at *
  obtain ⟨p, cap, rfl⟩ : ∃ p cap, v = .slice p l.length cap := by obtain ⟨p, cap, h, _⟩ := hv.is; exact ⟨p, cap, h⟩
  clear hv hvV hm hw hb h1 hs
  obtain ⟨akp, akc, aks, arp, arc, ars⟩ := m
  simp only [encMx, Mx.ksl, Mx.rsl] at *
  go_enter Try.func19, Try.ntmps19
  go_wp2_with fail
  try rw [hV]
  try rw [hM]
  refine HH.out.mono ?_
  rintro e w1 ⟨rfl, hb1⟩
  have HB1 := hid (bel_then HB.out HB.out.size hb1)
  clear hb1
  go_wp2_with fail
  go_ret
  exact ⟨ret_bool HE.out, HB1.out⟩

/-- Whose keys hit, in the list's order. -/
def hitKs (m : Mk) (l : List Cx) : List Ky := (l.filter fun x => hitM m x.ch).map fun x => (x.a, x.b)
theorem hitKs_which (m : Mk) (l : List Cx) : sortK (hitKs m l) = whichM m (l.map Cx.ch) := by
  unfold sortK hitKs whichM
  rw [List.foldl_map, List.foldl_filter, List.foldl_map]
  rfl
theorem hitKs_snoc (m : Mk) (l : List Cx) (x : Cx) : hitKs m (l ++ [x]) = if hitM m x.ch = true then hitKs m l ++ [(x.a, x.b)] else hitKs m l := by
  unfold hitKs
  rw [List.filter_append, List.map_append]
  by_cases h : hitM m x.ch = true
  · simp [h]
  · simp [h]
theorem hitKs_len (m : Mk) (l : List Cx) : (hitKs m l).length ≤ l.length := by
  unfold hitKs
  rw [List.length_map]
  exact List.length_filter_le _ _

theorem infoKy12 : (Try.prog.info? 27).map (fun i => (i.zero, i.size, i.bytes)) = some (some (.agg #[.string ⟨#[]⟩, .string ⟨#[]⟩]), 2, 32) := by kernel_rfl

set_option maxHeartbeats 4000000 in
set_option maxRecDepth 100000 in
theorem mwhich12_any (m : Mx) (v : Value) (l : List Cx) (w : World) (hm : MIn w m) (hw : LenM m) (hv : ChgIn w v l) (hl : l.length < 1500000000000) :
    Calls Try.prog 18 #[.agg (encMx m).toArray, v] w fun e w' => KeyRPost w (whichM m.mk' (l.map Cx.ch)) e w' := by
  obtain ⟨i0, hi0, hz0, hz1, hz2⟩ := info_parts infoKy12
  have HI0 := hid hi0
  obtain ⟨hb, h1, hs⟩ := one_box w (encMx m).toArray 25
  obtain ⟨V, hV⟩ : ∃ V, w.alloc (.cells (encMx m).toArray 25) = V := ⟨_, rfl⟩
  obtain ⟨M, hM⟩ : ∃ M, w.heap.size = M := ⟨_, rfl⟩
  rw [hV] at hb h1 hs
  rw [hM] at h1 hs
  obtain ⟨p, cap, rfl⟩ : ∃ p cap, v = .slice p l.length cap := by obtain ⟨p, cap, h, _⟩ := hv.is; exact ⟨p, cap, h⟩
  have HIN : Hid (∀ W', Below V.heap.size V W' → ChgIn W' (.slice p l.length cap) l ∧ (∀ x ∈ l, Calls Try.prog 42 #[.agg (encMx m).toArray, .agg (encCx x).toArray] W' fun e w' => e = .returned (.bool (hitM m.mk' x.ch)) ∧ Below W'.heap.size W' w') ∧ W'.cell? ⟨M, 0, none⟩ = some m.ksl ∧ W'.cell? ⟨M, 1, none⟩ = some m.rsl) := fun W' hW => by
    have e1 := (hW.block M (by omega)).trans h1
    exact ⟨(hv.on hb).on hW, fun x hx => mhit12_any m x W' ((hm.on hb).on hW) hw (((hv.on hb).on hW).each x hx), by rw [Lib.cell_of_heap e1]; rfl, by rw [Lib.cell_of_heap e1]; rfl⟩
  have HWH := hid (hitKs_which m.mk' l)
  have HB := hid hb
  clear hv hm hw hb h1 hi0
  generalize whichM m.mk' (l.map Cx.ch) = RW at *
  generalize m.mk' = mk at *
  obtain ⟨akp, akc, aks, arp, arc, ars⟩ := m
  simp only [encMx, Mx.ksl, Mx.rsl] at *
  go_enter Try.func18, Try.ntmps18
  go_wp2_with fail
  try rw [hV]
  try rw [hM]
  clear hV
  go_loopg [5, 10] l.length (fun gg v5 vi wr => ∃ (i : Nat) (L : List Ky) (p' : Option Addr) (c' : Nat), v5 = .slice p' L.length c' ∧ vi = .int .i64 i ∧ i ≤ l.length ∧ l.length - i ≤ gg ∧ L.length ≤ i ∧ Hid (RowSt KK V.heap.size V (.slice p' L.length c') L wr ∧ L = hitKs mk (l.take i)))
  case atStart => exact ⟨0, [], none, 0, rfl, rfl, by omega, by omega, by simp, RowSt.nil KK (Below.refl _ _) (Nat.le_refl _), by simp [hitKs]⟩
  case round =>
    obtain ⟨i, L, p', c', rfl, rfl, hi, hgk, hLi, HS⟩ := hrel
    by_cases hlt : i < l.length
    · have hltz : (i : Int) < (l.length : Int) := by omega
      have hiz : (0 : Int) ≤ i := by omega
      have hbw := HS.out.1.bel
      obtain ⟨b1, o1, rfl, k1⟩ : ∃ b off, p = some ⟨b, off, none⟩ ∧ KCx.At wr b off l := by
        obtain ⟨p9, c9, he, h⟩ := (HIN.out wr hbw).1.is
        injection he with e1 _ _
        subst e1
        rcases h with h | h
        · rw [h] at hlt; simp at hlt
        · exact h
      obtain ⟨y0, y1, y2, y3, y4, y5⟩ := kcx_at k1 i hlt
      have htk : l.take (i + 1) = l.take i ++ [l[i]] := List.take_succ_eq_append_getElem hlt
      have HTK : Hid (hitKs mk (l.take (i + 1)) = if hitM mk (l[i]).ch = true then L ++ [((l[i]).a, (l[i]).b)] else L) := by
        show _ = _
        rw [htk, hitKs_snoc, ← HS.out.2]
      obtain ⟨W1, hW1⟩ : ∃ W1, wr.alloc (.cells #[.string (l[i]).a, .string (l[i]).b, .bool (l[i]).wl, .slice (l[i]).wp (l[i]).wo.length (l[i]).wc, .bool (l[i]).il, .slice (l[i]).ip (l[i]).io.length (l[i]).ic] 43) = W1 := ⟨_, rfl⟩
      have hb1 : Below wr.heap.size wr W1 := by rw [← hW1]; exact (Below.refl _ _).alloc (Nat.le_refl _) _
      have hn1 : W1.heap[wr.heap.size]? = some (.cells #[.string (l[i]).a, .string (l[i]).b, .bool (l[i]).wl, .slice (l[i]).wp (l[i]).wo.length (l[i]).wc, .bool (l[i]).il, .slice (l[i]).ip (l[i]).io.length (l[i]).ic] 43 (0, 0)) := by rw [← hW1]; exact heap_alloc_new wr _
      have hbV1 : Below V.heap.size V W1 := bel_then hbw hbw.size hb1
      obtain ⟨_, hhit, a0, a1⟩ := HIN.out W1 hbV1
      have HH := hid (hhit _ (List.getElem_mem hlt))
      have HS1 := hid (HS.out.1.on hb1)
      obtain ⟨Q, hQ⟩ : ∃ Q, wr.heap.size = Q := ⟨_, rfl⟩
      rw [hQ] at hn1
      have hQl : Q < W1.heap.size := (Array.getElem?_eq_some_iff.1 hn1).1
      have HN1 : Hid (∀ W', Below W1.heap.size W1 W' → W'.cell? ⟨Q, 0, none⟩ = some (.string (l[i]).a) ∧ W'.cell? ⟨Q, 1, none⟩ = some (.string (l[i]).b)) := fun W' hW => by
        have e1 := (hW.block Q hQl).trans hn1
        exact ⟨by rw [Lib.cell_of_heap e1]; rfl, by rw [Lib.cell_of_heap e1]; rfl⟩
      generalize l[i] = x at *
      obtain ⟨ca, cb, wl, wp, wc, wo, il, ip, ic, io⟩ := x
      simp only [encCx] at *
      have d0 : W1.cell? ⟨Q, 0, none⟩ = some (.string ca) := by rw [Lib.cell_of_heap hn1]; rfl
      have d1 : W1.cell? ⟨Q, 1, none⟩ = some (.string cb) := by rw [Lib.cell_of_heap hn1]; rfl
      have d2 : W1.cell? ⟨Q, 2, none⟩ = some (.bool wl) := by rw [Lib.cell_of_heap hn1]; rfl
      have d3 : W1.cell? ⟨Q, 3, none⟩ = some (.slice wp wo.length wc) := by rw [Lib.cell_of_heap hn1]; rfl
      have d4 : W1.cell? ⟨Q, 4, none⟩ = some (.bool il) := by rw [Lib.cell_of_heap hn1]; rfl
      have d5 : W1.cell? ⟨Q, 5, none⟩ = some (.slice ip io.length ic) := by rw [Lib.cell_of_heap hn1]; rfl
      clear k1 hbw HS htk hb1 hn1 hbV1 hhit
      go_upto_region 5 with fail
      try rw [hQ]
      try rw [hW1]
      clear hW1 y0 y1 y2 y3 y4 y5
      cases hq : hitM mk (⟨ca, cb, wl, wp, wc, wo, il, ip, ic, io⟩ : Cx).ch with
      | true =>
        rw [hq] at HH HTK
        rw [if_pos rfl] at HTK
        clear hq
        go_wp2_with fail
        refine HH.out.mono ?_
        rintro e w2 ⟨rfl, hb2⟩
        obtain ⟨f0, f1⟩ := HN1.out w2 hb2
        have hs2 := HS1.out.on hb2
        obtain ⟨W3, hW3⟩ : ∃ W3, w2.alloc (.cells #[.string ca, .string cb] 27) = W3 := ⟨_, rfl⟩
        have hb3 : Below w2.heap.size w2 W3 := by rw [← hW3]; exact (Below.refl _ _).alloc (Nat.le_refl _) _
        have HN3 : Hid (W3.heap[w2.heap.size]? = some (.cells #[.string ca, .string cb] 27 (0, 0))) := by rw [← hW3]; exact heap_alloc_new w2 _
        have HS3 := hid (hs2.on hb3)
        clear hb2 hs2 hb3 HH HN1 d0 d1 d2 d3 d4 d5 a0 a1
        go_wp2_with (at_builtin; refine wpList_push KK rfl _ _ 22 rfl i0 _ 32 Try.underlying22 HI0.out hz0 hz1 hz2 rfl V.heap.size V _ L rfl HS3.out (ca, cb) _ _ _ rfl rfl _ _ HN3.out (by unfold maxLen; omega) (by omega) ?_
                     intro g3 c3 w3 hst3 hg3 _
                     have HS4 := hid hst3
                     clear hst3 hg3)
        go_roundg (l.length - (i + 1))
        case measure => omega
        exact ⟨i + 1, L ++ [(ca, cb)], some ⟨g3, 0, none⟩, c3, by rw [List.length_append]; rfl, by go_num, by omega, by omega, by rw [List.length_append, List.length_singleton]; omega, by rw [List.length_append]; exact HS4.out, HTK.out.symm⟩
      | false =>
        rw [hq] at HH HTK
        rw [if_neg (by simp)] at HTK
        clear hq
        go_wp2_with fail
        refine HH.out.mono ?_
        rintro e w2 ⟨rfl, hb2⟩
        have HS2 := hid (HS1.out.on hb2)
        clear hb2 HH HN1 d0 d1 d2 d3 d4 d5 a0 a1
        go_wp2_with fail
        go_roundg (l.length - (i + 1))
        case measure => omega
        exact ⟨i + 1, L, p', c', rfl, by go_num, by omega, by omega, by omega, HS2.out, HTK.out.symm⟩
    · have hltz : ¬ (i : Int) < (l.length : Int) := by omega
      have hti : l.take i = l := List.take_of_length_le (by omega)
      rw [hti] at HS
      have HN := hid (nsort_own V.heap.size _ L wr HS.out.1.own (by omega))
      go_wp2_with fail
      refine HN.out.mono ?_
      rintro e w2 ⟨u, rfl, ho, hb2⟩
      have HO := hid ho
      have hbw := HS.out.1.bel
      have HB2 := hid (bel_then (bel_then HB.out HB.out.size hbw) (Nat.le_trans HB.out.size hbw.size) hb2)
      have hsz : w.heap.size ≤ wr.heap.size := Nat.le_trans HB.out.size hbw.size
      clear ho hb2 hbw
      go_wp2_with fail
      go_ret
      refine ⟨_, rfl, ?_, HB2.out⟩
      rw [← HWH.out, ← HS.out.2]
      exact Kind.own_weak HO.out hsz

end Go.Proofs.Ythdakljoabbghaa

/-
  slices.Grow of nothing, slices.Concat of two lists of keys.
-/
namespace Go.Proofs.Ythdakljoabbghaa
open Go.RowKit

theorem infoKg12 : (Try.prog.info? 27).map (fun i => (i.zero, i.size, i.bytes)) = some (some (.agg #[.string ⟨#[]⟩, .string ⟨#[]⟩]), 2, 32) := by kernel_rfl

/-- Room for n keys. -/
theorem growKy_room (n : Nat) (w : World) (hn : 0 < n) (hn2 : n * 32 ≤ 140737488355328) : ∃ (g cap : Nat) (w' : World), (∀ ty, (Builtin.append_ #[22, 3] ty #[.slice none 0 0, .int .i64 (n : Int)]).run Try.prog w = .ok (.slice (some ⟨g, 0, none⟩) n cap) w') ∧ n ≤ cap ∧ cap ≤ maxLen ∧ KK.Own w.heap.size w' (.slice (some ⟨g, 0, none⟩) 0 cap) [] ∧ Below w.heap.size w w' := by
  obtain ⟨i0, hi0, hz0, hz1, hz2⟩ := info_parts infoKg12
  have hold : (Builtin.firstCells i0.size 0 (.slice none 0 0)).run Try.prog w.drew = .ok ([] : List Value).toArray w.drew := run_firstCells_none w.drew i0.size 0 0 0
  have h := fun ty => Lib.run_append_grow_zeros (P := Try.prog) w 22 3 ty 27 i0 _ .i64 .i64 Try.underlying22 Try.underlying3 hi0 hz0 none 0 0 [] hold n hn (by omega) (by omega) (by omega) (by rw [hz2]; omega) (growslice_fits (by omega) (by rw [hz2]; omega))
  simp only [Nat.zero_add] at h
  have hG := grownCap_ge w n 0 27
  have hM := grownCap_le_maxLen w n 0 27 (by unfold maxLen; omega)
  generalize grownCap w n 0 27 = G at *
  refine ⟨_, _, _, h, hG, hM, ?_, ?_⟩
  · refine World.ownsRow_made w.drew _ G (Nat.le_refl _) hM ?_
    have e : ∀ m, (Builtin.zeroCells (Value.agg #[.string ⟨#[]⟩, .string ⟨#[]⟩]).cells m).size = m * 2 := fun m => by
      have := congrArg List.length (Z.zero_cells (.string ⟨#[]⟩) m)
      simpa [Value.cells] using this
    rw [Array.size_append, Array.size_append, e, e]
    show 0 + n * 2 + (G - n) * 2 = G * 2
    omega
  · exact ((Below.refl _ w).drew).alloc (Nat.le_refl _) _

theorem wpList_append_made {ops : Array Oper} {rest : List Oper} {o : Oper} {a : Act} {Q : Exit → Act → World → Prop} (w : World) (hgd : o.guard = none) (s x : Operand) (t tn : TypeId)
    (ho : o.op = .call { callee := .builtin .append, args := #[s, x], argTypes := #[t, tn] }) (vs vx v' : Value) (w' : World) (hs : a.eval s = vs) (hx : a.eval x = vx) (hrun : ∀ ty, (Builtin.append_ #[t, tn] ty #[vs, vx]).run Try.prog w = .ok v' w')
    (h : wpList Try.prog ops Q rest (a.put o.dst v') w') : wpList Try.prog ops Q (o :: rest) a w := by
  refine wpList_plain hgd fun K hK' => ?_
  unfold Oper.wp
  simp [execOp, ho, resolve, invoke, builtin, hs, hx, hrun, Result.andThen]
  exact hK' _ _ h

set_option maxHeartbeats 2000000 in
theorem growKy_any (n : Nat) (w : World) (hn : n * 32 ≤ 140737488355328) :
    Calls Try.prog 67 #[.slice none 0 0, .int .i64 (n : Int)] w fun e w' => (∃ u, e = .returned u ∧ KK.Own w.heap.size w' u []) ∧ Below w.heap.size w w' := by
  by_cases h0 : n = 0
  · subst h0
    go_enter Try.func67, Try.ntmps67
    go_wp2_with fail
    go_ret
    exact ⟨⟨_, rfl, KK.own_nil _ _⟩, Below.refl _ _⟩
  · obtain ⟨g, cap, w', hap, hc1, hc2, ho, hb⟩ := growKy_room n w (by omega) hn
    have HO := hid ho
    have HB := hid hb
    have q1 : ¬ ((n : Int) < 0) := by omega
    have q2 : (n : Int) > 0 := by omega
    have q3 : wrap64 (n : Int) = n := by unfold wrap64; omega
    unfold maxLen at hc2
    have HAP := hid hap
    clear ho hb hap
    go_enter Try.func67, Try.ntmps67
    go_wp2_with (at_builtin; refine wpList_append_made _ rfl _ _ 22 3 rfl _ _ _ _ rfl rfl HAP.out ?_)
    go_ret
    exact ⟨⟨_, rfl, HO.out⟩, HB.out⟩

set_option maxHeartbeats 4000000 in
set_option maxRecDepth 100000 in
theorem concatKy_any (B : Nat) (pa pb : Option Addr) (ca cb : Nat) (a b : List Ky) (w : World) (hB : w.heap[B]? = some (.cells #[.slice pa a.length ca, .slice pb b.length cb] 22 (0, 0)))
    (ha : KK.Is w (.slice pa a.length ca) a) (hb : KK.Is w (.slice pb b.length cb) b) (hl : (a.length + b.length) * 32 ≤ 140737488355328) :
    Calls Try.prog 50 #[.slice (some ⟨B, 0, none⟩) 2 2] w fun e w' => (∃ u, e = .returned u ∧ KK.Own w.heap.size w' u (a ++ b)) ∧ Below w.heap.size w w' := by
  obtain ⟨i0, hi0, hz0, hz1, hz2⟩ := info_parts infoKg12
  have HI0 := hid hi0
  clear hi0
  have hBl : B < w.heap.size := (Array.getElem?_eq_some_iff.1 hB).1
  have HBX : Hid (∀ W', Below w.heap.size w W' → (W'.cell? ⟨B, 0, none⟩ = some (.slice pa a.length ca) ∧ W'.cell? ⟨B, 1, none⟩ = some (.slice pb b.length cb)) ∧ KK.Is W' (.slice pa a.length ca) a ∧ KK.Is W' (.slice pb b.length cb) b) := fun W' hW => by
    have e1 := (hW.block B hBl).trans hB
    exact ⟨⟨by rw [Lib.cell_of_heap e1]; rfl, by rw [Lib.cell_of_heap e1]; rfl⟩, Kind.is_kept ha hW, Kind.is_kept hb hW⟩
  obtain ⟨n, hn⟩ : ∃ n, a.length + b.length = n := ⟨_, rfl⟩
  have q1 : wrap64 (a.length : Int) = a.length := by unfold wrap64; omega
  have q2 : wrap64 ((a.length : Int) + (b.length : Int)) = (n : Int) := by unfold wrap64; omega
  have q3 : ¬ ((a.length : Int) < 0) := by omega
  have q4 : ¬ ((n : Int) < 0) := by omega
  have hG := growKy_any n w (by omega)
  rw [show (n : Int) = (a.length : Int) + (b.length : Int) by omega] at hG
  have HG := hid hG
  clear hG
  obtain ⟨⟨c0, c1⟩, _, _⟩ := HBX.out w (Below.refl _ _)
  have HN := hid hn
  clear ha hb hB hn
  go_enter Try.func50, Try.ntmps50
  go_wp2_with fail
  refine wp_loop_rounds 3 ?_
  rw [rounds_succ]
  go_wp2_with fail
  rw [rounds_succ]
  go_wp2_with fail
  rw [rounds_succ]
  go_wp2_with fail
  refine HG.out.mono ?_
  rintro e w1 ⟨⟨u1, rfl, ho1⟩, hb1⟩
  obtain ⟨⟨c0, c1⟩, ha1, hb1'⟩ := HBX.out w1 hb1
  have HA1 : Hid (a.length = 0 ∨ ∃ ad, pa = some ad ∧ ∀ j u, (KK.cells a)[j]? = some u → w1.cell? (ad.add j) = some u) := by
    obtain ⟨p9, c9, he, h⟩ := ha1
    injection he with e1 _ _
    subst e1
    exact Kind.src h
  have HO1 := hid ho1
  have HB1 := hid hb1
  have hs1 := hb1.size
  clear ho1 hb1 ha1 hb1' HG
  go_wp2_with fail
  refine wp_loop_rounds 3 ?_
  rw [rounds_succ]
  go_wp2_with (at_builtin; refine wpList_append_rows _ rfl _ _ 22 rfl w.heap.size 27 i0 _ 2 32 Try.underlying22 HI0.out hz0 hz1 hz2 rfl (by decide) _ 0 [] rfl HO1.out pa a.length ca (KK.cells a) rfl (KK.cells_len a) HA1.out (KK.cells_ones a) (by unfold maxLen; have := HN.out; omega) (by omega) hs1 ?_
               intro u2 w2 ho2 hg2
               have hb2 := below_grown HB1.out hg2 (fun k hk => (World.ownsRow.lt (show w1.ownsRow w.heap.size KK.T KK.k u1 0 (KK.cells []) from HO1.out) k hk).1) hs1
               obtain ⟨⟨c0, c1⟩, ha2, hb2'⟩ := HBX.out w2 hb2
               have HA2 : Hid (b.length = 0 ∨ ∃ ad, pb = some ad ∧ ∀ j u, (KK.cells b)[j]? = some u → w2.cell? (ad.add j) = some u) := by
                 obtain ⟨p9, c9, he, h⟩ := hb2'
                 injection he with e1 _ _
                 subst e1
                 exact Kind.src h
               have HO2 : Hid (KK.Own w.heap.size w2 u2 a) := by
                 have := ho2
                 rw [Nat.zero_add, List.nil_append] at this
                 exact this
               have HB2 := hid hb2
               have hs2 := hb2.size
               clear ho2 hg2 hb2 ha2 hb2')
  rw [rounds_succ]
  go_wp2_with (at_builtin; refine wpList_append_rows _ rfl _ _ 22 rfl w.heap.size 27 i0 _ 2 32 Try.underlying22 HI0.out hz0 hz1 hz2 rfl (by decide) _ a.length (KK.cells a) rfl HO2.out pb b.length cb (KK.cells b) rfl (KK.cells_len b) HA2.out (KK.cells_ones b) (by unfold maxLen; have := HN.out; omega) (by omega) hs2 ?_
               intro u3 w3 ho3 hg3
               have HB3 := hid (below_grown HB2.out hg3 (fun k hk => (World.ownsRow.lt (show w2.ownsRow w.heap.size KK.T KK.k u2 a.length (KK.cells a) from HO2.out) k hk).1) hs2)
               have HO3 : Hid (KK.Own w.heap.size w3 u3 (a ++ b)) := by
                 show w3.ownsRow _ _ _ _ _ _
                 rw [List.length_append, KK.cells_append]
                 exact ho3
               clear ho3 hg3)
  rw [rounds_succ]
  go_wp2_with fail
  go_ret
  exact ⟨⟨_, rfl, HO3.out⟩, HB3.out⟩

end Go.Proofs.Ythdakljoabbghaa

/-
  Package marks (stage 12): rising, joined.
-/
namespace Go.Proofs.Ythdakljoabbghaa
open Go.RowKit

set_option maxHeartbeats 4000000 in
set_option maxRecDepth 100000 in
theorem mrising12_any (B : Nat) (pa pb : Option Addr) (ca cb : Nat) (a b : List Ky) (w : World) (hB : w.heap[B]? = some (.cells #[.slice pa a.length ca, .slice pb b.length cb] 22 (0, 0)))
    (ha : KK.Is w (.slice pa a.length ca) a) (hb : KK.Is w (.slice pb b.length cb) b) (hl : a.length + b.length ≤ 4398046511104) :
    Calls Try.prog 29 #[.slice (some ⟨B, 0, none⟩) 2 2] w fun e w' => KeyRPost w (sortK (a ++ b)) e w' := by
  have HC := hid (concatKy_any B pa pb ca cb a b w hB ha hb (by omega))
  have HN : Hid (∀ (u : Value) (w1 : World), KK.Own w.heap.size w1 u (a ++ b) → Calls Try.prog 43 #[u] w1 fun e w' => ∃ u', e = .returned u' ∧ KK.Own w1.heap.size w' u' (sortK (a ++ b)) ∧ Below w1.heap.size w1 w') := fun u w1 h => nsort_own _ u _ w1 h (by rw [List.length_append]; omega)
  generalize sortK (a ++ b) = R at *
  generalize a ++ b = L at *
  clear hB ha hb
  go_enter Try.func29, Try.ntmps29
  go_wp2_with fail
  refine HC.out.mono ?_
  rintro e w1 ⟨⟨u1, rfl, ho1⟩, hb1⟩
  have HN1 := hid (HN.out u1 w1 ho1)
  have HB1 := hid hb1
  have hs1 := hb1.size
  clear ho1 hb1 HC
  go_wp2_with fail
  refine HN1.out.mono ?_
  rintro e w2 ⟨u2, rfl, ho2, hb2⟩
  have HO2 := hid (Kind.own_weak ho2 hs1)
  have HB2 := hid (bel_then HB1.out HB1.out.size hb2)
  clear ho2 hb2
  go_wp2_with fail
  go_ret
  exact ⟨_, rfl, HO2.out, HB2.out⟩

/-- Where joined stands: some ranges are joined. -/
def JnSt (w : World) (acc : List Rg) (p : Option Addr) (c : Nat) (L : List Rx) (wr : World) : Prop := RgSt w.heap.size w (.slice p L.length c) L wr ∧ L.map Rx.rg = acc

theorem putR_in {l : List Rg} {r : Rg} (h : (l.any fun x => decide (x = r)) = true) : putR l r = l := if_pos h
theorem putR_out {l : List Rg} {r : Rg} (h : (l.any fun x => decide (x = r)) = false) : putR l r = l ++ [r] := if_neg (by rw [h]; simp)
theorem puts_len (l : List Rg) (a : List Rg) : (l.foldl putR a).length ≤ a.length + l.length := putsR_len l a

set_option maxHeartbeats 8000000 in
set_option maxRecDepth 100000 in
theorem mjoined12_any (B : Nat) (pa pb : Option Addr) (ca cb : Nat) (a b : List Rx) (w : World) (hB : w.heap[B]? = some (.cells #[.slice pa a.length ca, .slice pb b.length cb] 23 (0, 0)))
    (ha : KRx.Is w (.slice pa a.length ca) a) (hb : KRx.Is w (.slice pb b.length cb) b) (hae : ∀ r ∈ a, r.at w) (hbe : ∀ r ∈ b, r.at w) (hl : a.length + b.length < 3000000000000) :
    Calls Try.prog 33 #[.slice (some ⟨B, 0, none⟩) 2 2] w fun e w' => RgPost w ((b.map Rx.rg).foldl putR ((a.map Rx.rg).foldl putR [])) e w' := by
  obtain ⟨i0, hi0, hz0, hz1, hz2⟩ := info_parts infoRx12
  have HI0 := hid hi0
  clear hi0
  have hBl : B < w.heap.size := (Array.getElem?_eq_some_iff.1 hB).1
  obtain ⟨ps, hps⟩ : ∃ ps : Nat → List Rx, ps = fun j => if j = 0 then a else b := ⟨_, rfl⟩
  obtain ⟨pp, hpp⟩ : ∃ pp : Nat → Option Addr, pp = fun j => if j = 0 then pa else pb := ⟨_, rfl⟩
  obtain ⟨cc, hcc⟩ : ∃ cc : Nat → Nat, cc = fun j => if j = 0 then ca else cb := ⟨_, rfl⟩
  have HBX : Hid (∀ W', Below w.heap.size w W' → ∀ j : Nat, j < 2 → W'.cell? ⟨B, j, none⟩ = some (.slice (pp j) (ps j).length (cc j)) ∧ KRx.Is W' (.slice (pp j) (ps j).length (cc j)) (ps j) ∧ ∀ r ∈ ps j, r.at W') := fun W' hW j hj => by
    have e1 := (hW.block B hBl).trans hB
    rcases j with _ | _ | j
    · rw [hps, hpp, hcc]
      exact ⟨by rw [Lib.cell_of_heap e1]; rfl, Kind.is_kept ha hW, fun r hr => (hae r hr).on hW⟩
    · rw [hps, hpp, hcc]
      exact ⟨by rw [Lib.cell_of_heap e1]; rfl, Kind.is_kept hb hW, fun r hr => (hbe r hr).on hW⟩
    · omega
  obtain ⟨acc, hacc⟩ : ∃ acc : Nat → List Rg, acc = fun j => if j = 0 then [] else if j = 1 then (a.map Rx.rg).foldl putR [] else (b.map Rx.rg).foldl putR ((a.map Rx.rg).foldl putR []) := ⟨_, rfl⟩
  have HA0 : Hid (acc 0 = []) := by show _ = _; rw [hacc]; rfl
  have HA2 : Hid (acc 2 = (b.map Rx.rg).foldl putR ((a.map Rx.rg).foldl putR [])) := by show _ = _; rw [hacc]; rfl
  have HAN : Hid (∀ j, j < 2 → acc (j + 1) = ((ps j).map Rx.rg).foldl putR (acc j)) := fun j hj => by
    rcases j with _ | _ | j
    · rw [hacc, hps]; rfl
    · rw [hacc, hps]; rfl
    · omega
  have HAL : Hid (∀ j, j < 2 → (acc j).length + (ps j).length < 3000000000000) := fun j hj => by
    rcases j with _ | _ | j
    · rw [hacc, hps]
      show 0 + a.length < _
      omega
    · rw [hacc, hps]
      have := puts_len (a.map Rx.rg) []
      rw [List.length_map, List.length_nil] at this
      show ((a.map Rx.rg).foldl putR []).length + b.length < _
      omega
    · omega
  clear ha hb hB hae hbe hps hpp hcc hacc hl
  rw [← HA2.out]
  go_enter Try.func33, Try.ntmps33
  go_wp2_with fail
  go_loopg [3, 10] 2 (fun gg v3 vj wr => ∃ (j : Nat) (L : List Rx) (p' : Option Addr) (c' : Nat), v3 = .slice p' L.length c' ∧ vj = .int .i64 j ∧ j ≤ 2 ∧ 2 - j ≤ gg ∧ Hid (JnSt w (acc j) p' c' L wr))
  case atStart => exact ⟨0, [], none, 0, rfl, rfl, by omega, by omega, RgSt.nil (Below.refl _ _) (Nat.le_refl _), HA0.out.symm⟩
  case round =>
    obtain ⟨j, L, p', c', rfl, rfl, hj, hgk, HS⟩ := hrel
    by_cases hlt : j < 2
    · have hltz : (j : Int) < 2 := by omega
      have hjz : (0 : Int) ≤ j := by omega
      have hbw : Below w.heap.size w wr := HS.out.1.row.bel
      obtain ⟨x0, hx1, hx2⟩ := HBX.out wr hbw j hlt
      have HX : Hid (∀ W', Below w.heap.size w W' → KRx.Is W' (.slice (pp j) (ps j).length (cc j)) (ps j) ∧ ∀ r ∈ ps j, r.at W') := fun W' hW => ((HBX.out W' hW j hlt).2)
      have HJN := hid (HAN.out j hlt)
      have hJL := HAL.out j hlt
      obtain ⟨l, hll⟩ : ∃ l, ps j = l := ⟨_, rfl⟩
      obtain ⟨q, hq⟩ : ∃ q, pp j = q := ⟨_, rfl⟩
      obtain ⟨qc, hqc⟩ : ∃ qc, cc j = qc := ⟨_, rfl⟩
      obtain ⟨ac, hac⟩ : ∃ ac, acc j = ac := ⟨_, rfl⟩
      rw [hll, hq, hqc] at HX x0
      rw [hll, hac] at HJN
      rw [hll, hac] at hJL
      rw [hac] at HS
      clear hx1 hx2 hbw hll hq hqc hac
      go_wp2_with fail
      clear x0
      go_loopg [3, 16] l.length (fun gg v3 vi wr => ∃ (i : Nat) (L : List Rx) (p' : Option Addr) (c' : Nat), v3 = .slice p' L.length c' ∧ vi = .int .i64 i ∧ i ≤ l.length ∧ l.length - i ≤ gg ∧ Hid (JnSt w (((l.take i).map Rx.rg).foldl putR ac) p' c' L wr))
      case atStart => exact ⟨0, L, p', c', rfl, rfl, by omega, by omega, HS.out⟩
      case round =>
        clear HS
        obtain ⟨i, L, p', c', rfl, rfl, hi, hgi, HS⟩ := hrel
        by_cases hli : i < l.length
        · have hliz : (i : Int) < (l.length : Int) := by omega
          have hiz : (0 : Int) ≤ i := by omega
          have hbw : Below w.heap.size w wr := HS.out.1.row.bel
          obtain ⟨b1, o1, rfl, k1⟩ : ∃ b off, q = some ⟨b, off, none⟩ ∧ KRx.At wr b off l := by
            obtain ⟨p9, c9, he, h⟩ := (HX.out wr hbw).1
            injection he with e1 _ _
            subst e1
            rcases h with h | h
            · rw [h] at hli; simp at hli
            · exact h
          obtain ⟨y0, y1⟩ := krx_at k1 i hli
          have HLL : Hid (L.length ≤ ac.length + i) := by
            have h1 := congrArg List.length HS.out.2
            have h2 := puts_len ((l.take i).map Rx.rg) ac
            rw [List.length_map] at h1 h2
            rw [List.length_take] at h2
            show _ ≤ _
            omega
          have HTK : Hid (((l.take (i + 1)).map Rx.rg).foldl putR ac = putR (L.map Rx.rg) (l[i]).rg) := by
            show _ = _
            rw [List.take_succ_eq_append_getElem hli, List.map_append, List.foldl_append, ← HS.out.2]
            rfl
          have hx := (HX.out wr hbw).2 _ (List.getElem_mem hli)
          generalize l[i] = x at *
          obtain ⟨V, hV⟩ : ∃ V, wr.alloc (.cells #[.string x.typ, x.sl] 34) = V := ⟨_, rfl⟩
          have hbV : Below wr.heap.size wr V := by rw [← hV]; exact (Below.refl _ _).alloc (Nat.le_refl _) _
          obtain ⟨Q, hQ⟩ : ∃ Q, wr.heap.size = Q := ⟨_, rfl⟩
          have hn1 : V.heap[Q]? = some (.cells #[.string x.typ, x.sl] 34 (0, 0)) := by rw [← hV, ← hQ]; exact heap_alloc_new wr _
          have hQl : Q < V.heap.size := (Array.getElem?_eq_some_iff.1 hn1).1
          have hxV := hx.on hbV
          have HSV := hid (HS.out.1.on hbV)
          have HH := hid (mhas12_any (.slice p' L.length c') L x V HSV.out.row.is (by have := HLL.out; omega) HSV.out.at hxV)
          have HBX1 : Hid (∀ W', Below V.heap.size V W' → (W'.cell? ⟨Q, 0, none⟩ = some (.string x.typ) ∧ W'.cell? ⟨Q, 1, none⟩ = some x.sl) ∧ Calls Try.prog 41 #[.agg (encRx x).toArray] W' fun e w' => OwnPost W' x e w') := fun W' hW => by
            have e1 := (hW.block Q hQl).trans hn1
            exact ⟨⟨by rw [Lib.cell_of_heap e1]; rfl, by rw [Lib.cell_of_heap e1]; rfl⟩, mown12_any x W' (hxV.on hW)⟩
          obtain ⟨⟨d0, d1⟩, _⟩ := HBX1.out V (Below.refl _ _)
          have HF := hid hx.2
          have HML := hid HS.out.2
          obtain ⟨R, hR⟩ : ∃ R, ((L.map Rx.rg).any fun y => decide (y = x.rg)) = R := ⟨_, rfl⟩
          rw [hR] at HH
          have HR := hid hR
          obtain ⟨xt, xp, xc, xm⟩ := x
          simp only [Rx.sl, encRx] at *
          clear k1 hbw hbV hx hxV HS hn1 hR
          go_upto_region 8 with fail
          try rw [hQ]
          try rw [hV]
          clear hV y0 y1
          cases R with
          | true =>
            have HP := hid (putR_in HR.out)
            go_wp2_with fail
            refine HH.out.mono ?_
            rintro e w1 ⟨rfl, hb1⟩
            have HS1 := hid (HSV.out.on hb1)
            clear hb1 HH HSV d0 d1
            go_wp2_with fail
            go_roundg (l.length - (i + 1))
            case measure => omega
            exact ⟨i + 1, L, p', c', rfl, by go_num, by omega, by omega, HS1.out, by rw [HTK.out]; exact HP.out.symm⟩
          | false =>
            have HP := hid (putR_out HR.out)
            go_wp2_with fail
            refine HH.out.mono ?_
            rintro e w1 ⟨rfl, hb1⟩
            obtain ⟨⟨d0, d1⟩, hown⟩ := HBX1.out w1 hb1
            have HO := hid hown
            have HS1 := hid (HSV.out.on hb1)
            clear hb1 HH HSV hown HBX1
            go_wp2_with fail
            clear d0 d1
            refine HO.out.mono ?_
            rintro e w2 ⟨p1, c1, rfl, ho2, hb2⟩
            have hs2 := HS1.out.on hb2
            have hfr := HS1.out.fresh (x := ⟨xt, p1, c1, xm⟩) ho2
            have hN1 := HS1.out.row.base
            simp only at ho2 hb2
            obtain ⟨W1, hW1⟩ : ∃ W1, w2.alloc (.cells #[.string xt, .slice p1 xm.length c1] 34) = W1 := ⟨_, rfl⟩
            have hb3 : Below w2.heap.size w2 W1 := by rw [← hW1]; exact (Below.refl _ _).alloc (Nat.le_refl _) _
            have HN1 : Hid (W1.heap[w2.heap.size]? = some (.cells #[.string xt, .slice p1 xm.length c1] 34 (0, 0))) := by rw [← hW1]; exact heap_alloc_new w2 _
            have HS2 := hid (hs2.on hb3)
            have HX1 : Hid (KM.Own w.heap.size W1 (.slice p1 xm.length c1) xm) := Kind.own_weak (Kind.own_on ho2 hb3) hN1
            have HFR := hid hfr
            clear hs2 hfr hN1 ho2 hb2 hb3 HO HS1
            go_wp2_with (at_builtin; refine wpList_push KRx rfl _ _ 23 rfl i0 _ 40 Try.underlying23 HI0.out hz0 hz1 hz2 rfl w.heap.size w _ L rfl HS2.out.row ⟨xt, p1, c1, xm⟩ _ _ _ rfl rfl _ _ HN1.out (by unfold maxLen; have := HLL.out; omega) (by have := HLL.out; omega) ?_
                         intro g3 c3 w3 hst3 hg3 _
                         have HS3 := hid (HS2.out.push (x := ⟨xt, p1, c1, xm⟩) HX1.out HF.out HFR.out hst3 hg3)
                         clear hst3 hg3)
            go_roundg (l.length - (i + 1))
            case measure => omega
            exact ⟨i + 1, L ++ [⟨xt, p1, c1, xm⟩], some ⟨g3, 0, none⟩, c3, by rw [List.length_append]; rfl, by go_num, by omega, by omega, by rw [List.length_append]; exact HS3.out, by rw [HTK.out, List.map_append]; exact HP.out.symm⟩
        · have hliz : ¬ (i : Int) < (l.length : Int) := by omega
          have hti : l.take i = l := List.take_of_length_le (by omega)
          rw [hti] at HS
          go_wp2_with fail
          go_roundg (2 - (j + 1))
          case measure => omega
          exact ⟨j + 1, L, p', c', rfl, by go_num, by omega, by omega, HS.out.1, by rw [HJN.out]; exact HS.out.2⟩
    · have hltz : ¬ (j : Int) < 2 := by omega
      obtain rfl : j = 2 := by omega
      go_wp2_with fail
      go_ret
      exact ⟨p', c', L, rfl, HS.out.1, HS.out.2⟩

end Go.Proofs.Ythdakljoabbghaa

/-
  Package marks (stage 12): Key.
-/
namespace Go.Proofs.Ythdakljoabbghaa
open Go.RowKit

theorem kk_one {w : World} {B : Nat} {a b : ByteArray} {t : TypeId} (h : w.heap[B]? = some (.cells #[.string a, .string b] t (0, 0))) : KK.Is w (.slice (some ⟨B, 0, none⟩) 1 1) [(a, b)] := by
  refine ⟨_, _, rfl, Or.inr ⟨_, _, rfl, fun i hi j u hu => ?_⟩⟩
  have hi' : i = 0 := by simpa using hi
  subst hi'
  have hj : j < 2 := (List.getElem?_eq_some_iff.1 hu).1
  rw [Lib.cell_of_heap h]
  rcases j with _ | _ | j
  all_goals first | exact hu | omega

set_option maxHeartbeats 8000000 in
set_option maxRecDepth 100000 in
theorem mkey12_any (m : Mx) (k : Ky) (w : World) (hm : MIn w m) (hw : LotM m) :
    Calls Try.prog 10 #[.agg (encMx m).toArray, .agg #[.string k.1, .string k.2]] w fun e w' => MOwnPost w (keyM m.mk' k) e w' := by
  obtain ⟨V, hV⟩ : ∃ V, ((w.alloc (.cells (encMx m).toArray 25)).alloc (.cells #[.string k.1, .string k.2] 27)).alloc (.cells #[.slice none 0 0, .slice none 0 0] 25) = V := ⟨_, rfl⟩
  obtain ⟨M, hM⟩ : ∃ M, w.heap.size = M := ⟨_, rfl⟩
  obtain ⟨hbV, h1, h2, h3, hs⟩ := three_boxes w _ _ _ _ _ _ V hV
  rw [hM] at h1 h2 h3 hs
  have HBX : Hid (∀ W' : World, (∀ b, b < M + 2 → W'.heap[b]? = V.heap[b]?) → (W'.cell? ⟨M, 0, none⟩ = some m.ksl ∧ W'.cell? ⟨M, 1, none⟩ = some m.rsl) ∧ W'.cell? ⟨M + 1, 0, none⟩ = some (.string k.1) ∧ W'.cell? ⟨M + 1, 1, none⟩ = some (.string k.2)) := fun W' hW => by
    have e1 := (hW M (by omega)).trans h1
    have e2 := (hW (M + 1) (by omega)).trans h2
    exact ⟨⟨by rw [Lib.cell_of_heap e1]; rfl, by rw [Lib.cell_of_heap e1]; rfl⟩, by rw [Lib.cell_of_heap e2]; rfl, by rw [Lib.cell_of_heap e2]; rfl⟩
  have HRS : Hid (∀ W' : World, Below V.heap.size V W' → (W'.cell? ⟨M + 2, 0, none⟩ = some (.slice none 0 0) ∧ W'.cell? ⟨M + 2, 1, none⟩ = some (.slice none 0 0)) ∧ W'.frozen? ⟨M + 2, 0, none⟩ = false ∧ W'.frozen? ⟨M + 2, 1, none⟩ = false) := fun W' hW => by
    have e3 := (hW.block (M + 2) (by omega)).trans h3
    exact ⟨⟨by rw [Lib.cell_of_heap e3]; rfl, by rw [Lib.cell_of_heap e3]; rfl⟩, Lib.frozen_of_heap e3 0, Lib.frozen_of_heap e3 1⟩
  have HIN : Hid (∀ W', Below V.heap.size V W' → MIn W' m) := fun W' hW => hm.on (bel_then hbV hbV.size hW)
  have HB0 : Hid (∀ W', Below V.heap.size V W' → Below w.heap.size w W') := fun W' hW => bel_then hbV hbV.size hW
  have hw1 := hw.1
  have hw2 := hw.2
  have HKM : Hid (keyM m.mk' k = (sortK (m.ks ++ [k]), m.rs.map Rx.rg)) := by show _ = _; rw [sortK_snoc]; rfl
  -- the two slices that are made
  obtain ⟨W1, hW1⟩ : ∃ W1, V.drew.alloc (.cells #[.string k.1, .string k.2] 27) = W1 := ⟨_, rfl⟩
  have hbW1 : Below V.drew.heap.size V.drew W1 := by rw [← hW1]; exact (Below.refl _ _).alloc (Nat.le_refl _) _
  have hn1 : W1.heap[M + 3]? = some (.cells #[.string k.1, .string k.2] 27 (0, 0)) := by rw [← hW1, ← hs]; exact heap_alloc_new V.drew _
  have hs1 : W1.heap.size = M + 4 := by rw [← hW1]; simp; omega
  obtain ⟨W2, hW2⟩ : ∃ W2, W1.alloc (.cells #[m.ksl, .slice (some ⟨M + 3, 0, none⟩) 1 1] 22) = W2 := ⟨_, rfl⟩
  have hbW2 : Below W1.heap.size W1 W2 := by rw [← hW2]; exact (Below.refl _ _).alloc (Nat.le_refl _) _
  have hn2 : W2.heap[M + 4]? = some (.cells #[m.ksl, .slice (some ⟨M + 3, 0, none⟩) 1 1] 22 (0, 0)) := by rw [← hW2, ← hs1]; exact heap_alloc_new W1 _
  have hb1V : Below V.heap.size V W1 := (bel_drewN (Below.refl _ _) 1).trans hbW1
  have hb2V : Below V.heap.size V W2 := bel_then hb1V hb1V.size hbW2
  have HRI := hid (mrising12_any (M + 4) m.kp (some ⟨M + 3, 0, none⟩) m.kc 1 m.ks [k] W2 hn2 (HIN.out W2 hb2V).keys (kk_one ((hbW2.block (M + 3) (by omega)).trans hn1)) (by simp; omega))
  have HW2 : Hid (Below V.heap.size V W2) := hb2V
  obtain ⟨⟨a0, a1⟩, b0, b1⟩ := HBX.out V (fun _ _ => rfl)
  obtain ⟨⟨a01, a11⟩, b01, b11⟩ := HBX.out W1 (fun b hb => hb1V.block b (by omega))
  obtain ⟨⟨a02, a12⟩, b02, b12⟩ := HBX.out W2 (fun b hb => hb2V.block b (by omega))
  have hVs : V.drew.heap.size = M + 3 := hs
  clear hm hw hbV h1 h2 h3 hbW1 hbW2 hn1 hn2 hb1V hb2V
  obtain ⟨kp, kc, ks, rp, rc, rs⟩ := m
  obtain ⟨ka, kb⟩ := k
  simp only [encMx, Mx.ksl, Mx.rsl] at *
  generalize keyM _ _ = KM' at *
  obtain ⟨L1, hL1⟩ : ∃ L1, sortK (ks ++ [(ka, kb)]) = L1 := ⟨_, rfl⟩
  rw [hL1] at HKM HRI
  clear hL1
  go_enter Try.func10, Try.ntmps10
  go_wp2_with fail
  try rw [hV]
  try rw [hM]
  clear hV
  refine wp_region_held_drew (S := fun w' => w'.cell? ⟨M, 0, none⟩ = some (.slice kp ks.length kc) ∧ w'.cell? ⟨M, 1, none⟩ = some (.slice rp rs.length rc) ∧ w'.cell? ⟨M + 1, 0, none⟩ = some (.string ka) ∧ w'.cell? ⟨M + 1, 1, none⟩ = some (.string kb)) (by kernel_rfl) ⟨a0, a1, b0, b1⟩ (fun hHeld => ?_)
  refine take_val (i := 0) (.pointer (some ⟨M, 0, none⟩)) rfl (by kernel_rfl) (by kernel_rfl) (by kernel_rfl) (fun _ _ _ h => h) (by rfl) (fun w hSw => by go_simp) hHeld ?_
  simp only [Act.put, List.setIfInBounds_toArray, List.set_cons_zero, List.set_cons_succ]
  refine take_val (i := 1) (.slice kp ks.length kc) rfl (by kernel_rfl) (by kernel_rfl) (by kernel_rfl) (fun _ _ _ h => h) (by rfl) (fun w hSw => by go_simp) hHeld ?_
  simp only [Act.put, List.setIfInBounds_toArray, List.set_cons_zero, List.set_cons_succ]
  refine take_val (i := 2) (.agg #[.string ka, .string kb]) rfl (by kernel_rfl) (by kernel_rfl) (by kernel_rfl) (fun _ _ _ h => h) (by rfl) (fun w hSw => by go_simp) hHeld ?_
  simp only [Act.put, List.setIfInBounds_toArray, List.set_cons_zero, List.set_cons_succ]
  refine take_val (i := 6) (.pointer (some ⟨M, 1, none⟩)) rfl (by kernel_rfl) (by kernel_rfl) (by kernel_rfl) (fun _ _ _ h => h) (by rfl) (fun w hSw => by go_simp) hHeld ?_
  simp only [Act.put, List.setIfInBounds_toArray, List.set_cons_zero, List.set_cons_succ]
  refine take_val (i := 7) (.slice rp rs.length rc) rfl (by kernel_rfl) (by kernel_rfl) (by kernel_rfl) (fun _ _ _ h => h) (by rfl) (fun w hSw => by go_simp) hHeld ?_
  simp only [Act.put, List.setIfInBounds_toArray, List.set_cons_zero, List.set_cons_succ]
  clear hHeld a0 a1 b0 b1
  refine wpAnyH_ready (rs := [3]) (by kernel_rfl) (by simp) ?_
  refine AllReadyH.cons (at_drop0 rfl) (fun K hK => ?_) AllReadyH.nil
  rw [if_pos (by rfl)]
  go_simp
  go_wp2_with fail
  try rw [hVs]
  try rw [hs]
  try rw [hW1]
  refine hK.out _ _ (⟨a01, a11, b01, b11⟩) (fun hHeld => ?_)
  clear hK K
  try simp only [Act.put, List.setIfInBounds_toArray, List.set_cons_zero, List.set_cons_succ]
  clear hHeld a01 a11 b01 b11
  refine wpAnyH_ready (rs := [4]) (by kernel_rfl) (by simp) ?_
  refine AllReadyH.cons (at_drop0 rfl) (fun K hK => ?_) AllReadyH.nil
  rw [if_pos (by rfl)]
  go_simp
  go_wp2_with fail
  try rw [hs1]
  try rw [hW2]
  refine hK.out _ _ (⟨a02, a12, b02, b12⟩) (fun hHeld => ?_)
  clear hK K
  try simp only [Act.put, List.setIfInBounds_toArray, List.set_cons_zero, List.set_cons_succ]
  clear hHeld a02 a12 b02 b12 hW1 hW2
  refine wpAnyH_ready (rs := [5]) (by kernel_rfl) (by simp) ?_
  refine AllReadyH.cons (at_drop0 rfl) (fun K hK => ?_) AllReadyH.nil
  rw [if_pos (by rfl)]
  go_simp
  refine HRI.out.mono ?_
  rintro e w2 ⟨u2, rfl, ho2, hb2⟩
  obtain ⟨p2, c2, rfl⟩ := Kind.own_shape ho2
  have hb2' : Below V.heap.size V w2 := bel_then HW2.out HW2.out.size hb2
  obtain ⟨⟨a0, a1⟩, b0, b1⟩ := HBX.out w2 (fun b hb => hb2'.block b (by omega))
  have HR := hid (mcopied12_any (.slice rp rs.length rc) rs w2 (HIN.out w2 hb2').rows (HIN.out w2 hb2').each (by omega))
  have HO2 := hid (Kind.own_weak ho2 HW2.out.size)
  have HB2 := hid hb2'
  clear ho2 hb2 hb2' HRI
  go_wp2_with fail
  refine hK.out _ _ (⟨a0, a1, b0, b1⟩) (fun hHeld => ?_)
  clear hK K
  try simp only [Act.put, List.setIfInBounds_toArray, List.set_cons_zero, List.set_cons_succ]
  clear hHeld a0 a1 b0 b1
  refine wpAnyH_ready (rs := [8]) (by kernel_rfl) (by simp) ?_
  refine AllReadyH.cons (at_drop0 rfl) (fun K hK => ?_) AllReadyH.nil
  rw [if_pos (by rfl)]
  go_simp
  refine HR.out.mono ?_
  rintro e w3 ⟨p3, c3, L3, rfl, hst3, hm3⟩
  have hb3' : Below V.heap.size V w3 := bel_then HB2.out HB2.out.size hst3.row.bel
  obtain ⟨⟨a0, a1⟩, b0, b1⟩ := HBX.out w3 (fun b hb => hb3'.block b (by omega))
  obtain ⟨⟨q0, q1⟩, r0, r1⟩ := HRS.out w3 hb3'
  have HO3 := hid (Kind.own_on HO2.out hst3.row.bel)
  have HS3 : Hid (KRx.Own V.heap.size w3 (.slice p3 L3.length c3) L3 ∧ (∀ r ∈ L3, KM.Own V.heap.size w3 r.sl r.tm ∧ FitP r.tm) ∧ ApartR L3) := ⟨Kind.own_weak hst3.row.own HB2.out.size, fun r hr => ⟨Kind.own_weak (hst3.each r hr).1 HB2.out.size, (hst3.each r hr).2⟩, hst3.apart⟩
  have HM3 := hid hm3
  have HB3 := hid hb3'
  obtain ⟨W4, hW4⟩ : ∃ W4, (w3.setCell ⟨M + 2, 0, none⟩ (.slice p2 L1.length c2)).setCell ⟨M + 2, 1, none⟩ (.slice p3 L3.length c3) = W4 := ⟨_, rfl⟩
  obtain ⟨⟨e0, e1⟩, e2, e3⟩ := HBX.out W4 (fun b hb => by
    rw [← hW4, heap_setCell_other _ _ b _ (by show b ≠ M + 2; omega), heap_setCell_other _ _ b _ (by show b ≠ M + 2; omega)]
    exact hb3'.block b (by omega))
  have g0 : W4.cell? ⟨M + 2, 0, none⟩ = some (.slice p2 L1.length c2) := by rw [← hW4]; simp [go_sem, q0]
  have g1 : W4.cell? ⟨M + 2, 1, none⟩ = some (.slice p3 L3.length c3) := by rw [← hW4]; simp [go_sem, q1]
  have HG := hid (And.intro g0 g1)
  have HB4 : Hid (Below w.heap.size w W4) := by
    rw [← hW4]
    have h3 := HB0.out w3 hb3'
    rw [hM] at h3 ⊢
    exact (h3.setCell (show M ≤ M + 2 by omega) _).setCell (show M ≤ M + 2 by omega) _
  have HK4 : Hid (KK.Own V.heap.size W4 (.slice p2 L1.length c2) L1 ∧ KRx.Own V.heap.size W4 (.slice p3 L3.length c3) L3 ∧ ∀ r ∈ L3, KM.Own V.heap.size W4 r.sl r.tm ∧ FitP r.tm) := by
    rw [← hW4]
    exact ⟨own_cell (own_cell HO3.out (by omega) _ _) (by omega) _ _, own_cell (own_cell HS3.out.1 (by omega) _ _) (by omega) _ _, fun r hr => ⟨own_cell (own_cell (HS3.out.2.1 r hr).1 (by omega) _ _) (by omega) _ _, (HS3.out.2.1 r hr).2⟩⟩
  clear hst3 hb3' HR HO2 g0 g1 hm3
  go_wp2_with fail
  refine hK.out _ _ (⟨a0, a1, b0, b1⟩) (fun hHeld => ?_)
  clear hK K
  try simp only [Act.put, List.setIfInBounds_toArray, List.set_cons_zero, List.set_cons_succ]
  refine take_val (i := 9) (.agg #[.slice p2 L1.length c2, .slice p3 L3.length c3]) rfl (by kernel_rfl) (by kernel_rfl) (by kernel_rfl) (fun _ _ _ h => h) (by rfl) (fun w hSw => by go_simp) hHeld ?_
  simp only [Act.put, List.setIfInBounds_toArray, List.set_cons_zero, List.set_cons_succ]
  clear hHeld a0 a1 b0 b1
  refine wpAnyH_ready (rs := [10]) (by kernel_rfl) (by simp) ?_
  refine AllReadyH.cons (at_drop0 rfl) (fun K hK => ?_) AllReadyH.nil
  rw [if_pos (by rfl)]
  go_simp
  go_wp2_with fail
  try rw [hW4]
  refine hK.out _ _ (⟨e0, e1, e2, e3⟩) (fun hHeld => ?_)
  clear hK K
  try simp only [Act.put, List.setIfInBounds_toArray, List.set_cons_zero, List.set_cons_succ]
  refine wpAnyH_done (by kernel_rfl) ?_ _
  clear hHeld e0 e1 e2 e3 q0 q1 r0 r1
  obtain ⟨g0, g1⟩ := HG.out
  have hwV : w.heap.size ≤ V.heap.size := by omega
  go_wp2_with fail
  refine bodyPost_ret (v := .agg #[.slice p2 L1.length c2, .slice p3 L3.length c3]) (by simp [results, Try.results10, go_sem, g0, g1]) rfl ⟨⟨p2, c2, L1, p3, c3, L3⟩, rfl, ⟨Kind.own_weak HK4.out.1 hwV, Kind.own_weak HK4.out.2.1 hwV, fun r hr => ⟨Kind.own_weak (HK4.out.2.2 r hr).1 hwV, (HK4.out.2.2 r hr).2⟩, HS3.out.2.2⟩, ?_, HB4.out⟩
  rw [HKM.out]
  show (L1, L3.map Rx.rg) = _
  rw [HM3.out]

end Go.Proofs.Ythdakljoabbghaa

/-
  A drawn region in which variables are made while calls go on: the calls and stores come in one order, the allocs float. One proof for each call, alloc and store, whatever came before. No program.
-/
namespace Go.Proofs.Ythdakljoabbghaa

def allB : Nat → List (List Bool)
  | 0 => [[]]
  | n + 1 => (allB n).map (List.cons false) ++ (allB n).map (List.cons true)
theorem mem_allB : ∀ l : List Bool, l ∈ allB l.length
  | [] => by simp [allB]
  | false :: r => List.mem_append.2 (Or.inl (List.mem_map.2 ⟨r, mem_allB r, rfl⟩))
  | true :: r => List.mem_append.2 (Or.inr (List.mem_map.2 ⟨r, mem_allB r, rfl⟩))

/-- What has come up: of the chain the first k, of the floating ones those that fl names. -/
def lstF (base : Array Bool) (L As : List Nat) (k : Nat) (fl : List Bool) : Array Bool :=
  ((L.take k) ++ ((As.zip fl).filter (·.2)).map (·.1)).foldl (fun l i => l.setIfInBounds i true) base

/-- All that may come up is the chain's next one, or a floating one; nothing may only where all have. -/
def chkF (md : Region.Mode) (ops : Array Oper) (base : Array Bool) (L As : List Nat) (k : Nat) (fl : List Bool) : Bool :=
  ((Region.ready md ops (lstF base L As k fl)).all fun i =>
    (decide (L[k]? = some i) && decide ((lstF base L As k fl).setIfInBounds i true = lstF base L As (k + 1) fl)) ||
    (List.range As.length).any fun j => decide (As[j]? = some i) && decide (fl[j]? = some false) && decide ((lstF base L As k fl).setIfInBounds i true = lstF base L As k (fl.set j true))) &&
  (!(Region.ready md ops (lstF base L As k fl)).isEmpty || (decide (k = L.length) && fl.all id))

theorem all_true : ∀ fl : List Bool, fl.all id = true → fl = List.replicate fl.length true
  | [], _ => rfl
  | b :: r, h => by
    simp only [List.all_cons, Bool.and_eq_true, id] at h
    rw [List.length_cons, List.replicate_succ, h.1, ← all_true r h.2]
theorem count_set : ∀ (fl : List Bool) (j : Nat), fl[j]? = some false → (fl.set j true).count false + 1 = fl.count false
  | [], j, h => by simp at h
  | b :: r, 0, h => by
    simp at h
    subst h
    simp
  | b :: r, j + 1, h => by
    have := count_set r j (by simpa using h)
    simp only [List.set_cons_succ, List.count_cons]
    omega

section
variable {P : Program} {ops : Array Oper} {Q : Exit → Act → World → Prop} {md : Region.Mode} {S : World → Prop}

/-- The step of one operation, handed over behind a '∀ K'. -/
def StepF (P : Program) (ops : Array Oper) (Q : Exit → Act → World → Prop) (i : Nat) (R : Act → World → Prop) (a : Act) (w : World) : Prop :=
  ∃ o : Oper, ops[i]? = some o ∧ ∀ K' : Act → World → Prop, Shut (∀ a w, R a w → K' a w) → if Region.wanted o (yielded ops a.tmps) = true then Oper.wp P o a w K' Q else K' (a.put o.dst undef) w

theorem wpAnyH_float {base : Array Bool} (L As : List Nat) (R : Act → Nat → List Bool → Act → World → Prop) {a0 : Act}
    (hchk : ((List.range (L.length + 1)).all fun k => (allB As.length).all fun fl => chkF md ops base L As k fl) = true)
    (hS : ∀ k fl a w, R a0 k fl a w → S w)
    (hmain : ∀ k i fl a w, L[k]? = some i → fl.length = As.length → i ∈ Region.ready md ops (lstF base L As k fl) → R a0 k fl a w → StepF P ops Q i (R a0 (k + 1) fl) a w)
    (halloc : ∀ j i k fl a w, As[j]? = some i → k ≤ L.length → fl.length = As.length → fl[j]? = some false → R a0 k fl a w → StepF P ops Q i (R a0 k (fl.set j true)) a w)
    (hend : ∀ a w, R a0 L.length (List.replicate As.length true) a w → Q .normal a w) :
    ∀ fuel k fl a w, L.length - k + fl.count false ≤ fuel → k ≤ L.length → fl.length = As.length → R a0 k fl a w → wpAnyH P md ops Q S fuel (lstF base L As k fl) a w := by
  have hc : ∀ k fl, k ≤ L.length → fl.length = As.length → chkF md ops base L As k fl = true := fun k fl hk hf => by
    have h1 := List.all_eq_true.1 hchk k (List.mem_range.2 (by omega))
    exact List.all_eq_true.1 h1 fl (hf ▸ mem_allB fl)
  have hnil : ∀ k fl a w, k ≤ L.length → fl.length = As.length → R a0 k fl a w → Region.ready md ops (lstF base L As k fl) = [] → Q .normal a w := fun k fl a w hk hf hR hr => by
    have h := hc k fl hk hf
    unfold chkF at h
    rw [hr] at h
    simp only [List.all_nil, List.isEmpty_nil, Bool.not_true, Bool.false_or, Bool.true_and, Bool.and_eq_true, decide_eq_true_eq] at h
    obtain ⟨rfl, h2⟩ := h
    have e := all_true fl h2
    rw [hf] at e
    exact hend a w (e ▸ hR)
  have hsome : ∀ k fl, k ≤ L.length → fl.length = As.length → ∀ i ∈ Region.ready md ops (lstF base L As k fl),
      (L[k]? = some i ∧ (lstF base L As k fl).setIfInBounds i true = lstF base L As (k + 1) fl) ∨ ∃ j, As[j]? = some i ∧ fl[j]? = some false ∧ (lstF base L As k fl).setIfInBounds i true = lstF base L As k (fl.set j true) := fun k fl hk hf i hi => by
    have h := hc k fl hk hf
    unfold chkF at h
    rw [Bool.and_eq_true] at h
    have h1 := List.all_eq_true.1 h.1 i hi
    rw [Bool.or_eq_true] at h1
    rcases h1 with h1 | h1
    · rw [Bool.and_eq_true] at h1
      exact Or.inl ⟨of_decide_eq_true h1.1, of_decide_eq_true h1.2⟩
    · obtain ⟨j, _, h2⟩ := List.any_eq_true.1 h1
      rw [Bool.and_eq_true, Bool.and_eq_true] at h2
      exact Or.inr ⟨j, of_decide_eq_true h2.1.1, of_decide_eq_true h2.1.2, of_decide_eq_true h2.2⟩
  intro fuel
  induction fuel with
  | zero =>
    intro k fl a w hm hk hf hR
    have hr : Region.ready md ops (lstF base L As k fl) = [] := by
      refine List.eq_nil_iff_forall_not_mem.2 fun i hi => ?_
      rcases hsome k fl hk hf i hi with ⟨h1, _⟩ | ⟨j, _, h2, _⟩
      · have := (List.getElem?_eq_some_iff.1 h1).1
        omega
      · have : 0 < fl.count false := List.count_pos_iff.2 (List.mem_of_getElem? h2)
        omega
    exact ⟨hr, hnil k fl a w hk hf hR hr⟩
  | succ fuel ih =>
    intro k fl a w hm hk hf hR
    refine ⟨hnil k fl a w hk hf hR, fun i hi => ?_⟩
    rcases hsome k fl hk hf i hi with ⟨h1, h2⟩ | ⟨j, h1, h2, h3⟩
    · obtain ⟨o, ho, hstep⟩ := hmain k i fl a w h1 hf hi hR
      have hlt := (List.getElem?_eq_some_iff.1 h1).1
      refine wpOp_step ho fun K' hK => hstep K' fun a' w' hR' => hK a' w' ⟨hS _ _ _ _ hR', ?_⟩
      rw [h2]
      exact ih (k + 1) fl a' w' (by omega) (by omega) hf hR'
    · obtain ⟨o, ho, hstep⟩ := halloc j i k fl a w h1 hk hf h2 hR
      have hcs := count_set fl j h2
      refine wpOp_step ho fun K' hK => hstep K' fun a' w' hR' => hK a' w' ⟨hS _ _ _ _ hR', ?_⟩
      rw [h3]
      exact ih k (fl.set j true) a' w' (by omega) hk (by rw [List.length_set]; exact hf) hR'
theorem lstF_start (base : Array Bool) (L As : List Nat) (n : Nat) : lstF base L As 0 (List.replicate n false) = base := by
  have h : ((As.zip (List.replicate n false)).filter (·.2)) = [] := List.filter_eq_nil_iff.2 fun x hx => by
    have := (List.of_mem_zip (show (x.1, x.2) ∈ _ from hx)).2
    rw [(List.mem_replicate.1 this).2]
    simp
  unfold lstF
  rw [h]
  rfl

theorem wpAnyH_floats (L As : List Nat) (R : Act → Nat → List Bool → Act → World → Prop) {fuel : Nat} {listed : Array Bool} {a0 : Act} {w : World}
    (hchk : ((List.range (L.length + 1)).all fun k => (allB As.length).all fun fl => chkF md ops listed L As k fl) = true) (hfuel : L.length + As.length ≤ fuel)
    (h0 : R a0 0 (List.replicate As.length false) a0 w)
    (hS : ∀ k fl a w, R a0 k fl a w → S w)
    (hmain : ∀ k i fl a w, L[k]? = some i → fl.length = As.length → i ∈ Region.ready md ops (lstF listed L As k fl) → R a0 k fl a w → StepF P ops Q i (R a0 (k + 1) fl) a w)
    (halloc : ∀ j i k fl a w, As[j]? = some i → k ≤ L.length → fl.length = As.length → fl[j]? = some false → R a0 k fl a w → StepF P ops Q i (R a0 k (fl.set j true)) a w)
    (hend : ∀ a w, R a0 L.length (List.replicate As.length true) a w → Q .normal a w) : wpAnyH P md ops Q S fuel listed a0 w := by
  have := wpAnyH_float L As R hchk hS hmain halloc hend fuel 0 (List.replicate As.length false) a0 w (by rw [List.count_replicate]; simp; omega) (Nat.zero_le _) (by simp) h0
  rwa [lstF_start] at this
end

/-- Slots put, one behind the other. -/
def putS (a : Act) (l : List (Nat × Value)) : Act := l.foldl (fun a p => a.put (some p.1) p.2) a
theorem put_self (a : Act) (i : Nat) : a.put (some i) (a.tmps.getD i undef) = a := by
  obtain ⟨t, d⟩ := a
  simp only [Act.put, Act.mk.injEq, and_true]
  refine Array.ext (by simp) fun j h1 h2 => ?_
  rw [Array.getElem_setIfInBounds (by simpa using h1)]
  split
  · rename_i e
    subst e
    simp [Array.getD, h2]
  · rfl
theorem putS_self (a : Act) : ∀ l : List Nat, putS a (l.map fun i => (i, a.tmps.getD i undef)) = a
  | [] => rfl
  | i :: r => by
    have := putS_self a r
    unfold putS at *
    rw [List.map_cons, List.foldl_cons, put_self]
    exact this
theorem not_ready {md : Region.Mode} {ops : Array Oper} {l : Array Bool} {i : Nat} (h : i ∈ Region.ready md ops l) (hn : (Region.ready md ops l).contains i = false) : False := by
  rw [List.contains_eq_mem, decide_eq_false_iff_not] at hn
  exact hn h

end Go.Proofs.Ythdakljoabbghaa

/-
  Package marks (stage 12): Union.
-/
namespace Go.Proofs.Ythdakljoabbghaa
open Go.RowKit

/-- Ranges of one's own, from block N on. -/
def RgOwn (N : Nat) (w : World) (v : Value) (rg : List Rg) : Prop :=
  ∃ p c L, v = .slice p L.length c ∧ KRx.Own N w (.slice p L.length c) L ∧ (∀ r ∈ L, KM.Own N w r.sl r.tm ∧ FitP r.tm) ∧ ApartR L ∧ L.map Rx.rg = rg
/-- Keys of one's own. -/
def KyOwn (N : Nat) (w : World) (v : Value) (ks : List Ky) : Prop := ∃ p c, v = .slice p ks.length c ∧ KK.Own N w (.slice p ks.length c) ks
section
variable {N : Nat} {w w' : World} {v : Value} {rg : List Rg} {ks : List Ky}
theorem RgOwn.on (h : RgOwn N w v rg) (hb : Below w.heap.size w w') : RgOwn N w' v rg := by
  obtain ⟨p, c, L, h1, h2, h3, h4, h5⟩ := h
  exact ⟨p, c, L, h1, Kind.own_on h2 hb, fun r hr => ⟨Kind.own_on (h3 r hr).1 hb, (h3 r hr).2⟩, h4, h5⟩
theorem RgOwn.weak {M : Nat} (h : RgOwn N w v rg) (hM : M ≤ N) : RgOwn M w v rg := by
  obtain ⟨p, c, L, h1, h2, h3, h4, h5⟩ := h
  exact ⟨p, c, L, h1, Kind.own_weak h2 hM, fun r hr => ⟨Kind.own_weak (h3 r hr).1 hM, (h3 r hr).2⟩, h4, h5⟩
theorem RgOwn.cell (h : RgOwn N w v rg) {b : Nat} (hb : b < N) (j : Nat) (x : Value) : RgOwn N (w.setCell ⟨b, j, none⟩ x) v rg := by
  obtain ⟨p, c, L, h1, h2, h3, h4, h5⟩ := h
  exact ⟨p, c, L, h1, own_cell h2 hb _ _, fun r hr => ⟨own_cell (h3 r hr).1 hb _ _, (h3 r hr).2⟩, h4, h5⟩
theorem KyOwn.on (h : KyOwn N w v ks) (hb : Below w.heap.size w w') : KyOwn N w' v ks := by
  obtain ⟨p, c, h1, h2⟩ := h
  exact ⟨p, c, h1, Kind.own_on h2 hb⟩
theorem KyOwn.weak {M : Nat} (h : KyOwn N w v ks) (hM : M ≤ N) : KyOwn M w v ks := by
  obtain ⟨p, c, h1, h2⟩ := h
  exact ⟨p, c, h1, Kind.own_weak h2 hM⟩
theorem KyOwn.cell (h : KyOwn N w v ks) {b : Nat} (hb : b < N) (j : Nat) (x : Value) : KyOwn N (w.setCell ⟨b, j, none⟩ x) v ks := by
  obtain ⟨p, c, h1, h2⟩ := h
  exact ⟨p, c, h1, own_cell h2 hb _ _⟩
theorem rgown_post {W : World} {e : Ending} (h : RgPost W rg e w') : ∃ u, e = .returned u ∧ RgOwn W.heap.size w' u rg ∧ Below W.heap.size W w' := by
  obtain ⟨p, c, L, rfl, h1, h2⟩ := h
  exact ⟨_, rfl, ⟨p, c, L, rfl, h1.row.own, h1.each, h1.apart, h2⟩, h1.row.bel⟩
theorem kyown_post {W : World} {e : Ending} (h : KeyRPost W ks e w') : ∃ u, e = .returned u ∧ KyOwn W.heap.size w' u ks ∧ Below W.heap.size W w' := by
  obtain ⟨u, rfl, h1, h2⟩ := h
  obtain ⟨p, c, rfl⟩ := Kind.own_shape h1
  exact ⟨_, rfl, ⟨p, c, rfl, h1⟩, h2⟩
end

/-- Union under way: k of the chain are done; f: the ranges' lists are laid. -/
structure JuSt (V : World) (M2 : Nat) (c9 c15 : Array Value) (ks : List Ky) (rg : List Rg) (k : Nat) (f : Bool) (t9 t10 t15 t16 t17 : Value) (w : World) : Prop where
  bel : k ≤ 4 → Below V.heap.size V w
  box0 : k ≤ 4 → w.heap[M2]? = some (.cells #[.slice none 0 0, .slice none 0 0] 25 (0, 0))
  box5 : 5 ≤ k → w.heap[M2]? = some (.cells #[t10, t16] 25 (0, 0)) ∧ Below M2 V w
  p9 : k = 1 → ∃ b, t9 = .slice (some ⟨b, 0, none⟩) 2 2 ∧ w.heap[b]? = some (.cells c9 22 (0, 0))
  k10 : 2 ≤ k → KyOwn V.heap.size w t10 ks
  p15 : f = true → k ≤ 2 → ∃ b, t15 = .slice (some ⟨b, 0, none⟩) 2 2 ∧ w.heap[b]? = some (.cells c15 23 (0, 0))
  d15 : 3 ≤ k → f = true
  r16 : 3 ≤ k → RgOwn V.heap.size w t16 rg
  b17 : 4 ≤ k → t17 = .agg #[t10, t16]

section
variable {V : World} {M2 : Nat} {c9 c15 : Array Value} {ks : List Ky} {rg : List Rg} {k : Nat} {f : Bool} {t9 t10 t15 t16 t17 : Value} {w w' : World}
theorem blk_on {b : Nat} {o : Obj} (h : w.heap[b]? = some o) (hb : Below w.heap.size w w') : w'.heap[b]? = some o := (hb.block b (Array.getElem?_eq_some_iff.1 h).1).trans h
theorem JuSt.on (h : JuSt V M2 c9 c15 ks rg k f t9 t10 t15 t16 t17 w) (hb : Below w.heap.size w w') (hk : k ≤ 4) : JuSt V M2 c9 c15 ks rg k f t9 t10 t15 t16 t17 w' :=
  ⟨fun hk => bel_then (h.bel hk) (h.bel hk).size hb, fun hk => blk_on (h.box0 hk) hb, (fun h5 => by omega), fun hk => by obtain ⟨b, h1, h2⟩ := h.p9 hk; exact ⟨b, h1, blk_on h2 hb⟩, fun hk => (h.k10 hk).on hb, fun hf hk => by obtain ⟨b, h1, h2⟩ := h.p15 hf hk; exact ⟨b, h1, blk_on h2 hb⟩, h.d15, fun hk => (h.r16 hk).on hb, h.b17⟩
theorem ju_start (h3 : V.heap[M2]? = some (.cells #[.slice none 0 0, .slice none 0 0] 25 (0, 0))) (t9 t10 t15 t16 t17 : Value) : JuSt V M2 c9 c15 ks rg 0 false t9 t10 t15 t16 t17 V :=
  ⟨fun _ => Below.refl _ _, fun _ => h3, (fun h => by omega), (fun h => by omega), (fun h => by omega), (fun h => by cases h), (fun h => by omega), (fun h => by omega), (fun h => by omega)⟩
theorem alloc_on (w : World) (o : Obj) : Below w.heap.size w (w.alloc o) := (Below.refl _ _).alloc (Nat.le_refl _) _
theorem ju_p9 (h : JuSt V M2 c9 c15 ks rg 0 f t9 t10 t15 t16 t17 w) : JuSt V M2 c9 c15 ks rg 1 f (.slice (some ⟨w.heap.size, 0, none⟩) 2 2) t10 t15 t16 t17 (w.alloc (.cells c9 22)) := by
  have g := h.on (alloc_on w (.cells c9 22)) (by omega)
  exact ⟨fun _ => g.bel (by omega), fun _ => g.box0 (by omega), (fun h => by omega), fun _ => ⟨_, rfl, heap_alloc_new w _⟩, (fun h => by omega), fun hf _ => g.p15 hf (by omega), (fun h => by omega), (fun h => by omega), (fun h => by omega)⟩
theorem ju_c5 {u : Value} (h : JuSt V M2 c9 c15 ks rg 1 f t9 t10 t15 t16 t17 w) (hb : Below w.heap.size w w') (hu : KyOwn w.heap.size w' u ks) : JuSt V M2 c9 c15 ks rg 2 f t9 u t15 t16 t17 w' := by
  have g := h.on hb (by omega)
  exact ⟨fun _ => g.bel (by omega), fun _ => g.box0 (by omega), (fun h => by omega), (fun h => by omega), fun _ => hu.weak (h.bel (by omega)).size, fun hf _ => g.p15 hf (by omega), (fun h => by omega), (fun h => by omega), (fun h => by omega)⟩
theorem ju_c11 {u : Value} (h : JuSt V M2 c9 c15 ks rg 2 true t9 t10 t15 t16 t17 w) (hb : Below w.heap.size w w') (hu : RgOwn w.heap.size w' u rg) : JuSt V M2 c9 c15 ks rg 3 true t9 t10 t15 u t17 w' := by
  have g := h.on hb (by omega)
  exact ⟨fun _ => g.bel (by omega), fun _ => g.box0 (by omega), (fun h => by omega), (fun h => by omega), fun _ => g.k10 (by omega), (fun _ h => by omega), fun _ => rfl, fun _ => hu.weak (h.bel (by omega)).size, (fun h => by omega)⟩
theorem ju_b12 (h : JuSt V M2 c9 c15 ks rg 3 f t9 t10 t15 t16 t17 w) : JuSt V M2 c9 c15 ks rg 4 f t9 t10 t15 t16 (.agg #[t10, t16]) w :=
  ⟨fun _ => h.bel (by omega), fun _ => h.box0 (by omega), (fun h => by omega), (fun h => by omega), fun _ => h.k10 (by omega), (fun _ h => by omega), fun _ => h.d15 (by omega), fun _ => h.r16 (by omega), fun _ => rfl⟩
theorem ju_s13 (h : JuSt V M2 c9 c15 ks rg 4 f t9 t10 t15 t16 t17 w) (hM : M2 < V.heap.size) : JuSt V M2 c9 c15 ks rg 5 f t9 t10 t15 t16 t17 ((w.setCell ⟨M2, 0, none⟩ t10).setCell ⟨M2, 1, none⟩ t16) := by
  have hb := h.box0 (by omega)
  have h1 : (w.setCell ⟨M2, 0, none⟩ t10).heap[M2]? = some (.cells #[t10, .slice none 0 0] 25 (0, 0)) := heap_setCell_same _ M2 0 _ _ _ hb
  have h2 : ((w.setCell ⟨M2, 0, none⟩ t10).setCell ⟨M2, 1, none⟩ t16).heap[M2]? = some (.cells #[t10, t16] 25 (0, 0)) := heap_setCell_same _ M2 1 _ _ _ h1
  have hB : Below M2 V w := (h.bel (by omega)).mono (by omega)
  exact ⟨(fun h => by omega), (fun h => by omega), fun _ => ⟨h2, (hB.setCell (Nat.le_refl M2) _).setCell (Nat.le_refl M2) _⟩, (fun h => by omega), fun _ => ((h.k10 (by omega)).cell hM _ _).cell hM _ _, (fun _ h => by omega), fun _ => h.d15 (by omega), fun _ => ((h.r16 (by omega)).cell hM _ _).cell hM _ _, fun _ => h.b17 (by omega)⟩
theorem ju_p15 (h : JuSt V M2 c9 c15 ks rg k false t9 t10 t15 t16 t17 w) : JuSt V M2 c9 c15 ks rg k true t9 t10 (.slice (some ⟨w.heap.size, 0, none⟩) 2 2) t16 t17 (w.alloc (.cells c15 23)) := by
  have hk : ¬ 3 ≤ k := fun h3 => by have := h.d15 h3; cases this
  have g := h.on (alloc_on w (.cells c15 23)) (by omega)
  exact ⟨g.bel, g.box0, (fun h => by omega), g.p9, g.k10, fun _ _ => ⟨_, rfl, heap_alloc_new w _⟩, (fun h => by omega), (fun h => by omega), (fun h => by omega)⟩
end

set_option maxHeartbeats 8000000 in
set_option maxRecDepth 100000 in
theorem munion12_any (a b : Mx) (w : World) (ha : MIn w a) (hb : MIn w b) (wa : FewM a) (wb : FewM b) :
    Calls Try.prog 12 #[.agg (encMx a).toArray, .agg (encMx b).toArray] w fun e w' => MOwnPost w (unionM a.mk' b.mk') e w' := by
  obtain ⟨V, hV⟩ : ∃ V, ((w.alloc (.cells (encMx a).toArray 25)).alloc (.cells (encMx b).toArray 25)).alloc (.cells #[.slice none 0 0, .slice none 0 0] 25) = V := ⟨_, rfl⟩
  obtain ⟨M, hM⟩ : ∃ M, w.heap.size = M := ⟨_, rfl⟩
  obtain ⟨hbV, h1, h2, h3, hs⟩ := three_boxes w _ _ _ _ _ _ V hV
  rw [hM] at h1 h2 h3 hs
  have w1 := wa.1
  have w2 := wa.2
  have w3 := wb.1
  have w4 := wb.2
  have HBX : Hid (∀ W' : World, (∀ c, c < M + 2 → W'.heap[c]? = V.heap[c]?) → (W'.cell? ⟨M, 0, none⟩ = some a.ksl ∧ W'.cell? ⟨M, 1, none⟩ = some a.rsl) ∧ W'.cell? ⟨M + 1, 0, none⟩ = some b.ksl ∧ W'.cell? ⟨M + 1, 1, none⟩ = some b.rsl) := fun W' hW => by
    have e1 := (hW M (by omega)).trans h1
    have e2 := (hW (M + 1) (by omega)).trans h2
    exact ⟨⟨by rw [Lib.cell_of_heap e1]; rfl, by rw [Lib.cell_of_heap e1]; rfl⟩, by rw [Lib.cell_of_heap e2]; rfl, by rw [Lib.cell_of_heap e2]; rfl⟩
  have HRI : Hid (∀ (W' : World) B, Below V.drew.heap.size V.drew W' → W'.heap[B]? = some (.cells #[a.ksl, b.ksl] 22 (0, 0)) → Calls Try.prog 29 #[.slice (some ⟨B, 0, none⟩) 2 2] W' fun e w' => KeyRPost W' (sortK (a.ks ++ b.ks)) e w') := fun W' B hW hB =>
    mrising12_any B a.kp b.kp a.kc b.kc a.ks b.ks W' hB (ha.on (bel_then hbV hbV.size ((bel_drewN (Below.refl _ V) 1).trans hW))).keys (hb.on (bel_then hbV hbV.size ((bel_drewN (Below.refl _ V) 1).trans hW))).keys (by omega)
  have HJO : Hid (∀ (W' : World) B, Below V.drew.heap.size V.drew W' → W'.heap[B]? = some (.cells #[a.rsl, b.rsl] 23 (0, 0)) → Calls Try.prog 33 #[.slice (some ⟨B, 0, none⟩) 2 2] W' fun e w' => RgPost W' ((b.rs.map Rx.rg).foldl putR ((a.rs.map Rx.rg).foldl putR [])) e w') := fun W' B hW hB => by
    have hA := ha.on (bel_then hbV hbV.size ((bel_drewN (Below.refl _ V) 1).trans hW))
    have hB' := hb.on (bel_then hbV hbV.size ((bel_drewN (Below.refl _ V) 1).trans hW))
    exact mjoined12_any B a.rp b.rp a.rc b.rc a.rs b.rs W' hB hA.rows hB'.rows hA.each hB'.each (by omega)
  have HUM : Hid (unionM a.mk' b.mk' = (sortK (a.ks ++ b.ks), (b.rs.map Rx.rg).foldl putR ((a.rs.map Rx.rg).foldl putR []))) := by show _ = _; rw [sortK_append]; rfl
  have HBV := hid hbV
  have HST := hid (ju_start (V := V.drew) (M2 := M + 2) (c9 := #[a.ksl, b.ksl]) (c15 := #[a.rsl, b.rsl]) (ks := sortK (a.ks ++ b.ks)) (rg := (b.rs.map Rx.rg).foldl putR ((a.rs.map Rx.rg).foldl putR [])) h3)
  have hsz : M + 2 < V.drew.heap.size := by show M + 2 < V.heap.size; omega
  obtain ⟨⟨a0, a1⟩, b0, b1⟩ := HBX.out V (fun _ _ => rfl)
  clear ha hb wa wb hbV h1 h2 h3
  obtain ⟨akp, akc, aks, arp, arc, ars⟩ := a
  obtain ⟨bkp, bkc, bks, brp, brc, brs⟩ := b
  simp only [encMx, Mx.ksl, Mx.rsl] at *
  generalize unionM _ _ = UM at *
  generalize sortK (aks ++ bks) = ks at *
  generalize (brs.map Rx.rg).foldl putR ((ars.map Rx.rg).foldl putR []) = rg at *
  go_enter Try.func12, Try.ntmps12
  go_wp2_with fail
  try rw [hV]
  try rw [hM]
  clear hV
  refine wp_region_held_drew (S := fun w' => w'.cell? ⟨M, 0, none⟩ = some (.slice akp aks.length akc) ∧ w'.cell? ⟨M, 1, none⟩ = some (.slice arp ars.length arc) ∧ w'.cell? ⟨M + 1, 0, none⟩ = some (.slice bkp bks.length bkc) ∧ w'.cell? ⟨M + 1, 1, none⟩ = some (.slice brp brs.length brc)) (by kernel_rfl) ⟨a0, a1, b0, b1⟩ (fun hHeld => ?_)
  refine take_val (i := 0) (.pointer (some ⟨M, 0, none⟩)) rfl (by kernel_rfl) (by kernel_rfl) (by kernel_rfl) (fun _ _ _ h => h) (by rfl) (fun w hSw => by go_simp) hHeld ?_
  simp only [Act.put, List.setIfInBounds_toArray, List.set_cons_zero, List.set_cons_succ]
  refine take_val (i := 1) (.slice akp aks.length akc) rfl (by kernel_rfl) (by kernel_rfl) (by kernel_rfl) (fun _ _ _ h => h) (by rfl) (fun w hSw => by go_simp) hHeld ?_
  simp only [Act.put, List.setIfInBounds_toArray, List.set_cons_zero, List.set_cons_succ]
  refine take_val (i := 2) (.pointer (some ⟨M + 1, 0, none⟩)) rfl (by kernel_rfl) (by kernel_rfl) (by kernel_rfl) (fun _ _ _ h => h) (by rfl) (fun w hSw => by go_simp) hHeld ?_
  simp only [Act.put, List.setIfInBounds_toArray, List.set_cons_zero, List.set_cons_succ]
  refine take_val (i := 3) (.slice bkp bks.length bkc) rfl (by kernel_rfl) (by kernel_rfl) (by kernel_rfl) (fun _ _ _ h => h) (by rfl) (fun w hSw => by go_simp) hHeld ?_
  simp only [Act.put, List.setIfInBounds_toArray, List.set_cons_zero, List.set_cons_succ]
  refine take_val (i := 6) (.pointer (some ⟨M, 1, none⟩)) rfl (by kernel_rfl) (by kernel_rfl) (by kernel_rfl) (fun _ _ _ h => h) (by rfl) (fun w hSw => by go_simp) hHeld ?_
  simp only [Act.put, List.setIfInBounds_toArray, List.set_cons_zero, List.set_cons_succ]
  refine take_val (i := 7) (.slice arp ars.length arc) rfl (by kernel_rfl) (by kernel_rfl) (by kernel_rfl) (fun _ _ _ h => h) (by rfl) (fun w hSw => by go_simp) hHeld ?_
  simp only [Act.put, List.setIfInBounds_toArray, List.set_cons_zero, List.set_cons_succ]
  refine take_val (i := 8) (.pointer (some ⟨M + 1, 1, none⟩)) rfl (by kernel_rfl) (by kernel_rfl) (by kernel_rfl) (fun _ _ _ h => h) (by rfl) (fun w hSw => by go_simp) hHeld ?_
  simp only [Act.put, List.setIfInBounds_toArray, List.set_cons_zero, List.set_cons_succ]
  refine take_val (i := 9) (.slice brp brs.length brc) rfl (by kernel_rfl) (by kernel_rfl) (by kernel_rfl) (fun _ _ _ h => h) (by rfl) (fun w hSw => by go_simp) hHeld ?_
  simp only [Act.put, List.setIfInBounds_toArray, List.set_cons_zero, List.set_cons_succ]
  clear hHeld a0 a1 b0 b1
  refine wpAnyH_floats [4, 5, 11, 12, 13] [10] (fun a0 k fl a w' => ∃ t9 t10 t15 t16 t17, a = putS a0 [(9, t9), (10, t10), (15, t15), (16, t16), (17, t17)] ∧ JuSt V.drew (M + 2) #[.slice akp aks.length akc, .slice bkp bks.length bkc] #[.slice arp ars.length arc, .slice brp brs.length brc] ks rg k (fl.headD false) t9 t10 t15 t16 t17 w') (by kernel_rfl) (by decide) ⟨_, _, _, _, _, (putS_self _ [9, 10, 15, 16, 17]).symm, HST.out _ _ _ _ _⟩ ?hS ?hmain ?halloc ?hend
  case hS =>
    rintro k fl a w' ⟨t9, t10, t15, t16, t17, rfl, hst⟩
    have : ∀ c, c < M + 2 → w'.heap[c]? = V.heap[c]? := fun c hc => by
      by_cases hk : k ≤ 4
      · exact (hst.bel hk).block c (by omega)
      · exact (hst.box5 (by omega)).2.block c hc
    obtain ⟨⟨a0, a1⟩, b0, b1⟩ := HBX.out w' this
    exact ⟨a0, a1, b0, b1⟩
  case hmain =>
    rintro k i' fl a w' hk hfl hrd ⟨t9, t10, t15, t16, t17, rfl, hst⟩
    obtain ⟨f1, rfl⟩ : ∃ f1, fl = [f1] := by
      match fl, hfl with
      | [f1], _ => exact ⟨f1, rfl⟩
    simp only [List.headD_cons] at hst ⊢
    rcases k with _ | _ | _ | _ | _ | k
    · obtain rfl : i' = 4 := by simpa using hk.symm
      have HS2 := hid (ju_p9 hst)
      clear hst hrd hk hfl
      refine ⟨_, at_drop0 rfl, fun K hK => ?_⟩
      simp only [putS, List.foldl_cons, List.foldl_nil, Act.put, List.setIfInBounds_toArray, List.set_cons_zero, List.set_cons_succ]
      rw [if_pos (by rfl)]
      go_simp
      go_wp2_with fail
      exact hK.out _ _ ⟨_, t10, t15, t16, t17, rfl, HS2.out⟩
    · obtain rfl : i' = 5 := by simpa using hk.symm
      obtain ⟨B, rfl, hB⟩ := hst.p9 rfl
      have HC := hid (HRI.out w' B (hst.bel (by omega)) hB)
      have HST := hid hst
      clear hst hrd hk hfl hB
      refine ⟨_, at_drop0 rfl, fun K hK => ?_⟩
      simp only [putS, List.foldl_cons, List.foldl_nil, Act.put, List.setIfInBounds_toArray, List.set_cons_zero, List.set_cons_succ]
      rw [if_pos (by rfl)]
      go_simp
      refine HC.out.mono ?_
      rintro e w2 hp
      obtain ⟨u, rfl, ho, hb2⟩ := kyown_post hp
      have HS2 := hid (ju_c5 HST.out hb2 ho)
      clear hp ho hb2
      go_wp2_with fail
      exact hK.out _ _ ⟨_, u, t15, t16, t17, rfl, HS2.out⟩
    · obtain rfl : i' = 11 := by simpa using hk.symm
      cases f1 with
      | false => exact (not_ready hrd (by kernel_rfl)).elim
      | true =>
      obtain ⟨B, rfl, hB⟩ := hst.p15 rfl (by omega)
      have HC := hid (HJO.out w' B (hst.bel (by omega)) hB)
      have HST := hid hst
      clear hst hrd hk hfl hB
      refine ⟨_, at_drop0 rfl, fun K hK => ?_⟩
      simp only [putS, List.foldl_cons, List.foldl_nil, Act.put, List.setIfInBounds_toArray, List.set_cons_zero, List.set_cons_succ]
      rw [if_pos (by rfl)]
      go_simp
      refine HC.out.mono ?_
      rintro e w2 hp
      obtain ⟨u, rfl, ho, hb2⟩ := rgown_post hp
      have HS2 := hid (ju_c11 HST.out hb2 ho)
      clear hp ho hb2
      go_wp2_with fail
      exact hK.out _ _ ⟨t9, t10, _, u, t17, rfl, HS2.out⟩
    · obtain rfl : i' = 12 := by simpa using hk.symm
      obtain ⟨p1, c1, rfl, _⟩ := hst.k10 (by omega)
      obtain ⟨p2, c2, L2, rfl, _⟩ := hst.r16 (by omega)
      have HS2 := hid (ju_b12 hst)
      clear hst hrd hk hfl
      refine ⟨_, at_drop0 rfl, fun K hK => ?_⟩
      simp only [putS, List.foldl_cons, List.foldl_nil, Act.put, List.setIfInBounds_toArray, List.set_cons_zero, List.set_cons_succ]
      rw [if_pos (by rfl)]
      go_simp
      go_wp2_with fail
      exact hK.out _ _ ⟨t9, _, t15, _, _, rfl, HS2.out⟩
    · obtain rfl : i' = 13 := by simpa using hk.symm
      obtain ⟨p1, c1, rfl, _⟩ := hst.k10 (by omega)
      obtain ⟨p2, c2, L2, rfl, _⟩ := hst.r16 (by omega)
      obtain rfl := hst.b17 (by omega)
      have hbx := hst.box0 (by omega)
      have q0 : w'.cell? ⟨M + 2, 0, none⟩ = some (.slice none 0 0) := by rw [Lib.cell_of_heap hbx]; rfl
      have q1 : w'.cell? ⟨M + 2, 1, none⟩ = some (.slice none 0 0) := by rw [Lib.cell_of_heap hbx]; rfl
      have r0 : w'.frozen? ⟨M + 2, 0, none⟩ = false := Lib.frozen_of_heap hbx 0
      have r1 : w'.frozen? ⟨M + 2, 1, none⟩ = false := Lib.frozen_of_heap hbx 1
      have HS2 := hid (ju_s13 hst hsz)
      clear hst hrd hk hfl hbx
      refine ⟨_, at_drop0 rfl, fun K hK => ?_⟩
      simp only [putS, List.foldl_cons, List.foldl_nil, Act.put, List.setIfInBounds_toArray, List.set_cons_zero, List.set_cons_succ]
      rw [if_pos (by rfl)]
      go_simp
      go_wp2_with fail
      exact hK.out _ _ ⟨t9, _, t15, _, _, rfl, HS2.out⟩
    · simp at hk
  case halloc =>
    rintro j i' k fl a w' hj hk hfl hf ⟨t9, t10, t15, t16, t17, rfl, hst⟩
    obtain ⟨f1, rfl⟩ : ∃ f1, fl = [f1] := by
      match fl, hfl with
      | [f1], _ => exact ⟨f1, rfl⟩
    rcases j with _ | j
    · obtain rfl : i' = 10 := by simpa using hj.symm
      obtain rfl : f1 = false := by simpa using hf
      simp only [List.headD_cons, List.set_cons_zero] at hst ⊢
      have HS2 := hid (ju_p15 hst)
      clear hst hf hj hk hfl
      refine ⟨_, at_drop0 rfl, fun K hK => ?_⟩
      simp only [putS, List.foldl_cons, List.foldl_nil, Act.put, List.setIfInBounds_toArray, List.set_cons_zero, List.set_cons_succ]
      rw [if_pos (by rfl)]
      go_simp
      go_wp2_with fail
      exact hK.out _ _ ⟨t9, t10, _, t16, t17, rfl, HS2.out⟩
    · simp at hj
  case hend =>
    rintro a w3 ⟨t9, t10, t15, t16, t17, rfl, hst⟩
    obtain ⟨p2, c2, rfl, hk2⟩ := hst.k10 (by decide)
    obtain ⟨p3, c3, L3, rfl, hr3, he3, ha3, hm3⟩ := hst.r16 (by decide)
    obtain ⟨hbx, hbl⟩ := hst.box5 (by decide)
    have g0 : w3.cell? ⟨M + 2, 0, none⟩ = some (.slice p2 ks.length c2) := by rw [Lib.cell_of_heap hbx]; rfl
    have g1 : w3.cell? ⟨M + 2, 1, none⟩ = some (.slice p3 L3.length c3) := by rw [Lib.cell_of_heap hbx]; rfl
    have hwV : w.heap.size ≤ V.drew.heap.size := by show w.heap.size ≤ V.heap.size; omega
    have HB4 : Hid (Below w.heap.size w w3) := HBV.out.trans ((bel_drewN (Below.refl _ V) 1).trans (hbl.mono (by omega)))
    have HOW : Hid (MOwn w.heap.size w3 ⟨p2, c2, ks, p3, c3, L3⟩) := ⟨Kind.own_weak hk2 hwV, Kind.own_weak hr3 hwV, fun r hr => ⟨Kind.own_weak (he3 r hr).1 hwV, (he3 r hr).2⟩, ha3⟩
    have HM3 := hid hm3
    clear hst hk2 hr3 he3 ha3 hm3 hbx hbl
    go_wp2_with fail
    refine bodyPost_ret (v := .agg #[.slice p2 ks.length c2, .slice p3 L3.length c3]) (by simp [results, Try.results12, go_sem, g0, g1, putS, Act.put]) rfl ⟨⟨p2, c2, ks, p3, c3, L3⟩, rfl, HOW.out, ?_, HB4.out⟩
    rw [HUM.out, ← HM3.out]
    rfl

end Go.Proofs.Ythdakljoabbghaa

/-
  'a, b = append(a, x), append(b, x)': two rows of one's own grow in one statement. No program.
-/
namespace Go.Proofs.Ythdakljoabbghaa
open Go.RowKit

/-- Two rows of one's own, apart. -/
structure Row2 {α : Type} (K : Kind α) (N : Nat) (W : World) (va : Value) (la : List α) (vb : Value) (lb : List α) (w : World) : Prop where
  a : RowSt K N W va la w
  b : RowSt K N W vb lb w
  ne : ∀ k, va.ownBlock = some k → ¬ vb.ownBlock = some k

section
variable {α : Type} {K : Kind α} {N : Nat} {W : World} {va vb : Value} {la lb : List α} {w : World}
theorem Row2.on {w' : World} (h : Row2 K N W va la vb lb w) (hb : Below w.heap.size w w') : Row2 K N W va la vb lb w' := ⟨h.a.on hb, h.b.on hb, h.ne⟩
theorem Row2.nil (hb : Below N W w) (hN : N ≤ w.heap.size) : Row2 K N W (.slice none 0 0) [] (.slice none 0 0) [] w := ⟨RowSt.nil K hb hN, RowSt.nil K hb hN, fun k h => by cases h⟩
theorem Row2.turn (h : Row2 K N W va la vb lb w) : Row2 K N W vb lb va la w := ⟨h.b, h.a, fun k h1 h2 => h.ne k h2 h1⟩
theorem Row2.push {w' : World} {va' : Value} {la' : List α} (h : Row2 K N W va la vb lb w) (hst : RowSt K N W va' la' w') (hg : w.grownBy w' va.ownBlock) (hat : ∀ k, va'.ownBlock = some k → va.ownBlock = some k ∨ k = w.heap.size) : Row2 K N W va' la' vb lb w' := by
  have hf : Fr (fun k => va.ownBlock = some k) w w' := Fr.of_grown hg fun k hk => hk
  refine ⟨hst, ⟨hf.row (show w.ownsRow N K.T K.k vb lb.length (K.cells lb) from h.b.own) fun k h1 h2 => h.ne k h2 h1, hst.bel, hst.base⟩, fun k h1 h2 => ?_⟩
  rcases hat k h1 with h3 | h3
  · exact h.ne k h3 h2
  · have := (World.ownsRow.lt (show w.ownsRow N K.T K.k vb lb.length (K.cells lb) from h.b.own) k h2).2
    omega
end

theorem slice_own {g n c k : Nat} (hk : (Value.slice (some ⟨g, 0, none⟩) n c).ownBlock = some k) : k = g := by
  have h1 : (Value.slice (some ⟨g, 0, none⟩) n c).ownBlock = some g ∨ (Value.slice (some ⟨g, 0, none⟩) n c).ownBlock = none := by
    unfold Value.ownBlock
    simp
  rcases h1 with h1 | h1
  · rw [h1] at hk; injection hk with hk; exact hk.symm
  · rw [h1] at hk; cases hk
theorem Row2.pushed {α : Type} {K : Kind α} {N : Nat} {W : World} {va vb : Value} {la lb : List α} {w : World} {g c : Nat} {w' : World} {n : Nat} {la' : List α} (h : Row2 K N W va la vb lb w) (hst : RowSt K N W (.slice (some ⟨g, 0, none⟩) n c) la' w') (hg : w.grownBy w' va.ownBlock) (hat : va.ownBlock = some g ∨ g = w.heap.size) : Row2 K N W (.slice (some ⟨g, 0, none⟩) n c) la' vb lb w' :=
  h.push hst hg fun k hk => by rw [slice_own hk]; exact hat

/-- 'l = append(l, x)' where the operation is at hand. -/
theorem wp_push {P : Program} {α : Type} {w : World} {o : Oper} {a : Act} {Q : Exit → Act → World → Prop} {Kx : Act → World → Prop} (K : Kind α) (hgd : o.guard = none) (s x : Operand) (t : TypeId) (ho : o.op = .call { callee := .builtin .append, args := #[s, x], argTypes := #[t, t] })
    (i : TypeInfo) (z : Value) (bytes : Nat) (ht : P.underlying t = some (.slice K.T)) (hi : P.info? K.T = some i) (hz : i.zero = some z) (hsize : i.size = K.k) (hby : i.bytes = bytes) (hzs : z.cells.size = K.k)
    (N : Nat) (W : World) (v : Value) (l : List α) (hs : a.eval s = v) (hst : RowSt K N W v l w) (y : α) (B m c : Nat) (hm : m = 1) (hx : a.eval x = .slice (some ⟨B, 0, none⟩) m c) (te : TypeId) (fz : Nat × Nat) (hB : w.heap[B]? = some (.cells (K.enc y).toArray te fz))
    (hlen : l.length + 1 ≤ maxLen) (hbytes : (l.length + 1) * bytes ≤ 140737488355328)
    (h : ∀ g cap w', RowSt K N W (.slice (some ⟨g, 0, none⟩) (l.length + 1) cap) (l ++ [y]) w' → w.grownBy w' v.ownBlock → (v.ownBlock = some g ∨ g = w.heap.size) → Kx (a.put o.dst (.slice (some ⟨g, 0, none⟩) (l.length + 1) cap)) w') :
    Oper.wp P o a w Kx Q := by
  have := step_push (ops := #[]) (E := True) (Q := Q) K hgd s x t ho i z bytes ht hi hz hsize hby hzs N W v l hs hst y B m c hm hx te fz hB hlen hbytes h
  rwa [if_pos (by unfold Region.wanted; rw [hgd])] at this

/-- k of the two appends are done, fl of the boxes laid. -/
structure Pu2At {α : Type} (K : Kind α) (T : TypeId) (N : Nat) (W : World) (x : α) (la lb : List α) (va vb : Value) (k : Nat) (fl : List Bool) (p1 p2 s1 s2 : Value) (w : World) (Z1 Z2 : Nat) : Prop where
  rows : Row2 K N W (if 1 ≤ k then p1 else va) (if 1 ≤ k then la ++ [x] else la) (if 2 ≤ k then p2 else vb) (if 2 ≤ k then lb ++ [x] else lb) w
  b1 : fl[0]? = some true → s1 = .slice (some ⟨Z1, 0, none⟩) 1 1 ∧ (k = 0 → w.heap[Z1]? = some (.cells (K.enc x).toArray T (0, 0)))
  b2 : fl[1]? = some true → s2 = .slice (some ⟨Z2, 0, none⟩) 1 1 ∧ (k ≤ 1 → w.heap[Z2]? = some (.cells (K.enc x).toArray T (0, 0)) ∧ (k = 0 → ¬ va.ownBlock = some Z2))
def Pu2 {α : Type} (K : Kind α) (T : TypeId) (N : Nat) (W : World) (x : α) (la lb : List α) (va vb : Value) (k : Nat) (fl : List Bool) (p1 p2 s1 s2 : Value) (w : World) : Prop := ∃ Z1 Z2, Pu2At K T N W x la lb va vb k fl p1 p2 s1 s2 w Z1 Z2

section
variable {α : Type} {K : Kind α} {T : TypeId} {N : Nat} {W : World} {x : α} {la lb : List α} {va vb : Value} {k : Nat} {p1 p2 s1 s2 : Value} {w : World}
theorem pu2_start (p1 p2 s1 s2 : Value) (h : Row2 K N W va la vb lb w) : Pu2 K T N W x la lb va vb 0 [false, false] p1 p2 s1 s2 w := ⟨0, 0, h, (fun e => by cases e), (fun e => by cases e)⟩
theorem pu2_bel {fl : List Bool} (h : Pu2 K T N W x la lb va vb k fl p1 p2 s1 s2 w) : Below N W w ∧ N ≤ w.heap.size := by
  obtain ⟨_, _, h⟩ := h
  exact ⟨h.rows.a.bel, h.rows.a.base⟩
theorem pu2_box1 {f2 : Bool} (h : Pu2 K T N W x la lb va vb k [false, f2] p1 p2 s1 s2 w) : Pu2 K T N W x la lb va vb k [true, f2] p1 p2 (.slice (some ⟨w.heap.size, 0, none⟩) 1 1) s2 (w.alloc (.cells (K.enc x).toArray T)) := by
  obtain ⟨Z1, Z2, h⟩ := h
  have hal : Below w.heap.size w (w.alloc (.cells (K.enc x).toArray T)) := (Below.refl _ _).alloc (Nat.le_refl _) _
  refine ⟨w.heap.size, Z2, h.rows.on hal, (fun _ => ⟨rfl, fun _ => heap_alloc_new w _⟩), (fun e => ?_)⟩
  obtain ⟨q1, q2⟩ := h.b2 e
  refine ⟨q1, fun hk => ?_⟩
  obtain ⟨q3, q4⟩ := q2 hk
  exact ⟨(hal.block Z2 (Array.getElem?_eq_some_iff.1 q3).1).trans q3, q4⟩
theorem pu2_box2 {f1 : Bool} (h : Pu2 K T N W x la lb va vb k [f1, false] p1 p2 s1 s2 w) : Pu2 K T N W x la lb va vb k [f1, true] p1 p2 s1 (.slice (some ⟨w.heap.size, 0, none⟩) 1 1) (w.alloc (.cells (K.enc x).toArray T)) := by
  obtain ⟨Z1, Z2, h⟩ := h
  have hal : Below w.heap.size w (w.alloc (.cells (K.enc x).toArray T)) := (Below.refl _ _).alloc (Nat.le_refl _) _
  refine ⟨Z1, w.heap.size, h.rows.on hal, (fun e => ?_), (fun _ => ⟨rfl, fun hk => ⟨heap_alloc_new w _, fun hk e => ?_⟩⟩)⟩
  · obtain ⟨q1, q2⟩ := h.b1 e
    refine ⟨q1, fun hk => ?_⟩
    have q3 := q2 hk
    exact (hal.block Z1 (Array.getElem?_eq_some_iff.1 q3).1).trans q3
  · subst hk
    have h2 : K.Own N w va la := h.rows.a.own
    have := (World.ownsRow.lt (show w.ownsRow N K.T K.k va la.length (K.cells la) from h2) _ e).2
    omega
theorem pu2_row1 {f2 : Bool} (h : Pu2 K T N W x la lb va vb 0 [true, f2] p1 p2 s1 s2 w) : ∃ Z1, s1 = .slice (some ⟨Z1, 0, none⟩) 1 1 ∧ w.heap[Z1]? = some (.cells (K.enc x).toArray T (0, 0)) ∧ RowSt K N W va la w := by
  obtain ⟨Z1, Z2, h⟩ := h
  obtain ⟨q1, q2⟩ := h.b1 rfl
  exact ⟨Z1, q1, q2 rfl, h.rows.a⟩
theorem pu2_row2 {f1 : Bool} (h : Pu2 K T N W x la lb va vb 1 [f1, true] p1 p2 s1 s2 w) : ∃ Z2, s2 = .slice (some ⟨Z2, 0, none⟩) 1 1 ∧ w.heap[Z2]? = some (.cells (K.enc x).toArray T (0, 0)) ∧ RowSt K N W vb lb w := by
  obtain ⟨Z1, Z2, h⟩ := h
  obtain ⟨q1, q2⟩ := h.b2 rfl
  exact ⟨Z2, q1, (q2 (Nat.le_refl _)).1, h.rows.b⟩
theorem pu2_push1 {f2 : Bool} {g cap : Nat} {w' : World} (h : Pu2 K T N W x la lb va vb 0 [true, f2] p1 p2 s1 s2 w) (hst : RowSt K N W (.slice (some ⟨g, 0, none⟩) (la.length + 1) cap) (la ++ [x]) w') (hg : w.grownBy w' va.ownBlock) (hat : va.ownBlock = some g ∨ g = w.heap.size) : Pu2 K T N W x la lb va vb 1 [true, f2] (.slice (some ⟨g, 0, none⟩) (la.length + 1) cap) p2 s1 s2 w' := by
  obtain ⟨Z1, Z2, h⟩ := h
  have hr : Row2 K N W va la vb lb w := h.rows
  refine ⟨Z1, Z2, hr.push hst hg (fun k hk => ?_), (fun _ => ⟨(h.b1 rfl).1, fun hk => by omega⟩), (fun e => ?_)⟩
  · have hk : (Value.slice (some ⟨g, 0, none⟩) (la.length + 1) cap).ownBlock = some k := hk
    have : k = g := by
      have h1 : (Value.slice (some ⟨g, 0, none⟩) (la.length + 1) cap).ownBlock = some g ∨ (Value.slice (some ⟨g, 0, none⟩) (la.length + 1) cap).ownBlock = none := by
        unfold Value.ownBlock
        simp
      rcases h1 with h1 | h1
      · rw [h1] at hk; injection hk with hk; exact hk.symm
      · rw [h1] at hk; cases hk
    subst this
    exact hat
  · obtain ⟨q1, q2⟩ := h.b2 e
    refine ⟨q1, fun _ => ?_⟩
    obtain ⟨q3, q4⟩ := q2 (by omega)
    exact ⟨(hg.block Z2 (Array.getElem?_eq_some_iff.1 q3).1 (fun e => q4 rfl e.symm)).trans q3, fun hk => by omega⟩
theorem pu2_push2 {f1 : Bool} {g cap : Nat} {w' : World} (h : Pu2 K T N W x la lb va vb 1 [f1, true] p1 p2 s1 s2 w) (hst : RowSt K N W (.slice (some ⟨g, 0, none⟩) (lb.length + 1) cap) (lb ++ [x]) w') (hg : w.grownBy w' vb.ownBlock) (hat : vb.ownBlock = some g ∨ g = w.heap.size) : Pu2 K T N W x la lb va vb 2 [f1, true] p1 (.slice (some ⟨g, 0, none⟩) (lb.length + 1) cap) s1 s2 w' := by
  obtain ⟨Z1, Z2, h⟩ := h
  have hr : Row2 K N W p1 (la ++ [x]) vb lb w := h.rows
  refine ⟨Z1, Z2, (hr.turn.push hst hg (fun k hk => ?_)).turn, (fun e => ⟨(h.b1 e).1, fun hk => by omega⟩), (fun _ => ⟨(h.b2 rfl).1, fun hk => by omega⟩)⟩
  have : k = g := by
    have h1 : (Value.slice (some ⟨g, 0, none⟩) (lb.length + 1) cap).ownBlock = some g ∨ (Value.slice (some ⟨g, 0, none⟩) (lb.length + 1) cap).ownBlock = none := by
      unfold Value.ownBlock
      simp
    rcases h1 with h1 | h1
    · rw [h1] at hk; injection hk with hk; exact hk.symm
    · rw [h1] at hk; cases hk
  subst this
  exact hat
/-- The assignments turn nothing. -/
theorem pu2_on {fl : List Bool} {k' : Nat} (h : Pu2 K T N W x la lb va vb k fl p1 p2 s1 s2 w) (hk : 2 ≤ k) (hk' : 2 ≤ k') : Pu2 K T N W x la lb va vb k' fl p1 p2 s1 s2 w := by
  obtain ⟨Z1, Z2, h⟩ := h
  refine ⟨Z1, Z2, ?_, (fun e => ⟨(h.b1 e).1, fun hk' => by omega⟩), (fun e => ⟨(h.b2 e).1, fun hk' => by omega⟩)⟩
  have hr := h.rows
  rw [if_pos (by omega), if_pos (by omega), if_pos (by omega), if_pos (by omega)] at hr
  rw [if_pos (by omega), if_pos (by omega), if_pos (by omega), if_pos (by omega)]
  exact hr
theorem pu2_more {fl : List Bool} (h : Pu2 K T N W x la lb va vb 2 fl p1 p2 s1 s2 w) (k : Nat) (hk : 2 ≤ k) : Pu2 K T N W x la lb va vb k fl p1 p2 s1 s2 w := by
  obtain ⟨Z1, Z2, h⟩ := h
  refine ⟨Z1, Z2, ?_, (fun e => ⟨(h.b1 e).1, fun hk' => by omega⟩), (fun e => ⟨(h.b2 e).1, fun hk' => by omega⟩)⟩
  have hr := h.rows
  rw [if_pos (by omega), if_pos (by omega), if_pos (by omega), if_pos (by omega)] at hr
  rw [if_pos (by omega), if_pos (by omega), if_pos (by omega), if_pos (by omega)]
  exact hr
theorem pu2_end {fl : List Bool} (h : Pu2 K T N W x la lb va vb k fl p1 p2 s1 s2 w) (hk : 2 ≤ k) : Row2 K N W p1 (la ++ [x]) p2 (lb ++ [x]) w := by
  obtain ⟨Z1, Z2, h⟩ := h
  have hr := h.rows
  rw [if_pos (by omega), if_pos (by omega), if_pos (by omega), if_pos (by omega)] at hr
  exact hr
end

end Go.Proofs.Ythdakljoabbghaa

/-
  Package marks (stage 12): Range.
-/
namespace Go.Proofs.Ythdakljoabbghaa
open Go.RowKit

theorem infoRk12 : (Try.prog.info? 27).map (fun i => (i.zero, i.size, i.bytes)) = some (some (.agg #[.string ⟨#[]⟩, .string ⟨#[]⟩]), 2, 32) := by kernel_rfl
theorem kcells12 {w : World} {b off : Nat} {p : List Ky} (h : KK.At w b off p) (j : Nat) (u : Value) (hu : (KK.cells p)[j]? = some u) : w.cell? ⟨b, off + j, none⟩ = some u := by
  rcases Kind.src (K := KK) (w := w) (p := some ⟨b, off, none⟩) (d := p) (Or.inr ⟨b, off, rfl, h⟩) with h0 | ⟨ad, e, hc⟩
  · obtain rfl := List.length_eq_zero_iff.1 h0
    simp [Kind.cells] at hu
  · cases e
    have := hc j u hu
    rwa [addr_add] at this

set_option maxHeartbeats 2000000 in
set_option maxRecDepth 100000 in
theorem cloneKy_any (v : Value) (p : List Ky) (w : World) (hv : KK.Is w v p) (hs : p.length * 32 ≤ 140737488355328) :
    Calls Try.prog 39 #[v] w fun e w' => ∃ u, e = .returned u ∧ KK.Own w.heap.size w' u p ∧ Below w.heap.size w w' := by
  obtain ⟨i0, hi, hz0, hz1, hz2⟩ := info_parts infoRk12
  obtain ⟨q, cap, rfl, hd⟩ := hv
  have q22 : ∀ (w : World) (a : Option Addr) (n c n' c' : Nat), (binOp .eql 22 (.slice a n c) (.slice none n' c')).run Try.prog w = .ok (.bool a.isNone) w := fun w a n c n' c' => Lib.run_eql_slice_nil w _ _ a n c n' c' Try.underlying22
  have HD := hid hd
  clear hd
  cases q with
  | none =>
    have h0 : p = [] := by
      rcases HD.out with h | ⟨b, off, h, _⟩
      · exact h
      · cases h
    subst h0
    go_enter Try.func39, Try.ntmps39
    go_wp2_with fail
    go_ret
    exact ⟨_, rfl, KK.own_nil _ _, Below.refl _ _⟩
  | some a =>
    have hcells : ∀ j u, (KK.cells p)[j]? = some u → (w.alloc (.cells #[] 27)).cell? (a.add j) = some u := by
      rcases HD.out with h | ⟨b, off, h, hx⟩
      · subst h; intro j u hj; simp [Kind.cells] at hj
      · intro j u hj
        obtain rfl : a = ⟨b, off, none⟩ := by simpa using h
        rw [addr_add]
        have := kcells12 hx j u hj
        rw [World.cell?_alloc_lt _ _ ⟨b, off + j, none⟩ (cell_block this)]; exact this
    have HC := hid hcells
    clear hcells
    go_enter Try.func39, Try.ntmps39
    go_wp2_with (at_builtin; refine wpList_append_own _ rfl _ _ 22 rfl w.heap.size 27 i0 (.agg #[.string ⟨#[]⟩, .string ⟨#[]⟩]) 2 32 Try.underlying22 hi hz0 hz1 hz2 rfl (by decide) _ _ _ rfl (World.ownsRow_made w #[] 0 (Nat.le_refl _) (Nat.zero_le _) (by simp)) a p.length cap (KK.cells p) rfl ?c0 ?c1 ?c2 ?c3 ?c4 ?c5 ?_)
    case c0 => exact KK.cells_len p
    case c1 => exact HC.out
    case c2 => exact KK.cells_ones p
    case c3 => unfold maxLen; omega
    case c4 => omega
    case c5 => simp
    intro v' w1 hown hgrow hnil
    have hb1 : Below w.heap.size w w1 := ((Below.refl _ w).alloc (Nat.le_refl _) _).grown hgrow (by simp) (by intro k hk; simp [Value.ownBlock] at hk; omega)
    have HO : Hid (KK.Own w.heap.size w1 v' p) := hid (by show w1.ownsRow w.heap.size 27 2 v' p.length (KK.cells p); simpa using hown)
    clear hown hgrow hnil
    go_wp2_with fail
    go_ret
    exact ⟨_, rfl, HO.out, hb1⟩


/-- A row stands where a block of another type is set. -/
theorem own_mset {α : Type} {K : Kind α} {N O : Nat} {w : World} {v : Value} {l : List α} {c : Array Value} {T : TypeId} (h : K.Own N w v l) (hO : w.heap[O]? = some (.cells c T (0, 0))) (ht : K.T ≠ T) (j : Nat) (x : Value) : K.Own N (w.setCell ⟨O, j, none⟩ x) v l :=
  Fr.row (P := fun k => k = O) (Fr.of_grown (grown_set w O j x) fun k hk => by simpa using hk.symm) (show w.ownsRow N K.T K.k v l.length (K.cells l) from h) fun k hk e => by
    obtain ⟨c1, e1⟩ := own_type (show w.ownsRow N K.T K.k v l.length (K.cells l) from h) hk
    rw [e, hO] at e1
    injection e1 with e1
    injection e1 with _ e3
    exact ht e3.symm
theorem KyOwn.mset {N O : Nat} {w : World} {v : Value} {ks : List Ky} {c : Array Value} (h : KyOwn N w v ks) (hO : w.heap[O]? = some (.cells c 25 (0, 0))) (j : Nat) (x : Value) : KyOwn N (w.setCell ⟨O, j, none⟩ x) v ks := by
  obtain ⟨p, c, h1, h2⟩ := h
  exact ⟨p, c, h1, own_mset h2 hO (by decide) j x⟩
theorem RgOwn.mset {N O : Nat} {w : World} {v : Value} {rg : List Rg} {c : Array Value} (h : RgOwn N w v rg) (hO : w.heap[O]? = some (.cells c 25 (0, 0))) (j : Nat) (x : Value) : RgOwn N (w.setCell ⟨O, j, none⟩ x) v rg := by
  obtain ⟨p, c, L, h1, h2, h3, h4, h5⟩ := h
  exact ⟨p, c, L, h1, own_mset h2 hO (by decide) j x, fun r hr => ⟨own_mset (h3 r hr).1 hO (by decide) j x, (h3 r hr).2⟩, h4, h5⟩

/-- Range under way: the copy of the marks. -/
structure RnSt (V : World) (ks : List Ky) (rg : List Rg) (k : Nat) (f : Bool) (t7 t11 t14 t15 : Value) (w : World) : Prop where
  bel : Below V.heap.size V w
  k11 : 1 ≤ k → KyOwn V.heap.size w t11 ks
  r14 : 2 ≤ k → RgOwn V.heap.size w t14 rg
  b15 : 3 ≤ k → t15 = .agg #[t11, t14]
  box0 : f = true → k ≤ 3 → ∃ b, t7 = .pointer (some ⟨b, 0, none⟩) ∧ V.heap.size ≤ b ∧ w.heap[b]? = some (.cells #[.slice none 0 0, .slice none 0 0] 25 (0, 0))
  box4 : 4 ≤ k → ∃ b, t7 = .pointer (some ⟨b, 0, none⟩) ∧ V.heap.size ≤ b ∧ w.heap[b]? = some (.cells #[t11, t14] 25 (0, 0))
  d7 : 4 ≤ k → f = true

section
variable {V : World} {ks : List Ky} {rg : List Rg} {k : Nat} {f : Bool} {t7 t11 t14 t15 : Value} {w w' : World}
theorem RnSt.on (h : RnSt V ks rg k f t7 t11 t14 t15 w) (hb : Below w.heap.size w w') : RnSt V ks rg k f t7 t11 t14 t15 w' :=
  ⟨bel_then h.bel h.bel.size hb, fun hk => (h.k11 hk).on hb, fun hk => (h.r14 hk).on hb, h.b15, fun hf hk => by obtain ⟨b, h1, h2, h3⟩ := h.box0 hf hk; exact ⟨b, h1, h2, blk_on h3 hb⟩, fun hk => by obtain ⟨b, h1, h2, h3⟩ := h.box4 hk; exact ⟨b, h1, h2, blk_on h3 hb⟩, h.d7⟩
theorem rn_start (V : World) (ks : List Ky) (rg : List Rg) (t7 t11 t14 t15 : Value) : RnSt V ks rg 0 false t7 t11 t14 t15 V :=
  ⟨Below.refl _ _, (fun h => by omega), (fun h => by omega), (fun h => by omega), (fun h => by cases h), (fun h => by omega), (fun h => by omega)⟩
theorem rn_c2 {u : Value} (h : RnSt V ks rg 0 f t7 t11 t14 t15 w) (hb : Below w.heap.size w w') (hu : KyOwn w.heap.size w' u ks) : RnSt V ks rg 1 f t7 u t14 t15 w' := by
  have g := h.on hb
  exact ⟨g.bel, fun _ => hu.weak h.bel.size, (fun h => by omega), (fun h => by omega), fun hf _ => g.box0 hf (by omega), (fun h => by omega), (fun h => by omega)⟩
theorem rn_c5 {u : Value} (h : RnSt V ks rg 1 f t7 t11 t14 t15 w) (hb : Below w.heap.size w w') (hu : RgOwn w.heap.size w' u rg) : RnSt V ks rg 2 f t7 t11 u t15 w' := by
  have g := h.on hb
  exact ⟨g.bel, fun _ => g.k11 (by omega), fun _ => hu.weak h.bel.size, (fun h => by omega), fun hf _ => g.box0 hf (by omega), (fun h => by omega), (fun h => by omega)⟩
theorem rn_b6 (h : RnSt V ks rg 2 f t7 t11 t14 t15 w) : RnSt V ks rg 3 f t7 t11 t14 (.agg #[t11, t14]) w :=
  ⟨h.bel, fun _ => h.k11 (by omega), fun _ => h.r14 (by omega), fun _ => rfl, fun hf _ => h.box0 hf (by omega), (fun h => by omega), (fun h => by omega)⟩
theorem rn_s8 {b : Nat} (h : RnSt V ks rg 3 true (.pointer (some ⟨b, 0, none⟩)) t11 t14 t15 w) : RnSt V ks rg 4 true (.pointer (some ⟨b, 0, none⟩)) t11 t14 t15 ((w.setCell ⟨b, 0, none⟩ t11).setCell ⟨b, 1, none⟩ t14) := by
  obtain ⟨b', e, hb, hx⟩ := h.box0 rfl (by omega)
  injection e with e
  injection e with e
  injection e with e _ _
  subst e
  have h1 : (w.setCell ⟨b, 0, none⟩ t11).heap[b]? = some (.cells #[t11, .slice none 0 0] 25 (0, 0)) := heap_setCell_same _ b 0 _ _ _ hx
  have h2 : ((w.setCell ⟨b, 0, none⟩ t11).setCell ⟨b, 1, none⟩ t14).heap[b]? = some (.cells #[t11, t14] 25 (0, 0)) := heap_setCell_same _ b 1 _ _ _ h1
  exact ⟨(h.bel.setCell (p := ⟨b, 0, none⟩) hb _).setCell (p := ⟨b, 1, none⟩) hb _, fun _ => ((h.k11 (by omega)).mset hx _ _).mset h1 _ _, fun _ => ((h.r14 (by omega)).mset hx _ _).mset h1 _ _, fun _ => h.b15 (by omega), (fun _ h => by omega), fun _ => ⟨b, rfl, hb, h2⟩, fun _ => rfl⟩
theorem rn_a7 (h : RnSt V ks rg k false t7 t11 t14 t15 w) : RnSt V ks rg k true (.pointer (some ⟨w.heap.size, 0, none⟩)) t11 t14 t15 (w.alloc (.cells #[.slice none 0 0, .slice none 0 0] 25)) := by
  have hk : ¬ 4 ≤ k := fun h3 => by have := h.d7 h3; cases this
  have g := h.on (alloc_on w (.cells #[.slice none 0 0, .slice none 0 0] 25))
  exact ⟨g.bel, g.k11, g.r14, g.b15, fun _ _ => ⟨_, rfl, h.bel.size, heap_alloc_new w _⟩, (fun h => by omega), (fun h => by omega)⟩
end

/-- Behind the copy: the box of the answer's own marks, in block b. -/
structure RmSt (V : World) (b : Nat) (kv : Value) (p : Option Addr) (c : Nat) (L : List Rx) (ks : List Ky) (w : World) : Prop where
  ge : V.heap.size ≤ b
  box : w.heap[b]? = some (.cells #[kv, .slice p L.length c] 25 (0, 0))
  key : KyOwn V.heap.size w kv ks
  rng : RgSt V.heap.size V (.slice p L.length c) L w
section
variable {V : World} {b : Nat} {kv : Value} {p : Option Addr} {c : Nat} {L : List Rx} {ks : List Ky} {w w' : World}
theorem RmSt.bel (h : RmSt V b kv p c L ks w) : Below V.heap.size V w := h.rng.row.bel
theorem RmSt.on (h : RmSt V b kv p c L ks w) (hb : Below w.heap.size w w') : RmSt V b kv p c L ks w' := ⟨h.ge, blk_on h.box hb, h.key.on hb, h.rng.on hb⟩
/-- One range more: the box, and what it is when the box tells it. -/
theorem RmSt.more {g c' : Nat} {x : Rx} (h : RmSt V b kv p c L ks w) (hg : w.grownBy w' (Value.slice p L.length c).ownBlock) (hst : RgSt V.heap.size V (.slice (some ⟨g, 0, none⟩) (L ++ [x]).length c') (L ++ [x]) w') :
    w'.heap[b]? = some (.cells #[kv, .slice p L.length c] 25 (0, 0)) ∧ RmSt V b kv (some ⟨g, 0, none⟩) c' (L ++ [x]) ks (w'.setCell ⟨b, 1, none⟩ (.slice (some ⟨g, 0, none⟩) (L ++ [x]).length c')) := by
  have ho := h.rng.row.own
  have hlt : b < w.heap.size := (Array.getElem?_eq_some_iff.1 h.box).1
  have hbx : w'.heap[b]? = some (.cells #[kv, .slice p L.length c] 25 (0, 0)) := by
    refine (hg.block b hlt fun e => ?_).trans h.box
    obtain ⟨c1, e1⟩ := own_type (show w.ownsRow V.heap.size KRx.T KRx.k (.slice p L.length c) L.length (KRx.cells L) from ho) e.symm
    rw [h.box] at e1
    injection e1 with e1
    injection e1 with _ e3
    exact absurd e3 (by decide)
  refine ⟨hbx, ⟨h.ge, heap_setCell_same _ b 1 _ _ _ hbx, ?_, ?_⟩⟩
  · obtain ⟨p1, c1, e, h1⟩ := h.key
    refine KyOwn.mset ⟨p1, c1, e, ?_⟩ hbx _ _
    exact own_else (show w.ownsRow V.heap.size KK.T KK.k (.slice p1 ks.length c1) ks.length (KK.cells ks) from h1) (show w.ownsRow V.heap.size KRx.T KRx.k (.slice p L.length c) L.length (KRx.cells L) from ho) (by decide) hg
  · exact ⟨⟨own_mset hst.row.own hbx (by decide) _ _, hst.row.bel.setCell (p := ⟨b, 1, none⟩) h.ge _, by rw [World.size_setCell]; exact hst.row.base⟩, fun r hr => ⟨own_mset (hst.each r hr).1 hbx (by decide) _ _, (hst.each r hr).2⟩, hst.apart⟩
/-- What is left when the answer is laid. -/
theorem RmSt.post {w0 : World} {M1 : Nat} {mk : Mk} {p2 : Option Addr} {c2 : Nat} (h : RmSt V b (.slice p2 ks.length c2) p c L ks w) (hb0 : Below w0.heap.size w0 V) (h0 : w0.heap.size ≤ M1) (hM1 : M1 < V.heap.size) (hmk : mk = (ks, L.map Rx.rg)) :
    MOwnPost w0 mk (.returned (.agg #[.slice p2 ks.length c2, .slice p L.length c])) ((w.setCell ⟨M1, 0, none⟩ (.slice p2 ks.length c2)).setCell ⟨M1, 1, none⟩ (.slice p L.length c)) := by
  have hwV : w0.heap.size ≤ V.heap.size := hb0.size
  obtain ⟨p4, c4, e4, hk⟩ := (h.key.cell hM1 0 (.slice p2 ks.length c2)).cell hM1 1 (.slice p L.length c)
  rw [← e4] at hk
  refine ⟨⟨p2, c2, ks, p, c, L⟩, rfl, ⟨Kind.own_weak hk hwV, Kind.own_weak (own_cell (own_cell h.rng.row.own hM1 _ _) hM1 _ _) hwV, fun r hr => ⟨Kind.own_weak (own_cell (own_cell (h.rng.each r hr).1 hM1 _ _) hM1 _ _) hwV, (h.rng.each r hr).2⟩, h.rng.apart⟩, ?_, ?_⟩
  · rw [hmk]
    rfl
  · have hB := bel_then hb0 hb0.size h.bel
    exact (hB.setCell (p := ⟨M1, 0, none⟩) h0 _).setCell (p := ⟨M1, 1, none⟩) h0 _
end

/-- One range more, under way. -/
structure RqSt (V : World) (b : Nat) (kv : Value) (p : Option Addr) (c : Nat) (L : List Rx) (ks : List Ky) (rt : ByteArray) (rv : Value) (tm : List Tm) (Q : Nat) (k : Nat) (f : Bool) (t25 t27 t28 t29 t30 : Value) (w : World) : Prop where
  rm : k ≤ 2 → RmSt V b kv p c L ks w
  qb : w.heap[Q]? = some (.cells #[.string rt, rv] 34 (0, 0))
  f25 : f = true → t25 = .slice p L.length c
  o27 : 1 ≤ k → k ≤ 2 → ∃ p1 c1, t27 = .agg #[.string rt, .slice p1 tm.length c1] ∧ KM.Own V.heap.size w (.slice p1 tm.length c1) tm ∧ (∀ r ∈ L, ∀ j, r.sl.ownBlock = some j → ¬ (Value.slice p1 tm.length c1).ownBlock = some j) ∧ (k = 2 → ∃ B, t28 = .slice (some ⟨B, 0, none⟩) 1 1 ∧ w.heap[B]? = some (.cells #[.string rt, .slice p1 tm.length c1] 34 (0, 0)))
  m29 : 3 ≤ k → ∃ g c' x, x.rg = (rt, tm) ∧ t29 = .slice (some ⟨g, 0, none⟩) (L ++ [x]).length c' ∧ (k ≤ 4 → w.heap[b]? = some (.cells #[kv, .slice p L.length c] 25 (0, 0)) ∧ RmSt V b kv (some ⟨g, 0, none⟩) c' (L ++ [x]) ks (w.setCell ⟨b, 1, none⟩ (.slice (some ⟨g, 0, none⟩) (L ++ [x]).length c'))) ∧ (5 ≤ k → RmSt V b kv (some ⟨g, 0, none⟩) c' (L ++ [x]) ks w)
  p30 : 4 ≤ k → t30 = .pointer (some ⟨b, 1, none⟩)
  d25 : 3 ≤ k → f = true
section
variable {V : World} {b : Nat} {kv : Value} {p : Option Addr} {c : Nat} {L : List Rx} {ks : List Ky} {rt : ByteArray} {rv : Value} {tm : List Tm} {Q k : Nat} {f : Bool} {t25 t27 t28 t29 t30 : Value} {w w' : World}
theorem rq_start (h : RmSt V b kv p c L ks w) (hq : w.heap[Q]? = some (.cells #[.string rt, rv] 34 (0, 0))) (tm : List Tm) (t25 t27 t28 t29 t30 : Value) : RqSt V b kv p c L ks rt rv tm Q 0 false t25 t27 t28 t29 t30 w :=
  ⟨fun _ => h, hq, (fun h => by cases h), (fun h => by omega), (fun h => by omega), (fun h => by omega), (fun h => by omega)⟩
theorem rq_l1 (h : RqSt V b kv p c L ks rt rv tm Q k false t25 t27 t28 t29 t30 w) : RqSt V b kv p c L ks rt rv tm Q k true (.slice p L.length c) t27 t28 t29 t30 w :=
  ⟨h.rm, h.qb, fun _ => rfl, h.o27, h.m29, h.p30, fun _ => rfl⟩
theorem rq_c3 {p1 : Option Addr} {c1 : Nat} (h : RqSt V b kv p c L ks rt rv tm Q 0 f t25 t27 t28 t29 t30 w) (hb : Below w.heap.size w w') (ho : KM.Own w.heap.size w' (.slice p1 tm.length c1) tm) : RqSt V b kv p c L ks rt rv tm Q 1 f t25 (.agg #[.string rt, .slice p1 tm.length c1]) t28 t29 t30 w' :=
  ⟨fun _ => (h.rm (by omega)).on hb, blk_on h.qb hb, h.f25, fun _ _ => ⟨p1, c1, rfl, Kind.own_weak ho (h.rm (by omega)).bel.size, (h.rm (by omega)).rng.fresh (x := ⟨rt, p1, c1, tm⟩) ho, (fun h => by omega)⟩, (fun h => by omega), (fun h => by omega), (fun h => by omega)⟩
theorem rq_b4 {p1 : Option Addr} {c1 : Nat} (h : RqSt V b kv p c L ks rt rv tm Q 1 f t25 (.agg #[.string rt, .slice p1 tm.length c1]) t28 t29 t30 w) : RqSt V b kv p c L ks rt rv tm Q 2 f t25 (.agg #[.string rt, .slice p1 tm.length c1]) (.slice (some ⟨w.heap.size, 0, none⟩) 1 1) t29 t30 (w.alloc (.cells #[.string rt, .slice p1 tm.length c1] 34)) := by
  have hb := alloc_on w (.cells #[.string rt, .slice p1 tm.length c1] 34)
  obtain ⟨p2, c2, e, h1, h2, _⟩ := h.o27 (by omega) (by omega)
  have hp : Value.slice p1 tm.length c1 = .slice p2 tm.length c2 := by simpa using e
  refine ⟨fun _ => (h.rm (by omega)).on hb, blk_on h.qb hb, h.f25, fun _ _ => ⟨p1, c1, rfl, ?_, ?_, fun _ => ⟨_, rfl, heap_alloc_new w _⟩⟩, (fun h => by omega), (fun h => by omega), (fun h => by omega)⟩
  · rw [← hp] at h1
    exact Kind.own_on h1 hb
  · rw [← hp] at h2
    exact h2
theorem rq_a5 {g c' : Nat} {x : Rx} (h : RqSt V b kv p c L ks rt rv tm Q 2 true t25 t27 t28 t29 t30 w) (hx : x.rg = (rt, tm)) (hox : KM.Own V.heap.size w x.sl x.tm) (hf : FitP x.tm) (hfr : ∀ r ∈ L, ∀ j, r.sl.ownBlock = some j → ¬ x.sl.ownBlock = some j) (hqL : ∀ j, (Value.slice p L.length c).ownBlock = some j → j < Q)
    (hst : RowSt KRx V.heap.size V (.slice (some ⟨g, 0, none⟩) (L.length + 1) c') (L ++ [x]) w') (hg : w.grownBy w' (Value.slice p L.length c).ownBlock) : RqSt V b kv p c L ks rt rv tm Q 3 true t25 t27 t28 (.slice (some ⟨g, 0, none⟩) (L.length + 1) c') t30 w' := by
  have hr := h.rm (by omega)
  have hlen : (L ++ [x]).length = L.length + 1 := by simp
  have hm := hr.more (g := g) (c' := c') (x := x) hg (by rw [hlen]; exact hr.rng.push hox hf hfr hst hg)
  refine ⟨(fun h => by omega), ?_, h.f25, (fun _ h => by omega), fun _ => ⟨g, c', x, hx, by rw [hlen], fun _ => hm, (fun h => by omega)⟩, (fun h => by omega), fun _ => rfl⟩
  refine (hg.block Q (Array.getElem?_eq_some_iff.1 h.qb).1 fun e => ?_).trans h.qb
  have := hqL Q e.symm
  omega
theorem rq_p6 (h : RqSt V b kv p c L ks rt rv tm Q 3 f t25 t27 t28 t29 t30 w) : RqSt V b kv p c L ks rt rv tm Q 4 f t25 t27 t28 t29 (.pointer (some ⟨b, 1, none⟩)) w := by
  obtain ⟨g, c', x, h1, h2, h3, _⟩ := h.m29 (by omega)
  exact ⟨(fun h => by omega), h.qb, h.f25, (fun _ h => by omega), fun _ => ⟨g, c', x, h1, h2, fun _ => h3 (by omega), (fun h => by omega)⟩, fun _ => rfl, fun _ => h.d25 (by omega)⟩
theorem rq_s7 (h : RqSt V b kv p c L ks rt rv tm Q 4 f t25 t27 t28 t29 t30 w) (hbQ : b < Q) : RqSt V b kv p c L ks rt rv tm Q 5 f t25 t27 t28 t29 t30 (w.setCell ⟨b, 1, none⟩ t29) := by
  obtain ⟨g, c', x, h1, h2, h3, _⟩ := h.m29 (by omega)
  refine ⟨(fun h => by omega), ?_, h.f25, (fun _ h => by omega), fun _ => ⟨g, c', x, h1, h2, (fun h => by omega), fun _ => ?_⟩, fun _ => h.p30 (by omega), fun _ => h.d25 (by omega)⟩
  · rw [heap_setCell_other _ _ Q _ (by show Q ≠ b; omega)]
    exact h.qb
  · rw [h2]
    exact (h3 (by omega)).2
end

set_option maxHeartbeats 8000000 in
set_option maxRecDepth 100000 in
theorem mrange12_any (m : Mx) (r : Rx) (w : World) (hm : MIn w m) (hw : LotM m) (hr : r.at w) :
    Calls Try.prog 16 #[.agg (encMx m).toArray, .string r.typ, r.sl] w fun e w' => MOwnPost w (rangeM m.mk' r.rg) e w' := by
  obtain ⟨i0, hi0, hz0, hz1, hz2⟩ := info_parts infoRx12
  have HI0 := hid hi0
  obtain ⟨hbV, h1, h2, hs⟩ := two_boxes w (encMx m).toArray #[.slice none 0 0, .slice none 0 0] 25 25
  obtain ⟨V, hV⟩ : ∃ V, (w.alloc (.cells (encMx m).toArray 25)).alloc (.cells #[.slice none 0 0, .slice none 0 0] 25) = V := ⟨_, rfl⟩
  obtain ⟨M, hM⟩ : ∃ M, w.heap.size = M := ⟨_, rfl⟩
  rw [hV] at hbV h1 h2 hs
  rw [hM] at h1 h2 hs
  have w1 := hw.1
  have w2 := hw.2
  have HVD : Hid (∀ W', Below V.drew.heap.size V.drew W' → Below w.heap.size w W' ∧ (W'.cell? ⟨M, 0, none⟩ = some m.ksl ∧ W'.cell? ⟨M, 1, none⟩ = some m.rsl) ∧ W'.heap[M + 1]? = some (.cells #[.slice none 0 0, .slice none 0 0] 25 (0, 0))) := fun W' hW => by
    have e1 := (hW.block M (by show M < V.heap.size; omega)).trans h1
    exact ⟨bel_then hbV hbV.size ((bel_drewN (Below.refl _ V) 1).trans hW), ⟨by rw [Lib.cell_of_heap e1]; rfl, by rw [Lib.cell_of_heap e1]; rfl⟩, (hW.block (M + 1) (by show M + 1 < V.heap.size; omega)).trans h2⟩
  have HIN : Hid (∀ W', Below V.drew.heap.size V.drew W' → MIn W' m ∧ r.at W') := fun W' hW => ⟨hm.on (HVD.out W' hW).1, hr.on (HVD.out W' hW).1⟩
  have HCL : Hid (∀ W', Below V.drew.heap.size V.drew W' → Calls Try.prog 39 #[m.ksl] W' fun e w' => KeyRPost W' m.ks e w') := fun W' hW => cloneKy_any m.ksl m.ks W' (HIN.out W' hW).1.keys (by omega)
  have HCO : Hid (∀ W', Below V.drew.heap.size V.drew W' → Calls Try.prog 30 #[m.rsl] W' fun e w' => RgPost W' (m.rs.map Rx.rg) e w') := fun W' hW => mcopied12_any m.rsl m.rs W' (HIN.out W' hW).1.rows (HIN.out W' hW).1.each (by omega)
  have HHA : Hid (∀ W', Below V.drew.heap.size V.drew W' → Calls Try.prog 40 #[m.rsl, .agg (encRx r).toArray] W' fun e w' => e = .returned (.bool ((m.rs.map Rx.rg).any fun x => decide (x = r.rg))) ∧ Below W'.heap.size W' w') := fun W' hW => mhas12_any m.rsl m.rs r W' (HIN.out W' hW).1.rows (by omega) (HIN.out W' hW).1.each (HIN.out W' hW).2
  have HOW : Hid (∀ W', Below V.drew.heap.size V.drew W' → Calls Try.prog 41 #[.agg (encRx r).toArray] W' fun e w' => OwnPost W' r e w') := fun W' hW => mown12_any r W' (HIN.out W' hW).2
  have HBV : Hid (Below w.heap.size w V.drew) := (HVD.out V.drew (Below.refl _ _)).1
  have HF := hid hr.2
  obtain ⟨B, hB⟩ : ∃ B, ((m.rs.map Rx.rg).any fun x => decide (x = r.rg)) = B := ⟨_, rfl⟩
  rw [hB] at HHA
  have HRM : Hid (rangeM m.mk' r.rg = (m.ks, putR (m.rs.map Rx.rg) r.rg)) := rfl
  have HRL : Hid ((m.rs.map Rx.rg).length = m.rs.length) := by show _ = _; rw [List.length_map]
  have HBB := hid hB
  obtain ⟨⟨a0, a1⟩, _⟩ := (HVD.out V.drew (Below.refl _ _)).2
  have hsz : M + 1 < V.drew.heap.size := by show M + 1 < V.heap.size; omega
  clear hm hw hr hbV h1 h2 hi0 hB
  obtain ⟨kp, kc, ks, rp, rc, rs⟩ := m
  obtain ⟨rt, tp, tc, tm⟩ := r
  simp only [encMx, encRx, Mx.ksl, Mx.rsl, Rx.sl] at *
  generalize rangeM _ _ = RM at *
  generalize rs.map Rx.rg = rg at *
  obtain ⟨rr, hrr⟩ : ∃ rr, (⟨rt, tp, tc, tm⟩ : Rx).rg = rr := ⟨_, rfl⟩
  rw [hrr] at HRM HBB
  have HRR := hid hrr
  clear hrr
  go_enter Try.func16, Try.ntmps16
  go_wp2_with fail
  try rw [hV]
  try rw [hM]
  clear hV
  refine wp_region_held_drew (S := fun w' => w'.cell? ⟨M, 0, none⟩ = some (.slice kp ks.length kc) ∧ w'.cell? ⟨M, 1, none⟩ = some (.slice rp rs.length rc)) (by kernel_rfl) ⟨a0, a1⟩ (fun hHeld => ?_)
  refine take_val (i := 0) (.pointer (some ⟨M, 0, none⟩)) rfl (by kernel_rfl) (by kernel_rfl) (by kernel_rfl) (fun _ _ _ h => h) (by rfl) (fun w hSw => by go_simp) hHeld ?_
  simp only [Act.put, List.setIfInBounds_toArray, List.set_cons_zero, List.set_cons_succ]
  refine take_val (i := 1) (.slice kp ks.length kc) rfl (by kernel_rfl) (by kernel_rfl) (by kernel_rfl) (fun _ _ _ h => h) (by rfl) (fun w hSw => by go_simp) hHeld ?_
  simp only [Act.put, List.setIfInBounds_toArray, List.set_cons_zero, List.set_cons_succ]
  refine take_val (i := 3) (.pointer (some ⟨M, 1, none⟩)) rfl (by kernel_rfl) (by kernel_rfl) (by kernel_rfl) (fun _ _ _ h => h) (by rfl) (fun w hSw => by go_simp) hHeld ?_
  simp only [Act.put, List.setIfInBounds_toArray, List.set_cons_zero, List.set_cons_succ]
  refine take_val (i := 4) (.slice rp rs.length rc) rfl (by kernel_rfl) (by kernel_rfl) (by kernel_rfl) (fun _ _ _ h => h) (by rfl) (fun w hSw => by go_simp) hHeld ?_
  simp only [Act.put, List.setIfInBounds_toArray, List.set_cons_zero, List.set_cons_succ]
  clear hHeld a0 a1
  refine wpAnyH_floats [2, 5, 6, 8] [7] (fun a0 k fl a w' => ∃ t7 t11 t14 t15, a = putS a0 [(7, t7), (11, t11), (14, t14), (15, t15)] ∧ RnSt V.drew ks rg k (fl.headD false) t7 t11 t14 t15 w') (by kernel_rfl) (by decide) ⟨_, _, _, _, (putS_self _ [7, 11, 14, 15]).symm, rn_start _ _ _ _ _ _ _⟩ ?hS ?hmain ?halloc ?hend
  case hS =>
    rintro k fl a w' ⟨t7, t11, t14, t15, rfl, hst⟩
    exact (HVD.out w' hst.bel).2.1
  case hmain =>
    rintro k i' fl a w' hk hfl hrd ⟨t7, t11, t14, t15, rfl, hst⟩
    obtain ⟨f1, rfl⟩ : ∃ f1, fl = [f1] := by
      match fl, hfl with
      | [f1], _ => exact ⟨f1, rfl⟩
    simp only [List.headD_cons] at hst ⊢
    rcases k with _ | _ | _ | _ | k
    · obtain rfl : i' = 2 := by simpa using hk.symm
      have HC := hid (HCL.out w' hst.bel)
      have HST := hid hst
      clear hst hrd hk hfl
      refine ⟨_, at_drop0 rfl, fun K hK => ?_⟩
      simp only [putS, List.foldl_cons, List.foldl_nil, Act.put, List.setIfInBounds_toArray, List.set_cons_zero, List.set_cons_succ]
      rw [if_pos (by rfl)]
      go_simp
      refine HC.out.mono ?_
      rintro e w2 hp
      obtain ⟨u, rfl, ho, hb2⟩ := kyown_post hp
      have HS2 := hid (rn_c2 HST.out hb2 ho)
      clear hp ho hb2
      go_wp2_with fail
      exact hK.out _ _ ⟨t7, u, t14, t15, rfl, HS2.out⟩
    · obtain rfl : i' = 5 := by simpa using hk.symm
      have HC := hid (HCO.out w' hst.bel)
      have HST := hid hst
      clear hst hrd hk hfl
      refine ⟨_, at_drop0 rfl, fun K hK => ?_⟩
      simp only [putS, List.foldl_cons, List.foldl_nil, Act.put, List.setIfInBounds_toArray, List.set_cons_zero, List.set_cons_succ]
      rw [if_pos (by rfl)]
      go_simp
      refine HC.out.mono ?_
      rintro e w2 hp
      obtain ⟨u, rfl, ho, hb2⟩ := rgown_post hp
      have HS2 := hid (rn_c5 HST.out hb2 ho)
      clear hp ho hb2
      go_wp2_with fail
      exact hK.out _ _ ⟨t7, t11, u, t15, rfl, HS2.out⟩
    · obtain rfl : i' = 6 := by simpa using hk.symm
      obtain ⟨p1, c1, rfl, _⟩ := hst.k11 (by omega)
      obtain ⟨p2, c2, L2, rfl, _⟩ := hst.r14 (by omega)
      have HS2 := hid (rn_b6 hst)
      clear hst hrd hk hfl
      refine ⟨_, at_drop0 rfl, fun K hK => ?_⟩
      simp only [putS, List.foldl_cons, List.foldl_nil, Act.put, List.setIfInBounds_toArray, List.set_cons_zero, List.set_cons_succ]
      rw [if_pos (by rfl)]
      go_simp
      go_wp2_with fail
      exact hK.out _ _ ⟨t7, _, _, _, rfl, HS2.out⟩
    · obtain rfl : i' = 8 := by simpa using hk.symm
      cases f1 with
      | false => exact (not_ready hrd (by kernel_rfl)).elim
      | true =>
      obtain ⟨p1, c1, rfl, _⟩ := hst.k11 (by omega)
      obtain ⟨p2, c2, L2, rfl, _⟩ := hst.r14 (by omega)
      obtain rfl := hst.b15 (by omega)
      obtain ⟨b, rfl, _, hbx⟩ := hst.box0 rfl (by omega)
      have q0 : w'.cell? ⟨b, 0, none⟩ = some (.slice none 0 0) := by rw [Lib.cell_of_heap hbx]; rfl
      have q1 : w'.cell? ⟨b, 1, none⟩ = some (.slice none 0 0) := by rw [Lib.cell_of_heap hbx]; rfl
      have r0 : w'.frozen? ⟨b, 0, none⟩ = false := Lib.frozen_of_heap hbx 0
      have r1 : w'.frozen? ⟨b, 1, none⟩ = false := Lib.frozen_of_heap hbx 1
      have HS2 := hid (rn_s8 hst)
      clear hst hrd hk hfl hbx
      refine ⟨_, at_drop0 rfl, fun K hK => ?_⟩
      simp only [putS, List.foldl_cons, List.foldl_nil, Act.put, List.setIfInBounds_toArray, List.set_cons_zero, List.set_cons_succ]
      rw [if_pos (by rfl)]
      go_simp
      go_wp2_with fail
      exact hK.out _ _ ⟨_, _, _, _, rfl, HS2.out⟩
    · simp at hk
  case halloc =>
    rintro j i' k fl a w' hj hk hfl hf ⟨t7, t11, t14, t15, rfl, hst⟩
    obtain ⟨f1, rfl⟩ : ∃ f1, fl = [f1] := by
      match fl, hfl with
      | [f1], _ => exact ⟨f1, rfl⟩
    rcases j with _ | j
    · obtain rfl : i' = 7 := by simpa using hj.symm
      obtain rfl : f1 = false := by simpa using hf
      simp only [List.headD_cons, List.set_cons_zero] at hst ⊢
      have HS2 := hid (rn_a7 hst)
      clear hst hf hj hk hfl
      refine ⟨_, at_drop0 rfl, fun K hK => ?_⟩
      simp only [putS, List.foldl_cons, List.foldl_nil, Act.put, List.setIfInBounds_toArray, List.set_cons_zero, List.set_cons_succ]
      rw [if_pos (by rfl)]
      go_simp
      go_wp2_with fail
      exact hK.out _ _ ⟨_, t11, t14, t15, rfl, HS2.out⟩
    · simp at hj
  case hend =>
    rintro a w3 ⟨t7, t11, t14, t15, rfl, hst⟩
    obtain ⟨p2, c2, rfl, _⟩ := hst.k11 (by decide)
    obtain ⟨p3, c3, L3, rfl, ho3, he3, ha3, hm3⟩ := hst.r14 (by decide)
    obtain ⟨b, rfl, hge, hbx⟩ := hst.box4 (by decide)
    have hrm : RmSt V.drew b (.slice p2 ks.length c2) p3 c3 L3 ks w3 := ⟨hge, hbx, hst.k11 (by decide), ⟨⟨ho3, hst.bel, hst.bel.size⟩, he3, ha3⟩⟩
    obtain ⟨Q, hQ⟩ : ∃ Q, w3.heap.size = Q := ⟨_, rfl⟩
    have hL3 : L3.length ≤ 3518437208800 := by
      have h1 := congrArg List.length hm3
      rw [List.length_map, HRL.out] at h1
      omega
    have hbQ : b < Q := by rw [← hQ]; exact (Array.getElem?_eq_some_iff.1 hbx).1
    have HQL : Hid (∀ j, (Value.slice p3 L3.length c3).ownBlock = some j → j < Q) := fun j hj => by rw [← hQ]; exact (World.ownsRow.lt (show w3.ownsRow V.drew.heap.size KRx.T KRx.k (.slice p3 L3.length c3) L3.length (KRx.cells L3) from ho3) j hj).2
    obtain ⟨W4, hW4⟩ : ∃ W4, w3.alloc (.cells #[.string rt, .slice tp tm.length tc] 34) = W4 := ⟨_, rfl⟩
    have hb4 : Below w3.heap.size w3 W4 := by rw [← hW4]; exact alloc_on _ _
    have hn4 : W4.heap[Q]? = some (.cells #[.string rt, .slice tp tm.length tc] 34 (0, 0)) := by rw [← hW4, ← hQ]; exact heap_alloc_new w3 _
    have hR4 := hrm.on hb4
    have HR4 := hid hR4
    have HH := hid (HHA.out W4 hR4.bel)
    obtain ⟨_, x1⟩ := (HVD.out W4 hR4.bel).2.1
    have y0 : W4.cell? ⟨Q, 0, none⟩ = some (.string rt) := by rw [Lib.cell_of_heap hn4]; rfl
    have y1 : W4.cell? ⟨Q, 1, none⟩ = some (.slice tp tm.length tc) := by rw [Lib.cell_of_heap hn4]; rfl
    have HN4 := hid hn4
    have HM3 := hid hm3
    clear hst hrm hbx hge hb4 hn4 hR4 ho3 he3 ha3 hm3
    simp only [putS, List.foldl_cons, List.foldl_nil, Act.put, List.setIfInBounds_toArray, List.set_cons_zero, List.set_cons_succ]
    go_upto_region 3 with fail
    try rw [hQ]
    try rw [hW4]
    clear hW4 hQ
    cases B with
    | true =>
      have HP := hid (putR_in HBB.out)
      go_wp2_with fail
      refine HH.out.mono ?_
      rintro e w5 ⟨rfl, hb5⟩
      have hR5 := HR4.out.on hb5
      have f0 : w5.cell? ⟨b, 0, none⟩ = some (.slice p2 ks.length c2) := by rw [Lib.cell_of_heap hR5.box]; rfl
      have f1 : w5.cell? ⟨b, 1, none⟩ = some (.slice p3 L3.length c3) := by rw [Lib.cell_of_heap hR5.box]; rfl
      have hx5 := (HVD.out w5 hR5.bel).2.2
      have q0 : w5.cell? ⟨M + 1, 0, none⟩ = some (.slice none 0 0) := by rw [Lib.cell_of_heap hx5]; rfl
      have q1 : w5.cell? ⟨M + 1, 1, none⟩ = some (.slice none 0 0) := by rw [Lib.cell_of_heap hx5]; rfl
      have r0 : w5.frozen? ⟨M + 1, 0, none⟩ = false := Lib.frozen_of_heap hx5 0
      have r1 : w5.frozen? ⟨M + 1, 1, none⟩ = false := Lib.frozen_of_heap hx5 1
      have HPO : Hid (MOwnPost w RM (.returned (.agg #[.slice p2 ks.length c2, .slice p3 L3.length c3])) ((w5.setCell ⟨M + 1, 0, none⟩ (.slice p2 ks.length c2)).setCell ⟨M + 1, 1, none⟩ (.slice p3 L3.length c3))) := hR5.post HBV.out (by omega) hsz (by rw [HRM.out, HP.out, HM3.out])
      obtain ⟨W6, hW6⟩ : ∃ W6, (w5.setCell ⟨M + 1, 0, none⟩ (.slice p2 ks.length c2)).setCell ⟨M + 1, 1, none⟩ (.slice p3 L3.length c3) = W6 := ⟨_, rfl⟩
      rw [hW6] at HPO
      have g0 : W6.cell? ⟨M + 1, 0, none⟩ = some (.slice p2 ks.length c2) := by rw [← hW6]; simp [go_sem, q0]
      have g1 : W6.cell? ⟨M + 1, 1, none⟩ = some (.slice p3 L3.length c3) := by rw [← hW6]; simp [go_sem, q1]
      have HG := hid (And.intro g0 g1)
      clear hb5 hR5 hx5 x1 y0 y1 HH g0 g1
      go_wp2_with fail
      try rw [hW6]
      obtain ⟨g0, g1⟩ := HG.out
      exact bodyPost_ret (v := .agg #[.slice p2 ks.length c2, .slice p3 L3.length c3]) (by simp [results, Try.results16, go_sem, g0, g1]) rfl HPO.out
    | false =>
      have HP := hid (putR_out HBB.out)
      go_wp2_with fail
      refine HH.out.mono ?_
      rintro e w5 ⟨rfl, hb5⟩
      have hR5 := HR4.out.on hb5
      have hn5 := blk_on HN4.out hb5
      have z0 : w5.drew.cell? ⟨Q, 0, none⟩ = some (.string rt) := by rw [Lib.cell_of_heap (show w5.drew.heap[Q]? = _ from hn5)]; rfl
      have z1 : w5.drew.cell? ⟨Q, 1, none⟩ = some (.slice tp tm.length tc) := by rw [Lib.cell_of_heap (show w5.drew.heap[Q]? = _ from hn5)]; rfl
      have HR5 : Hid (RmSt V.drew b (.slice p2 ks.length c2) p3 c3 L3 ks w5.drew) := hR5.on (bel_drewN (Below.refl _ _) 1)
      have HN5 : Hid (w5.drew.heap[Q]? = some (.cells #[.string rt, .slice tp tm.length tc] 34 (0, 0))) := hn5
      clear hb5 hR5 hn5 HH x1 y0 y1 HR4 HN4
      go_wp2_with fail
      refine wp_region_held_drew (S := fun w' => w'.cell? ⟨Q, 0, none⟩ = some (.string rt) ∧ w'.cell? ⟨Q, 1, none⟩ = some (.slice tp tm.length tc)) (by kernel_rfl) ⟨z0, z1⟩ (fun hHeld => ?_)
      refine take_val (i := 0) (.pointer (some ⟨b, 1, none⟩)) rfl (by kernel_rfl) (by kernel_rfl) (by kernel_rfl) (fun _ _ _ h => h) (by rfl) (fun w hSw => by go_simp) hHeld ?_
      simp only [Act.put, List.setIfInBounds_toArray, List.set_cons_zero, List.set_cons_succ]
      refine take_val (i := 2) (.agg #[.string rt, .slice tp tm.length tc]) rfl (by kernel_rfl) (by kernel_rfl) (by kernel_rfl) (fun _ _ _ h => h) (by rfl) (fun w hSw => by go_simp) hHeld ?_
      simp only [Act.put, List.setIfInBounds_toArray, List.set_cons_zero, List.set_cons_succ]
      clear hHeld z0 z1
      refine wpAnyH_floats [3, 4, 5, 6, 7] [1] (fun a0 k fl a w' => ∃ t25 t27 t28 t29 t30, a = putS a0 [(25, t25), (27, t27), (28, t28), (29, t29), (30, t30)] ∧ RqSt V.drew b (.slice p2 ks.length c2) p3 c3 L3 ks rt (.slice tp tm.length tc) tm Q k (fl.headD false) t25 t27 t28 t29 t30 w') (by kernel_rfl) (by decide) ⟨_, _, _, _, _, (putS_self _ [25, 27, 28, 29, 30]).symm, rq_start HR5.out HN5.out tm _ _ _ _ _⟩ ?hS ?hmain ?halloc ?hend
      case hS =>
        rintro k fl a w' ⟨t25, t27, t28, t29, t30, rfl, hst⟩
        exact ⟨by rw [Lib.cell_of_heap hst.qb]; rfl, by rw [Lib.cell_of_heap hst.qb]; rfl⟩
      case hmain =>
        rintro k i' fl a w' hk hfl hrd ⟨t25, t27, t28, t29, t30, rfl, hst⟩
        obtain ⟨f1, rfl⟩ : ∃ f1, fl = [f1] := by
          match fl, hfl with
          | [f1], _ => exact ⟨f1, rfl⟩
        simp only [List.headD_cons] at hst ⊢
        rcases k with _ | _ | _ | _ | _ | k
        · obtain rfl : i' = 3 := by simpa using hk.symm
          have HC := hid (HOW.out w' (hst.rm (by omega)).bel)
          have HST := hid hst
          clear hst hrd hk hfl
          refine ⟨_, at_drop0 rfl, fun K hK => ?_⟩
          simp only [putS, List.foldl_cons, List.foldl_nil, Act.put, List.setIfInBounds_toArray, List.set_cons_zero, List.set_cons_succ]
          rw [if_pos (by rfl)]
          go_simp
          refine HC.out.mono ?_
          rintro e w6 ⟨p1, c1, rfl, ho6, hb6⟩
          have HS2 := hid (rq_c3 HST.out hb6 ho6)
          simp only at ho6 ⊢
          clear ho6 hb6
          go_wp2_with fail
          exact hK.out _ _ ⟨t25, _, t28, t29, t30, rfl, HS2.out⟩
        · obtain rfl : i' = 4 := by simpa using hk.symm
          obtain ⟨p1, c1, rfl, _⟩ := hst.o27 (by omega) (by omega)
          have HS2 := hid (rq_b4 hst)
          clear hst hrd hk hfl
          refine ⟨_, at_drop0 rfl, fun K hK => ?_⟩
          simp only [putS, List.foldl_cons, List.foldl_nil, Act.put, List.setIfInBounds_toArray, List.set_cons_zero, List.set_cons_succ]
          rw [if_pos (by rfl)]
          go_simp
          go_wp2_with fail
          exact hK.out _ _ ⟨t25, _, _, t29, t30, rfl, HS2.out⟩
        · obtain rfl : i' = 5 := by simpa using hk.symm
          cases f1 with
          | false => exact (not_ready hrd (by kernel_rfl)).elim
          | true =>
          obtain rfl := hst.f25 rfl
          obtain ⟨p1, c1, rfl, hox, hfr, hB⟩ := hst.o27 (by omega) (by omega)
          obtain ⟨BB, rfl, hBB⟩ := hB rfl
          have HBB2 := hid hBB
          have HRW := hid (hst.rm (by omega)).rng.row
          have HPU : Hid (∀ g c' w'', RowSt KRx V.drew.heap.size V.drew (.slice (some ⟨g, 0, none⟩) (L3.length + 1) c') (L3 ++ [⟨rt, p1, c1, tm⟩]) w'' → w'.grownBy w'' (Value.slice p3 L3.length c3).ownBlock → RqSt V.drew b (.slice p2 ks.length c2) p3 c3 L3 ks rt (.slice tp tm.length tc) tm Q 3 true (.slice p3 L3.length c3) (.agg #[.string rt, .slice p1 tm.length c1]) (.slice (some ⟨BB, 0, none⟩) 1 1) (.slice (some ⟨g, 0, none⟩) (L3.length + 1) c') t30 w'') := fun g c' w'' h1 h2 => rq_a5 (x := ⟨rt, p1, c1, tm⟩) hst rfl hox HF.out hfr HQL.out h1 h2
          clear hst hrd hk hfl hox hfr hB hBB
          refine ⟨_, at_drop0 rfl, fun K hK => ?_⟩
          simp only [putS, List.foldl_cons, List.foldl_nil, Act.put, List.setIfInBounds_toArray, List.set_cons_zero, List.set_cons_succ]
          rw [if_pos (by rfl)]
          refine wp_push KRx rfl _ _ 23 rfl i0 _ 40 Try.underlying23 HI0.out hz0 hz1 hz2 rfl V.drew.heap.size V.drew (.slice p3 L3.length c3) L3 rfl HRW.out ⟨rt, p1, c1, tm⟩ BB _ _ rfl rfl _ _ HBB2.out (by unfold maxLen; omega) (by omega) ?_
          intro g8 c8 w8 hst8 hg8 _
          exact hK.out _ _ ⟨_, _, _, _, t30, rfl, HPU.out g8 c8 w8 hst8 hg8⟩
        · obtain rfl : i' = 6 := by simpa using hk.symm
          have HS2 := hid (rq_p6 hst)
          clear hst hrd hk hfl
          refine ⟨_, at_drop0 rfl, fun K hK => ?_⟩
          simp only [putS, List.foldl_cons, List.foldl_nil, Act.put, List.setIfInBounds_toArray, List.set_cons_zero, List.set_cons_succ]
          rw [if_pos (by rfl)]
          go_simp
          go_wp2_with fail
          exact hK.out _ _ ⟨t25, t27, t28, t29, _, rfl, HS2.out⟩
        · obtain rfl : i' = 7 := by simpa using hk.symm
          obtain ⟨g, c', x, _, rfl, h3, _⟩ := hst.m29 (by omega)
          obtain rfl := hst.p30 (by omega)
          have hbx := (h3 (by omega)).1
          have q1 : w'.cell? ⟨b, 1, none⟩ = some (.slice p3 L3.length c3) := by rw [Lib.cell_of_heap hbx]; rfl
          have r1 : w'.frozen? ⟨b, 1, none⟩ = false := Lib.frozen_of_heap hbx 1
          have HS2 := hid (rq_s7 hst hbQ)
          clear hst hrd hk hfl hbx h3
          refine ⟨_, at_drop0 rfl, fun K hK => ?_⟩
          simp only [putS, List.foldl_cons, List.foldl_nil, Act.put, List.setIfInBounds_toArray, List.set_cons_zero, List.set_cons_succ]
          rw [if_pos (by rfl)]
          generalize (L3 ++ [x]).length = LL at *
          go_simp
          go_wp2_with fail
          exact hK.out _ _ ⟨t25, t27, t28, _, _, rfl, HS2.out⟩
        · simp at hk
      case halloc =>
        rintro j i' k fl a w' hj hk hfl hf ⟨t25, t27, t28, t29, t30, rfl, hst⟩
        obtain ⟨f1, rfl⟩ : ∃ f1, fl = [f1] := by
          match fl, hfl with
          | [f1], _ => exact ⟨f1, rfl⟩
        rcases j with _ | j
        · obtain rfl : i' = 1 := by simpa using hj.symm
          obtain rfl : f1 = false := by simpa using hf
          simp only [List.headD_cons, List.set_cons_zero] at hst ⊢
          have hk3 : ¬ 3 ≤ k := fun h => by have := hst.d25 h; cases this
          have hbx := (hst.rm (by omega)).box
          have f1 : w'.cell? ⟨b, 1, none⟩ = some (.slice p3 L3.length c3) := by rw [Lib.cell_of_heap hbx]; rfl
          have HS2 := hid (rq_l1 hst)
          clear hst hf hj hk hfl hbx hk3
          refine ⟨_, at_drop0 rfl, fun K hK => ?_⟩
          simp only [putS, List.foldl_cons, List.foldl_nil, Act.put, List.setIfInBounds_toArray, List.set_cons_zero, List.set_cons_succ]
          rw [if_pos (by rfl)]
          go_simp
          go_wp2_with fail
          exact hK.out _ _ ⟨_, t27, t28, t29, t30, rfl, HS2.out⟩
        · simp at hj
      case hend =>
        rintro a w8 ⟨t25, t27, t28, t29, t30, rfl, hst⟩
        obtain ⟨g, c', x, hxr, rfl, _, h5⟩ := hst.m29 (by decide)
        have hR8 := h5 (by decide)
        have f0 : w8.cell? ⟨b, 0, none⟩ = some (.slice p2 ks.length c2) := by rw [Lib.cell_of_heap hR8.box]; rfl
        have f1 : w8.cell? ⟨b, 1, none⟩ = some (.slice (some ⟨g, 0, none⟩) (L3 ++ [x]).length c') := by rw [Lib.cell_of_heap hR8.box]; rfl
        have hx8 := (HVD.out w8 hR8.bel).2.2
        have q0 : w8.cell? ⟨M + 1, 0, none⟩ = some (.slice none 0 0) := by rw [Lib.cell_of_heap hx8]; rfl
        have q1 : w8.cell? ⟨M + 1, 1, none⟩ = some (.slice none 0 0) := by rw [Lib.cell_of_heap hx8]; rfl
        have r0 : w8.frozen? ⟨M + 1, 0, none⟩ = false := Lib.frozen_of_heap hx8 0
        have r1 : w8.frozen? ⟨M + 1, 1, none⟩ = false := Lib.frozen_of_heap hx8 1
        have HPO : Hid (MOwnPost w RM (.returned (.agg #[.slice p2 ks.length c2, .slice (some ⟨g, 0, none⟩) (L3 ++ [x]).length c'])) ((w8.setCell ⟨M + 1, 0, none⟩ (.slice p2 ks.length c2)).setCell ⟨M + 1, 1, none⟩ (.slice (some ⟨g, 0, none⟩) (L3 ++ [x]).length c'))) := hR8.post HBV.out (by omega) hsz (by rw [HRM.out, HP.out, List.map_append, HM3.out, ← HRR.out]; show _ = (ks, rg ++ [x.rg]); rw [hxr]; rfl)
        generalize (L3 ++ [x]).length = LL at *
        obtain ⟨W6, hW6⟩ : ∃ W6, (w8.setCell ⟨M + 1, 0, none⟩ (.slice p2 ks.length c2)).setCell ⟨M + 1, 1, none⟩ (.slice (some ⟨g, 0, none⟩) LL c') = W6 := ⟨_, rfl⟩
        rw [hW6] at HPO
        have g0 : W6.cell? ⟨M + 1, 0, none⟩ = some (.slice p2 ks.length c2) := by rw [← hW6]; simp [go_sem, q0]
        have g1 : W6.cell? ⟨M + 1, 1, none⟩ = some (.slice (some ⟨g, 0, none⟩) LL c') := by rw [← hW6]; simp [go_sem, q1]
        have HG := hid (And.intro g0 g1)
        clear hst h5 hR8 hx8 g0 g1 hxr
        simp only [putS, List.foldl_cons, List.foldl_nil, Act.put, List.setIfInBounds_toArray, List.set_cons_zero, List.set_cons_succ]
        go_wp2_with fail
        try rw [hW6]
        obtain ⟨g0, g1⟩ := HG.out
        exact bodyPost_ret (v := .agg #[.slice p2 ks.length c2, .slice (some ⟨g, 0, none⟩) LL c']) (by simp [results, Try.results16, go_sem, g0, g1]) rfl HPO.out

end Go.Proofs.Ythdakljoabbghaa

/-
  Package marks (stage 12): its calls, all together.
-/
namespace Go.Proofs.Ythdakljoabbghaa
open Go.RowKit

theorem theMarks : MarksApi where
  key W m k hm hw _ _ := mkey12_any m k W hm hw
  range W m r hm hw hr := mrange12_any m r W hm hw hr
  union W a b ha hb wa wb _ _ := munion12_any a b W ha hb wa wb
  touches W r c hr hc := mtouches12_any r c W hr hc
  hits W m v l hm hw hv hl := mhits12_any' m v l W hm hw hv hl
  which W m v l hm hw hv hl := mwhich12_any m v l W hm hw hv hl
  equal W a b ha hb la lb := mequal12_any a b W ha hb la lb

end Go.Proofs.Ythdakljoabbghaa
