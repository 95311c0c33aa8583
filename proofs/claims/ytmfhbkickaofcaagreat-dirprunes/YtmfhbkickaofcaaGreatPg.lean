/-
  Texts of this claim, one behind the other: Dou Dsm Dpw.
-/
import Derived.Test.YtmfhbkickaofcaaGreatPf
import Derived.Test.YtmfhbkickaofcaaGreatPe
/-
  What rows of stage 7 open a stamp by.
-/
namespace Go.Proofs.YtmfhbkickaofcaaGreat
open Go.ChangeShapes Go.WideShapes Go.ChangeAt Go.RowKit Go.Lib Go.Deep Go.Joins

set_option maxRecDepth 100000 in
theorem open_u64Y {H : Type} {enc : TypeId × Value → H} {W : World} {b0 : Nat} {v : Value} {d : DataW H} {p : List MemPlace}
    (hv : Value.okWide Tryz.prog W .any b0 32 v) (h : DataW.Trod enc Tryz.prog W 0 (fun _ => true) true 32 v d p) : ∃ t, v = .int .u64 t ∧ 0 ≤ t ∧ t ≤ 18446744073709551615 := by
  obtain ⟨n, rfl, _, _, hw⟩ := open_int Tryz.underlying32 hv h
  have hws : 0 ≤ n ∧ n ≤ 18446744073709551615 := by
    simp only [Lit.wf, IntKind.min, IntKind.max, IntKind.signed, IntKind.bits] at hw
    simpa using hw
  exact ⟨n, rfl, hws.1, hws.2⟩

end Go.Proofs.YtmfhbkickaofcaaGreat

/-
  The laws of stage 7: two answers held against each other.
-/
namespace Go.Proofs.YtmfhbkickaofcaaGreat
open Go.RowKit

theorem val_atJ {w : World} {x : Vx} {N : Nat} (h : OwnJ N w x.sl x.o) : x.at w := h.1.is

theorem sameF_true {W1 w1 W2 w2 : World} {l : List Fnd} {u1 u2 : Value} (h1 : FdPost W1 l (.returned u1) w1) (hb : Below w1.heap.size w1 w2) (h2 : FdPost W2 l (.returned u2) w2) (hl : l.length ≤ 2400000000000) :
    Calls Tryz.prog 14 #[u1, u2] w2 fun r w' => r = .returned (.bool true) ∧ Below w2.heap.size w2 w' := by
  obtain ⟨v1, d, e1, a1, a2, a3, _⟩ := h1
  obtain ⟨v2, e, e2, b1, b2, b3, _⟩ := h2
  injection e1 with e1
  injection e2 with e2
  subst e1 e2
  have hdl : d.length ≤ 2400000000000 := by
    have := congrArg List.length a3
    rw [List.length_map] at this
    omega
  have := sameFd_any u1 u2 d e w2 (Kind.own_is (Kind.own_on a1 hb)) (Kind.own_is b1) (fun x hx => ⟨val_atJ ((a2 x hx).1.on hb), (may_fit (a2 x hx).2).1⟩) (fun x hx => ⟨val_atJ (b2 x hx).1, (may_fit (b2 x hx).2).1⟩) (by unfold maxLen; omega)
  rw [decide_eq_true (a3.trans b3.symm)] at this
  exact this

theorem sameK_true {N1 N2 : Nat} {w1 w2 : World} {l : List Ky} {u1 u2 : Value} (h1 : KK.Own N1 w1 u1 l) (hb : Below w1.heap.size w1 w2) (h2 : KK.Own N2 w2 u2 l) (hl : l.length ≤ 2400000000000) :
    Calls Tryz.prog 21 #[u1, u2] w2 fun r w' => r = .returned (.bool true) ∧ Below w2.heap.size w2 w' := by
  have := Z.zsame_any u1 u2 l l w2 (Z.Own.is (z_own.2 (Kind.own_on h1 hb))) (Z.Own.is (z_own.2 h2)) (by unfold maxLen; omega) (by unfold maxLen; omega)
  refine this.mono ?_
  rintro e w' ⟨rfl, n, rfl⟩
  exact ⟨by rw [decide_eq_true rfl], bel_drewN (Below.refl _ _) n⟩

theorem sameVs_true {W1 w1 W2 w2 : World} {l : List Vr} {u1 u2 : Value} (h1 : AllPost W1 l (.returned u1) w1) (hb : Below w1.heap.size w1 w2) (h2 : AllPost W2 l (.returned u2) w2) (hm : ∀ v ∈ l, mayB v.val = true) (hl : l.length ≤ 2400000000000) :
    Calls Tryz.prog 23 #[u1, u2] w2 fun r w' => r = .returned (.bool true) ∧ Below w2.heap.size w2 w' := by
  obtain ⟨v1, o1, e1, t1, _⟩ := all_told h1
  obtain ⟨v2, o2, e2, t2, _⟩ := all_told h2
  injection e1 with e1
  injection e2 with e2
  subst e1 e2
  have t1' := t1.on hb
  have := sameVs_any u1 u2 o1 o2 w2 (Kind.own_is t1'.own) (Kind.own_is t2.own) (t1'.fits hm) (t2.fits hm) (by have := t1.len; unfold maxLen; omega)
  rw [decide_eq_true (t1'.ver.trans t2.ver.symm)] at this
  exact this

/-- Two versions in boxes. -/
theorem sameV_true {x y : Vx} {o : Option Vr} {w : World} {N M : Nat} (hx : x.ver = o.getD zeroV) (hy : y.ver = o.getD zeroV) (jx : OwnJ N w x.sl x.o) (jy : OwnJ M w y.sl y.o) (hm : ∀ v, o = some v → mayB v.val = true) :
    Calls Tryz.prog 27 #[.agg (encVx x).toArray, .agg (encVx y).toArray] w fun e w' => e = .returned (.bool true) ∧ Below w.heap.size w w' := by
  have := sameV_any x y w jx.1.is jy.1.is (vans_fit hx hm) (vans_fit hy hm)
  rw [decide_eq_true (hx.trans hy.symm)] at this
  exact this

theorem log_same {A B : List RowD} (hA : OkD A) {typ : ByteArray} {t : Int} (he : sinceD B typ t = sinceD A typ t) {W1 w1 W2 w2 : World} {u1 u2 : Value} (h1 : LogPost W1 A typ t (.returned u1) w1) (hb : Below w1.heap.size w1 w2) (h2 : LogPost W2 B typ t (.returned u2) w2) (hl : (sinceD A typ t).length ≤ 2400000000000) :
    Calls Tryz.prog 14 #[u1, u2] w2 fun r w' => r = .returned (.bool true) ∧ Below w2.heap.size w2 w' := by
  obtain ⟨r1, a1, a2, a3⟩ := h1
  obtain ⟨r2, b1, b2, b3⟩ := h2
  rw [he] at b2
  obtain rfl := log_uniq hA a2 b2 a3 b3
  exact sameF_true a1 hb b1 (by rw [a2.length_eq]; exact hl)

end Go.Proofs.YtmfhbkickaofcaaGreat

/-
  The laws of stage 7: DirPrunes, walked.
-/
namespace Go.Proofs.YtmfhbkickaofcaaGreat
open Go.RowKit

/-- What all of the law's rounds read: two directories, the one pruned at f. -/
structure PrAt (na nb ga gb n : Nat) (A : List RowD) (f : Int) (W : World) : Prop where
  a : DirS na ga n A W
  b : DirS nb gb n (pruneD A f) W

theorem PrAt.on {na nb ga gb n : Nat} {A : List RowD} {f : Int} {W W' : World} (h : PrAt na nb ga gb n A f W) (hb : Below W.heap.size W W') : PrAt na nb ga gb n A f W' := ⟨h.a.on hb, h.b.on hb⟩

theorem scan_len {D : List RowD} (h : OkD D) (typ : ByteArray) (t : Int) (P : List Fld → Bool) : (scanD D typ t P).length ≤ countD D := by
  have h1 : (scanD D typ t P).length ≤ (walkD D t).length := List.length_filter_le _ _
  have h2 : (walkD D t).length ≤ D.length := List.length_filterMap_le _ _
  have := dir_len h
  omega
theorem since_len {D : List RowD} (h : OkD D) (typ : ByteArray) (t : Int) : (sinceD D typ t).length ≤ countD D := by
  rw [← sinceL_keys h t typ]
  exact sinceL_len h t (keysD_nodup h typ) fun k hk => keysD_there h hk
theorem of_len {D : List RowD} (h : OkD D) (k : Ky) : (ofD D k).length ≤ countD D := by
  rcases ofD_or D k with ⟨_, e⟩ | hm
  · rw [e]; exact Nat.zero_le _
  · have := seen_some h List.length (seen := [k]) (by simp) (fun x hx => by
      rw [List.mem_singleton] at hx
      subst hx
      exact (h.ok _ hm).2)
    simpa [countD] using this

set_option maxHeartbeats 16000000 in
set_option maxRecDepth 100000 in
theorem prunes7_any (v : Value) (ops : List Oy) (f over : Int) (w : World) (hv : KY.Is w v ops) (hx : ∀ x ∈ ops, OpY w x) (hl : ops.length ≤ 1200000000000) (hf0 : 0 ≤ f) (hf1 : f ≤ 18446744073709551615) (ho0 : 0 ≤ over) (ho1 : over ≤ 18446744073709551615) :
    Calls Tryz.prog 4 #[v, .int .u64 f, .int .u64 over] w fun e w' => e = .returned (.bool true) ∧ Below w.heap.size w w' := by
  have HV := hid hv
  obtain ⟨p, cap, rfl, hd⟩ := hv
  have HD := hid hd
  have HX := hid hx
  obtain ⟨N, hN⟩ : ∃ N, w.heap.size = N := ⟨_, rfl⟩
  have HFX := hid (fixedD_any w)
  rw [hN] at HFX
  rw [hN]
  clear hd hx
  go_enter Tryz.func4, Tryz.ntmps4
  go_wp2_with fail
  refine HFX.out.mono ?_
  rintro e w2 ⟨rfl, hb2⟩
  have hb2' : Below w.heap.size w w2 := by rw [hN]; exact hb2
  have HLA := hid (laidD_any _ ops w2 (Kind.is_kept HV.out hb2') (fun x hx => (HX.out x hx).on hb2') hl)
  have HB2 := hid hb2
  have hs2 := hb2.size
  clear hb2 hb2' HFX
  go_wp2_with fail
  refine HLA.out.mono ?_
  rintro e w3 ⟨ga, rfl, hA3, hb3⟩
  have hb3' : Below w.heap.size w w3 := by rw [hN]; exact HB2.out.trans (hb3.mono (by omega))
  have HLB := hid (laidD_any _ ops w3 (Kind.is_kept HV.out hb3') (fun x hx => (HX.out x hx).on hb3') hl)
  have HA3 := hid hA3
  have HB3 := hid hb3'
  have hs3 := hb3'.size
  clear hA3 hb3 hb3' HLA HB2
  go_wp2_with fail
  refine HLB.out.mono ?_
  rintro e w4 ⟨gb, rfl, hB4, hb4⟩
  obtain ⟨A, hA⟩ : ∃ A, laidD ops = A := ⟨_, rfl⟩
  rw [hA] at HA3 hB4
  have HPR := hid (s_prune hB4 (by omega) f)
  have HA4 := hid (HA3.out.on hb4)
  have HB4 := hid hb4
  have hs4 := hb4.size
  obtain ⟨gn, hgn⟩ : ∃ gn, goneD A f = gn := ⟨_, rfl⟩
  have hcnt := pruneD_count A f
  have hfew := HA3.out.few
  rw [hgn] at hcnt HPR
  clear hB4 hb4 HLB hA
  go_wp2_with fail
  refine HPR.out.mono ?_
  rintro e w5 ⟨rfl, hB5, hb5⟩
  have hA5 : DirS w2.heap.size ga ops.length A w5 := HA3.out.on (HB4.out.trans hb5)
  have HAT5 : Hid (PrAt w2.heap.size w3.heap.size ga gb ops.length A f w5) := ⟨hA5, hB5⟩
  have HB5 : Hid (Below w.heap.size w w5) := HB3.out.trans ((HB4.out.trans hb5).mono hs3)
  have HCA := hid (s_count hA5 (by omega))
  obtain ⟨ca, hca⟩ : ∃ ca, countD A = ca := ⟨_, rfl⟩
  obtain ⟨cb, hcb⟩ : ∃ cb, countD (pruneD A f) = cb := ⟨_, rfl⟩
  rw [hca, hcb] at hcnt
  rw [hca] at HCA hfew
  have z1 : ¬ (gn : Int) < 0 := by omega
  have z2 : IntKind.i64.wrap ((ca : Int) - (gn : Int)) = (cb : Int) := by rw [IntKind.wrap_i64]; omega
  have z3 : wrap64 ((ca : Int) - (gn : Int)) = (cb : Int) := by
    have := z2
    first | exact this | (unfold wrap64; omega)
  clear hB5 hb5 hA5 HPR HA4 HB4 HA3 HB3
  go_wp2_with fail
  refine HCA.out.mono ?_
  rintro e w6 ⟨rfl, hb6⟩
  have HCB := hid (s_count (HAT5.out.on hb6).b (by omega))
  rw [hcb] at HCB
  have HB6 := hid hb6
  clear hb6 HCA
  go_wp2_with fail
  refine HCB.out.mono ?_
  rintro e w7 ⟨rfl, hb7⟩
  have HAT7 := hid ((HAT5.out.on HB6.out).on hb7)
  have HB7 : Hid (Below w.heap.size w w7) := bel_then (bel_then HB5.out HB5.out.size HB6.out) (Nat.le_trans HB5.out.size HB6.out.size) hb7
  clear hb7 HCB HB6 HAT5 HB5
  go_wp2_with fail
  have hts : ∀ i, i < 3 → ∃ t : Int, f ≤ t ∧ ([f, f + min over (18446744073709551615 - f), 18446744073709551615] : List Int)[i]? = some t := fun i hi => by
    match i, hi with
    | 0, _ => exact ⟨_, Int.le_refl _, rfl⟩
    | 1, _ => exact ⟨_, by omega, rfl⟩
    | 2, _ => exact ⟨_, hf1, rfl⟩
  have HTS := hid hts
  obtain ⟨fo, hfo⟩ : ∃ fo, f + min over (18446744073709551615 - f) = fo := ⟨_, rfl⟩
  rw [hfo] at HTS
  rw [hfo]
  obtain ⟨w8, hw8⟩ : ∃ w8, w7.alloc (.cells #[.int .u64 f, .int .u64 fo, .int .u64 18446744073709551615] 32) = w8 := ⟨_, rfl⟩
  rw [hw8]
  have hb8 : Below w7.heap.size w7 w8 := by rw [← hw8]; exact (Below.refl _ _).alloc (Nat.le_refl _) _
  obtain ⟨T0, hT0⟩ : ∃ T0, w7.heap.size = T0 := ⟨_, rfl⟩
  have ht8 : w8.heap[T0]? = some (.cells #[.int .u64 f, .int .u64 fo, .int .u64 18446744073709551615] 32 (0, 0)) := by rw [← hw8, ← hT0]; exact heap_alloc_new w7 _
  have HTC : Hid (∀ W, Below w8.heap.size w8 W → ∀ i, i < 3 → ∃ t : Int, f ≤ t ∧ W.cell? ⟨T0, i, none⟩ = some (.int .u64 t)) := fun W hb i hi => by
    obtain ⟨t, h1, h2⟩ := HTS.out i hi
    have h3 := (hb.block T0 (Array.getElem?_eq_some_iff.1 ht8).1).trans ht8
    refine ⟨t, h1, ?_⟩
    rw [Lib.cell_of_heap h3]
    match i, hi with
    | 0, _ => simp at h2; rw [← h2]; rfl
    | 1, _ => simp at h2; rw [← h2]; rfl
    | 2, _ => simp at h2; rw [← h2]; rfl
  have HAT8 := hid (HAT7.out.on hb8)
  have HB8 : Hid (Below w.heap.size w w8) := bel_then HB7.out HB7.out.size hb8
  have hs8 := HB8.out.size
  have hok := HAT8.out.a.ok
  have HOK := hid hok
  have hcl : countD A ≤ 1200000000000 := by rw [hca]; omega
  try rw [hT0]
  clear hts HTS ht8 hb8 HAT7 HB7 hw8 hT0 hok z1 z2 z3
  go_loopg [53] 3 (fun gg vi wr => ∃ (i : Nat), vi = .int .i64 i ∧ i ≤ 3 ∧ 3 - i ≤ gg ∧ Hid (Below w8.heap.size w8 wr))
  case atStart => exact ⟨0, rfl, by omega, by omega, Below.refl _ _⟩
  case round =>
    obtain ⟨i, rfl, hi, hgk, HW⟩ := hrel
    by_cases hi3 : i < 3
    · have hi3z : (i : Int) < 3 := by omega
      have hiz : (0 : Int) ≤ i := by omega
      obtain ⟨t, hft, htc⟩ := HTC.out wr HW.out i hi3
      have HWA := hid (s_walked (HAT8.out.on HW.out).a (by omega) t)
      have hwl : (walkD A t).length ≤ 1200000000000 := by
        have h1 : (walkD A t).length ≤ A.length := List.length_filterMap_le _ _
        have h2 := dir_len HOK.out
        omega
      go_wp2_with fail
      refine HWA.out.mono ?_
      intro e w9 hp9
      have hpp9 := hp9
      obtain ⟨u9, o9, rfl, ho9, _, _, hb9⟩ := hpp9
      have HB9 := hid (bel_then HW.out HW.out.size hb9)
      have HP9 := hid hp9
      have HWB := hid (s_walked (HAT8.out.on HB9.out).b (by omega) t)
      rw [pruneD_walk HOK.out hft] at HWB
      obtain ⟨p9, c9, rfl⟩ := Kind.own_shape ho9
      clear hp9 ho9 hb9 HWA
      go_wp2_with fail
      refine HWB.out.mono ?_
      intro e w10 hp10
      have hpp10 := hp10
      obtain ⟨u10, o10, rfl, ho10, _, _, hb10⟩ := hpp10
      have HSF := hid (sameF_true HP9.out hb10 hp10 (by rw [List.length_take]; omega))
      have HB10 := hid (bel_then HB9.out HB9.out.size hb10)
      obtain ⟨p10, c10, rfl⟩ := Kind.own_shape ho10
      clear hp10 ho10 hb10 HWB HP9 HB9
      go_wp2_with fail
      refine HSF.out.mono ?_
      rintro e w11 ⟨rfl, hb11⟩
      have HB11 : Hid (Below w8.heap.size w8 w11) := bel_then HB10.out HB10.out.size hb11
      clear hb11 HSF HB10 htc
      go_wp2_with fail
      go_loopg [67] ops.length (fun gg vj wr2 => ∃ (j : Nat), vj = .int .i64 j ∧ j ≤ ops.length ∧ ops.length - j ≤ gg ∧ Hid (Below w8.heap.size w8 wr2))
      case atStart => exact ⟨0, rfl, by omega, by omega, HB11.out⟩
      case round =>
        clear HB11
        obtain ⟨j, rfl, hj, hgj, HWJ⟩ := hrel
        by_cases hlt : j < ops.length
        · have hltz : (j : Int) < (ops.length : Int) := by omega
          have hjz : (0 : Int) ≤ j := by omega
          obtain ⟨b1, o1, rfl, k1⟩ : ∃ b off, p = some ⟨b, off, none⟩ ∧ KY.At w b off ops := by
            rcases HD.out with h | h
            · rw [h] at hlt; simp at hlt
            · exact h
          have hbw : Below w.heap.size w wr := bel_then HB8.out hs8 HWJ.out
          obtain ⟨y0, y1, y2, y3, y4, y5, y6, y7, y8⟩ := ky_at (Kind.at_kept k1 hbw) j hlt
          have hxi := (HX.out _ (List.getElem_mem hlt)).on hbw
          generalize ops[j] = x at *
          obtain ⟨W5, hW5⟩ : ∃ W5, wr.alloc (.cells (encY x).toArray 36) = W5 := ⟨_, rfl⟩
          have hba : Below wr.heap.size wr W5 := by rw [← hW5]; exact (Below.refl _ _).alloc (Nat.le_refl _) _
          have hop : W5.heap[wr.heap.size]? = some (.cells (encY x).toArray 36 (0, 0)) := by rw [← hW5]; exact heap_alloc_new wr _
          have HX5 := hid (hxi.on hba)
          have HAT := hid ((HAT8.out.on HWJ.out).on hba)
          have HB5 : Hid (Below w8.heap.size w8 W5) := bel_then HWJ.out HWJ.out.size hba
          obtain ⟨O, hO⟩ : ∃ O, wr.heap.size = O := ⟨_, rfl⟩
          obtain ⟨xk, xa, xb, xs, xt, xl, xp, xc, xo, xq, xqc, xm, xn⟩ := x
          simp only [encY] at *
          rw [hO] at hop
          have hOl : O < W5.heap.size := (Array.getElem?_eq_some_iff.1 hop).1
          have KS : Hid (∀ w', Below W5.heap.size W5 w' → w'.cell? ⟨O, 1, none⟩ = some (.string xa) ∧ w'.cell? ⟨O, 2, none⟩ = some (.string xb) ∧ w'.cell? ⟨O, 7, none⟩ = some (.slice xq xm.length xqc)) := fun w' hb => by
            have := (hb.block O hOl).trans hop
            exact ⟨by rw [Lib.cell_of_heap this]; rfl, by rw [Lib.cell_of_heap this]; rfl, by rw [Lib.cell_of_heap this]; rfl⟩
          have KSCA : Hid (∀ W, Below W5.heap.size W5 W → Calls Tryz.prog 19 #[.pointer (some ⟨ga, 0, none⟩), .string xa, .int .u64 t, .slice xq xm.length xqc] W fun e w' => FdPost W (scanD A xa t (matchM xm)) e w') := fun W hb => s_scan (HAT.out.on hb).a hl xa t xq xqc xm (HX5.out.on hb).pis HX5.out.pfit
          have KSCB : Hid (∀ W, Below W5.heap.size W5 W → Calls Tryz.prog 19 #[.pointer (some ⟨gb, 0, none⟩), .string xa, .int .u64 t, .slice xq xm.length xqc] W fun e w' => FdPost W (scanD A xa t (matchM xm)) e w') := fun W hb => by
            have := s_scan (HAT.out.on hb).b hl xa t xq xqc xm (HX5.out.on hb).pis HX5.out.pfit
            rwa [pruneD_scan HOK.out hft] at this
          have KLOA : Hid (∀ W, Below W5.heap.size W5 W → Calls Tryz.prog 20 #[.pointer (some ⟨ga, 0, none⟩), .string xa, .int .u64 t] W fun e w' => LogPost W A xa t e w') := fun W hb => s_log (HAT.out.on hb).a hl xa t
          have KLOB : Hid (∀ W, Below W5.heap.size W5 W → Calls Tryz.prog 20 #[.pointer (some ⟨gb, 0, none⟩), .string xa, .int .u64 t] W fun e w' => LogPost W (pruneD A f) xa t e w') := fun W hb => s_log (HAT.out.on hb).b hl xa t
          have KKEA : Hid (∀ W, Below W5.heap.size W5 W → Calls Tryz.prog 22 #[.pointer (some ⟨ga, 0, none⟩), .string xa] W fun e w' => ∃ u, e = .returned u ∧ KK.Own W.heap.size w' u (keysD A xa) ∧ Below W.heap.size W w') := fun W hb => s_keys (HAT.out.on hb).a (by omega) xa
          have KKEB : Hid (∀ W, Below W5.heap.size W5 W → Calls Tryz.prog 22 #[.pointer (some ⟨gb, 0, none⟩), .string xa] W fun e w' => ∃ u, e = .returned u ∧ KK.Own W.heap.size w' u (keysD A xa) ∧ Below W.heap.size W w') := fun W hb => by
            have := s_keys (HAT.out.on hb).b (by omega) xa
            rwa [pruneD_keysD] at this
          have KSIA : Hid (∀ W, Below W5.heap.size W5 W → Calls Tryz.prog 24 #[.pointer (some ⟨ga, 0, none⟩), .agg #[.string xa, .string xb], .int .u64 t] W fun e w' => AllPost W (sinceV (ofD A (xa, xb)) t) e w') := fun W hb => s_since (HAT.out.on hb).a (xa, xb) HX5.out.kfit t
          have KSIB : Hid (∀ W, Below W5.heap.size W5 W → Calls Tryz.prog 24 #[.pointer (some ⟨gb, 0, none⟩), .agg #[.string xa, .string xb], .int .u64 t] W fun e w' => AllPost W (sinceV (ofD A (xa, xb)) t) e w') := fun W hb => by
            have := s_since (HAT.out.on hb).b (xa, xb) HX5.out.kfit t
            rwa [pruneD_of, prune_since (ofD_ok HOK.out (xa, xb)).rise hft] at this
          have KATA : Hid (∀ W, Below W5.heap.size W5 W → Calls Tryz.prog 25 #[.pointer (some ⟨ga, 0, none⟩), .agg #[.string xa, .string xb], .int .u64 t] W fun e w' => VAns W (atV (ofD A (xa, xb)) t) e w') := fun W hb => s_at (HAT.out.on hb).a (xa, xb) HX5.out.kfit t
          have KATB : Hid (∀ W, Below W5.heap.size W5 W → Calls Tryz.prog 25 #[.pointer (some ⟨gb, 0, none⟩), .agg #[.string xa, .string xb], .int .u64 t] W fun e w' => VAns W (atV (ofD A (xa, xb)) t) e w') := fun W hb => by
            have := s_at (HAT.out.on hb).b (xa, xb) HX5.out.kfit t
            rwa [pruneD_of, prune_at (ofD_ok HOK.out (xa, xb)).rise hft] at this
          have KLAA : Hid (∀ W, Below W5.heap.size W5 W → Calls Tryz.prog 26 #[.pointer (some ⟨ga, 0, none⟩), .agg #[.string xa, .string xb]] W fun e w' => VAns W (ofD A (xa, xb)).getLast? e w') := fun W hb => s_last (HAT.out.on hb).a (xa, xb) HX5.out.kfit
          have KLAB : Hid (∀ W, Below W5.heap.size W5 W → Calls Tryz.prog 26 #[.pointer (some ⟨gb, 0, none⟩), .agg #[.string xa, .string xb]] W fun e w' => VAns W (ofD A (xa, xb)).getLast? e w') := fun W hb => by
            have := s_last (HAT.out.on hb).b (xa, xb) HX5.out.kfit
            rwa [pruneD_of, prune_last] at this
          have HMAY := hid (HAT.out.a.may (xa, xb))
          have HSL : Hid ((scanD A xa t (matchM xm)).length ≤ 1200000000000) := Nat.le_trans (scan_len HOK.out xa t _) hcl
          have HLL : Hid ((sinceD A xa t).length ≤ 2400000000000) := Nat.le_trans (since_len HOK.out xa t) (by omega)
          have HSI : Hid (sinceD (pruneD A f) xa t = sinceD A xa t) := pruneD_since HOK.out hft xa
          have HKL : Hid ((keysD A xa).length ≤ 2400000000000) := Nat.le_trans (keysD_len HOK.out xa) (by omega)
          have HMS : Hid (∀ v ∈ sinceV (ofD A (xa, xb)) t, mayB v.val = true) := fun v hv => HMAY.out v (since_mem hv)
          have HSLn : Hid ((sinceV (ofD A (xa, xb)) t).length ≤ 2400000000000) := by
            show _ ≤ _
            have h1 := of_len HOK.out (xa, xb)
            have h2 : (sinceV (ofD A (xa, xb)) t).length ≤ (ofD A (xa, xb)).length := by unfold sinceV; rw [List.length_drop]; omega
            omega
          have HMAT : Hid (∀ v, atV (ofD A (xa, xb)) t = some v → mayB v.val = true) := fun v hv => HMAY.out v (at_mem hv)
          have HMLA : Hid (∀ v, (ofD A (xa, xb)).getLast? = some v → mayB v.val = true) := fun v hv => HMAY.out v (List.mem_of_getLast? hv)
          have HB20 : Hid (Below W5.heap.size W5 W5.drew) := (Below.refl _ _).drew
          have q20 := KS.out W5.drew HB20.out
          clear k1 hbw hxi hba hop HMAY HX5 HAT
          go_wp2_with fail
          try rw [hO]
          refine wp_region_held_drew (S := fun w' => w'.cell? ⟨O, 1, none⟩ = some (.string xa) ∧ w'.cell? ⟨O, 2, none⟩ = some (.string xb) ∧ w'.cell? ⟨O, 7, none⟩ = some (.slice xq xm.length xqc)) (by kernel_rfl) q20 (fun hHeld => ?_)
          refine take_val (i := 0) (.pointer (some ⟨ga, 0, none⟩)) rfl (by kernel_rfl) (by kernel_rfl) (by kernel_rfl) (fun _ _ _ h => h) (by rfl) (fun w hSw => by go_simp) hHeld ?_
          simp only [Act.put, List.setIfInBounds_toArray, List.set_cons_zero, List.set_cons_succ]
          refine take_val (i := 1) (.pointer (some ⟨O, 1, none⟩)) rfl (by kernel_rfl) (by kernel_rfl) (by kernel_rfl) (fun _ _ _ h => h) (by rfl) (fun w hSw => by go_simp) hHeld ?_
          simp only [Act.put, List.setIfInBounds_toArray, List.set_cons_zero, List.set_cons_succ]
          refine take_val (i := 2) (.pointer (some ⟨O, 1, none⟩)) rfl (by kernel_rfl) (by kernel_rfl) (by kernel_rfl) (fun _ _ _ h => h) (by rfl) (fun w hSw => by go_simp) hHeld ?_
          simp only [Act.put, List.setIfInBounds_toArray, List.set_cons_zero, List.set_cons_succ]
          refine take_val (i := 3) (.string xa) rfl (by kernel_rfl) (by kernel_rfl) (by kernel_rfl) (fun _ _ _ h => h) (by rfl) (fun w hSw => by go_simp) hHeld ?_
          simp only [Act.put, List.setIfInBounds_toArray, List.set_cons_zero, List.set_cons_succ]
          refine take_val (i := 4) (.int .u64 t) rfl (by kernel_rfl) (by kernel_rfl) (by kernel_rfl) (fun _ _ _ h => h) (by rfl) (fun w hSw => by go_simp) hHeld ?_
          simp only [Act.put, List.setIfInBounds_toArray, List.set_cons_zero, List.set_cons_succ]
          refine take_val (i := 5) (.pointer (some ⟨O, 7, none⟩)) rfl (by kernel_rfl) (by kernel_rfl) (by kernel_rfl) (fun _ _ _ h => h) (by rfl) (fun w hSw => by go_simp) hHeld ?_
          simp only [Act.put, List.setIfInBounds_toArray, List.set_cons_zero, List.set_cons_succ]
          refine take_val (i := 6) (.slice xq xm.length xqc) rfl (by kernel_rfl) (by kernel_rfl) (by kernel_rfl) (fun _ _ _ h => h) (by rfl) (fun w hSw => by go_simp) hHeld ?_
          simp only [Act.put, List.setIfInBounds_toArray, List.set_cons_zero, List.set_cons_succ]
          refine take_val (i := 8) (.pointer (some ⟨gb, 0, none⟩)) rfl (by kernel_rfl) (by kernel_rfl) (by kernel_rfl) (fun _ _ _ h => h) (by rfl) (fun w hSw => by go_simp) hHeld ?_
          simp only [Act.put, List.setIfInBounds_toArray, List.set_cons_zero, List.set_cons_succ]
          refine take_val (i := 9) (.pointer (some ⟨O, 1, none⟩)) rfl (by kernel_rfl) (by kernel_rfl) (by kernel_rfl) (fun _ _ _ h => h) (by rfl) (fun w hSw => by go_simp) hHeld ?_
          simp only [Act.put, List.setIfInBounds_toArray, List.set_cons_zero, List.set_cons_succ]
          refine take_val (i := 10) (.pointer (some ⟨O, 1, none⟩)) rfl (by kernel_rfl) (by kernel_rfl) (by kernel_rfl) (fun _ _ _ h => h) (by rfl) (fun w hSw => by go_simp) hHeld ?_
          simp only [Act.put, List.setIfInBounds_toArray, List.set_cons_zero, List.set_cons_succ]
          refine take_val (i := 11) (.string xa) rfl (by kernel_rfl) (by kernel_rfl) (by kernel_rfl) (fun _ _ _ h => h) (by rfl) (fun w hSw => by go_simp) hHeld ?_
          simp only [Act.put, List.setIfInBounds_toArray, List.set_cons_zero, List.set_cons_succ]
          refine take_val (i := 12) (.int .u64 t) rfl (by kernel_rfl) (by kernel_rfl) (by kernel_rfl) (fun _ _ _ h => h) (by rfl) (fun w hSw => by go_simp) hHeld ?_
          simp only [Act.put, List.setIfInBounds_toArray, List.set_cons_zero, List.set_cons_succ]
          refine take_val (i := 13) (.pointer (some ⟨O, 7, none⟩)) rfl (by kernel_rfl) (by kernel_rfl) (by kernel_rfl) (fun _ _ _ h => h) (by rfl) (fun w hSw => by go_simp) hHeld ?_
          simp only [Act.put, List.setIfInBounds_toArray, List.set_cons_zero, List.set_cons_succ]
          refine take_val (i := 14) (.slice xq xm.length xqc) rfl (by kernel_rfl) (by kernel_rfl) (by kernel_rfl) (fun _ _ _ h => h) (by rfl) (fun w hSw => by go_simp) hHeld ?_
          simp only [Act.put, List.setIfInBounds_toArray, List.set_cons_zero, List.set_cons_succ]
          refine wpAnyH_ready (rs := [7]) (by kernel_rfl) (by simp) ?_
          refine AllReadyH.cons (at_drop0 rfl) (fun K hK => ?_) AllReadyH.nil
          rw [if_pos (by rfl)]
          go_simp
          refine ((KSCA.out _ HB20.out)).mono ?_
          intro e w21 hp21
          have hpp21 := hp21
          obtain ⟨u21, o21, rfl, ho21, _, _, hb21⟩ := hpp21
          have HB21 := hid (bel_then HB20.out HB20.out.size hb21)
          have HS21 := hid hb21
          have q21 := KS.out w21 HB21.out
          have HP21 := hid hp21
          obtain ⟨p21, c21, rfl⟩ := Kind.own_shape ho21
          clear ho21 hb21 hp21
          go_wp2_with fail
          refine hK.out _ _ q21 (fun hHeld => ?_)
          clear hK K
          try simp only [Act.put, List.setIfInBounds_toArray, List.set_cons_zero, List.set_cons_succ]
          refine wpAnyH_ready (rs := [15]) (by kernel_rfl) (by simp) ?_
          refine AllReadyH.cons (at_drop0 rfl) (fun K hK => ?_) AllReadyH.nil
          rw [if_pos (by rfl)]
          go_simp
          refine ((KSCB.out _ HB21.out)).mono ?_
          intro e w22 hp22
          have hpp22 := hp22
          obtain ⟨u22, o22, rfl, ho22, _, _, hb22⟩ := hpp22
          have HB22 := hid (bel_then HB21.out HB21.out.size hb22)
          have HS22 := hid hb22
          have q22 := KS.out w22 HB22.out
          have HP22 := hid hp22
          obtain ⟨p22, c22, rfl⟩ := Kind.own_shape ho22
          clear ho22 hb22 hp22
          go_wp2_with fail
          refine hK.out _ _ q22 (fun hHeld => ?_)
          clear hK K
          try simp only [Act.put, List.setIfInBounds_toArray, List.set_cons_zero, List.set_cons_succ]
          refine wpAnyH_ready (rs := [16]) (by kernel_rfl) (by simp) ?_
          refine AllReadyH.cons (at_drop0 rfl) (fun K hK => ?_) AllReadyH.nil
          rw [if_pos (by rfl)]
          go_simp
          refine (sameF_true HP21.out HS22.out HP22.out (by have h1 := HSL.out; omega)).mono ?_
          rintro e w23 ⟨rfl, hb23⟩
          have HB23 := hid (bel_then HB22.out HB22.out.size hb23)
          have q23 := KS.out w23 HB23.out
          clear hb23
          go_wp2_with fail
          refine hK.out _ _ q23 (fun hHeld => ?_)
          clear hK K
          try simp only [Act.put, List.setIfInBounds_toArray, List.set_cons_zero, List.set_cons_succ]
          refine take_val (i := 17) (.bool false) rfl (by kernel_rfl) (by kernel_rfl) (by kernel_rfl) (fun _ _ _ h => h) (by rfl) (fun w hSw => by go_simp) hHeld ?_
          simp only [Act.put, List.setIfInBounds_toArray, List.set_cons_zero, List.set_cons_succ]
          refine take_val (i := 18) (.bool false) rfl (by kernel_rfl) (by kernel_rfl) (by kernel_rfl) (fun _ _ _ h => h) (by rfl) (fun w hSw => by go_simp) hHeld ?_
          simp only [Act.put, List.setIfInBounds_toArray, List.set_cons_zero, List.set_cons_succ]
          refine take_val (i := 19) (.pointer (some ⟨ga, 0, none⟩)) rfl (by kernel_rfl) (by kernel_rfl) (by kernel_rfl) (fun _ _ _ h => h) (by rfl) (fun w hSw => by go_simp) hHeld ?_
          simp only [Act.put, List.setIfInBounds_toArray, List.set_cons_zero, List.set_cons_succ]
          refine take_val (i := 20) (.pointer (some ⟨O, 1, none⟩)) rfl (by kernel_rfl) (by kernel_rfl) (by kernel_rfl) (fun _ _ _ h => h) (by rfl) (fun w hSw => by go_simp) hHeld ?_
          simp only [Act.put, List.setIfInBounds_toArray, List.set_cons_zero, List.set_cons_succ]
          refine take_val (i := 21) (.pointer (some ⟨O, 1, none⟩)) rfl (by kernel_rfl) (by kernel_rfl) (by kernel_rfl) (fun _ _ _ h => h) (by rfl) (fun w hSw => by go_simp) hHeld ?_
          simp only [Act.put, List.setIfInBounds_toArray, List.set_cons_zero, List.set_cons_succ]
          refine take_val (i := 22) (.string xa) rfl (by kernel_rfl) (by kernel_rfl) (by kernel_rfl) (fun _ _ _ h => h) (by rfl) (fun w hSw => by go_simp) hHeld ?_
          simp only [Act.put, List.setIfInBounds_toArray, List.set_cons_zero, List.set_cons_succ]
          refine take_val (i := 23) (.int .u64 t) rfl (by kernel_rfl) (by kernel_rfl) (by kernel_rfl) (fun _ _ _ h => h) (by rfl) (fun w hSw => by go_simp) hHeld ?_
          simp only [Act.put, List.setIfInBounds_toArray, List.set_cons_zero, List.set_cons_succ]
          refine take_val (i := 25) (.pointer (some ⟨gb, 0, none⟩)) rfl (by kernel_rfl) (by kernel_rfl) (by kernel_rfl) (fun _ _ _ h => h) (by rfl) (fun w hSw => by go_simp) hHeld ?_
          simp only [Act.put, List.setIfInBounds_toArray, List.set_cons_zero, List.set_cons_succ]
          refine take_val (i := 26) (.pointer (some ⟨O, 1, none⟩)) rfl (by kernel_rfl) (by kernel_rfl) (by kernel_rfl) (fun _ _ _ h => h) (by rfl) (fun w hSw => by go_simp) hHeld ?_
          simp only [Act.put, List.setIfInBounds_toArray, List.set_cons_zero, List.set_cons_succ]
          refine take_val (i := 27) (.pointer (some ⟨O, 1, none⟩)) rfl (by kernel_rfl) (by kernel_rfl) (by kernel_rfl) (fun _ _ _ h => h) (by rfl) (fun w hSw => by go_simp) hHeld ?_
          simp only [Act.put, List.setIfInBounds_toArray, List.set_cons_zero, List.set_cons_succ]
          refine take_val (i := 28) (.string xa) rfl (by kernel_rfl) (by kernel_rfl) (by kernel_rfl) (fun _ _ _ h => h) (by rfl) (fun w hSw => by go_simp) hHeld ?_
          simp only [Act.put, List.setIfInBounds_toArray, List.set_cons_zero, List.set_cons_succ]
          refine take_val (i := 29) (.int .u64 t) rfl (by kernel_rfl) (by kernel_rfl) (by kernel_rfl) (fun _ _ _ h => h) (by rfl) (fun w hSw => by go_simp) hHeld ?_
          simp only [Act.put, List.setIfInBounds_toArray, List.set_cons_zero, List.set_cons_succ]
          refine wpAnyH_ready (rs := [24]) (by kernel_rfl) (by simp) ?_
          refine AllReadyH.cons (at_drop0 rfl) (fun K hK => ?_) AllReadyH.nil
          rw [if_pos (by rfl)]
          go_simp
          refine ((KLOA.out _ HB23.out)).mono ?_
          intro e w24 hp24
          have hpp24 := hp24
          obtain ⟨_, ⟨u24, o24, rfl, ho24, _, _, hb24⟩, _⟩ := hpp24
          have HB24 := hid (bel_then HB23.out HB23.out.size hb24)
          have HS24 := hid hb24
          have q24 := KS.out w24 HB24.out
          have HP24 := hid hp24
          obtain ⟨p24, c24, rfl⟩ := Kind.own_shape ho24
          clear ho24 hb24 hp24
          go_wp2_with fail
          refine hK.out _ _ q24 (fun hHeld => ?_)
          clear hK K
          try simp only [Act.put, List.setIfInBounds_toArray, List.set_cons_zero, List.set_cons_succ]
          refine wpAnyH_ready (rs := [30]) (by kernel_rfl) (by simp) ?_
          refine AllReadyH.cons (at_drop0 rfl) (fun K hK => ?_) AllReadyH.nil
          rw [if_pos (by rfl)]
          go_simp
          refine ((KLOB.out _ HB24.out)).mono ?_
          intro e w25 hp25
          have hpp25 := hp25
          obtain ⟨_, ⟨u25, o25, rfl, ho25, _, _, hb25⟩, _⟩ := hpp25
          have HB25 := hid (bel_then HB24.out HB24.out.size hb25)
          have HS25 := hid hb25
          have q25 := KS.out w25 HB25.out
          have HP25 := hid hp25
          obtain ⟨p25, c25, rfl⟩ := Kind.own_shape ho25
          clear ho25 hb25 hp25
          go_wp2_with fail
          refine hK.out _ _ q25 (fun hHeld => ?_)
          clear hK K
          try simp only [Act.put, List.setIfInBounds_toArray, List.set_cons_zero, List.set_cons_succ]
          refine wpAnyH_ready (rs := [31]) (by kernel_rfl) (by simp) ?_
          refine AllReadyH.cons (at_drop0 rfl) (fun K hK => ?_) AllReadyH.nil
          rw [if_pos (by rfl)]
          go_simp
          refine (log_same HOK.out HSI.out HP24.out HS25.out HP25.out HLL.out).mono ?_
          rintro e w26 ⟨rfl, hb26⟩
          have HB26 := hid (bel_then HB25.out HB25.out.size hb26)
          have q26 := KS.out w26 HB26.out
          clear hb26
          go_wp2_with fail
          refine hK.out _ _ q26 (fun hHeld => ?_)
          clear hK K
          try simp only [Act.put, List.setIfInBounds_toArray, List.set_cons_zero, List.set_cons_succ]
          refine take_val (i := 32) (.bool false) rfl (by kernel_rfl) (by kernel_rfl) (by kernel_rfl) (fun _ _ _ h => h) (by rfl) (fun w hSw => by go_simp) hHeld ?_
          simp only [Act.put, List.setIfInBounds_toArray, List.set_cons_zero, List.set_cons_succ]
          refine take_val (i := 33) (.bool false) rfl (by kernel_rfl) (by kernel_rfl) (by kernel_rfl) (fun _ _ _ h => h) (by rfl) (fun w hSw => by go_simp) hHeld ?_
          simp only [Act.put, List.setIfInBounds_toArray, List.set_cons_zero, List.set_cons_succ]
          refine take_val (i := 34) (.bool false) rfl (by kernel_rfl) (by kernel_rfl) (by kernel_rfl) (fun _ _ _ h => h) (by rfl) (fun w hSw => by go_simp) hHeld ?_
          simp only [Act.put, List.setIfInBounds_toArray, List.set_cons_zero, List.set_cons_succ]
          refine take_val (i := 35) (.pointer (some ⟨ga, 0, none⟩)) rfl (by kernel_rfl) (by kernel_rfl) (by kernel_rfl) (fun _ _ _ h => h) (by rfl) (fun w hSw => by go_simp) hHeld ?_
          simp only [Act.put, List.setIfInBounds_toArray, List.set_cons_zero, List.set_cons_succ]
          refine take_val (i := 36) (.pointer (some ⟨O, 1, none⟩)) rfl (by kernel_rfl) (by kernel_rfl) (by kernel_rfl) (fun _ _ _ h => h) (by rfl) (fun w hSw => by go_simp) hHeld ?_
          simp only [Act.put, List.setIfInBounds_toArray, List.set_cons_zero, List.set_cons_succ]
          refine take_val (i := 37) (.pointer (some ⟨O, 1, none⟩)) rfl (by kernel_rfl) (by kernel_rfl) (by kernel_rfl) (fun _ _ _ h => h) (by rfl) (fun w hSw => by go_simp) hHeld ?_
          simp only [Act.put, List.setIfInBounds_toArray, List.set_cons_zero, List.set_cons_succ]
          refine take_val (i := 38) (.string xa) rfl (by kernel_rfl) (by kernel_rfl) (by kernel_rfl) (fun _ _ _ h => h) (by rfl) (fun w hSw => by go_simp) hHeld ?_
          simp only [Act.put, List.setIfInBounds_toArray, List.set_cons_zero, List.set_cons_succ]
          refine take_val (i := 40) (.pointer (some ⟨gb, 0, none⟩)) rfl (by kernel_rfl) (by kernel_rfl) (by kernel_rfl) (fun _ _ _ h => h) (by rfl) (fun w hSw => by go_simp) hHeld ?_
          simp only [Act.put, List.setIfInBounds_toArray, List.set_cons_zero, List.set_cons_succ]
          refine take_val (i := 41) (.pointer (some ⟨O, 1, none⟩)) rfl (by kernel_rfl) (by kernel_rfl) (by kernel_rfl) (fun _ _ _ h => h) (by rfl) (fun w hSw => by go_simp) hHeld ?_
          simp only [Act.put, List.setIfInBounds_toArray, List.set_cons_zero, List.set_cons_succ]
          refine take_val (i := 42) (.pointer (some ⟨O, 1, none⟩)) rfl (by kernel_rfl) (by kernel_rfl) (by kernel_rfl) (fun _ _ _ h => h) (by rfl) (fun w hSw => by go_simp) hHeld ?_
          simp only [Act.put, List.setIfInBounds_toArray, List.set_cons_zero, List.set_cons_succ]
          refine take_val (i := 43) (.string xa) rfl (by kernel_rfl) (by kernel_rfl) (by kernel_rfl) (fun _ _ _ h => h) (by rfl) (fun w hSw => by go_simp) hHeld ?_
          simp only [Act.put, List.setIfInBounds_toArray, List.set_cons_zero, List.set_cons_succ]
          refine wpAnyH_ready (rs := [39]) (by kernel_rfl) (by simp) ?_
          refine AllReadyH.cons (at_drop0 rfl) (fun K hK => ?_) AllReadyH.nil
          rw [if_pos (by rfl)]
          go_simp
          refine ((KKEA.out _ HB26.out)).mono ?_
          intro e w27 hp27
          obtain ⟨u27, rfl, ho27, hb27⟩ := hp27
          have HB27 := hid (bel_then HB26.out HB26.out.size hb27)
          have HS27 := hid hb27
          have q27 := KS.out w27 HB27.out
          have HP27 := hid ho27
          obtain ⟨p27, c27, rfl⟩ := Kind.own_shape ho27
          clear ho27 hb27
          go_wp2_with fail
          refine hK.out _ _ q27 (fun hHeld => ?_)
          clear hK K
          try simp only [Act.put, List.setIfInBounds_toArray, List.set_cons_zero, List.set_cons_succ]
          refine wpAnyH_ready (rs := [44]) (by kernel_rfl) (by simp) ?_
          refine AllReadyH.cons (at_drop0 rfl) (fun K hK => ?_) AllReadyH.nil
          rw [if_pos (by rfl)]
          go_simp
          refine ((KKEB.out _ HB27.out)).mono ?_
          intro e w28 hp28
          obtain ⟨u28, rfl, ho28, hb28⟩ := hp28
          have HB28 := hid (bel_then HB27.out HB27.out.size hb28)
          have HS28 := hid hb28
          have q28 := KS.out w28 HB28.out
          have HP28 := hid ho28
          obtain ⟨p28, c28, rfl⟩ := Kind.own_shape ho28
          clear ho28 hb28
          go_wp2_with fail
          refine hK.out _ _ q28 (fun hHeld => ?_)
          clear hK K
          try simp only [Act.put, List.setIfInBounds_toArray, List.set_cons_zero, List.set_cons_succ]
          refine wpAnyH_ready (rs := [45]) (by kernel_rfl) (by simp) ?_
          refine AllReadyH.cons (at_drop0 rfl) (fun K hK => ?_) AllReadyH.nil
          rw [if_pos (by rfl)]
          go_simp
          refine (sameK_true HP27.out HS28.out HP28.out HKL.out).mono ?_
          rintro e w29 ⟨rfl, hb29⟩
          have HB29 := hid (bel_then HB28.out HB28.out.size hb29)
          have q29 := KS.out w29 HB29.out
          clear hb29
          go_wp2_with fail
          refine hK.out _ _ q29 (fun hHeld => ?_)
          clear hK K
          try simp only [Act.put, List.setIfInBounds_toArray, List.set_cons_zero, List.set_cons_succ]
          refine take_val (i := 46) (.bool false) rfl (by kernel_rfl) (by kernel_rfl) (by kernel_rfl) (fun _ _ _ h => h) (by rfl) (fun w hSw => by go_simp) hHeld ?_
          simp only [Act.put, List.setIfInBounds_toArray, List.set_cons_zero, List.set_cons_succ]
          refine take_val (i := 47) (.bool false) rfl (by kernel_rfl) (by kernel_rfl) (by kernel_rfl) (fun _ _ _ h => h) (by rfl) (fun w hSw => by go_simp) hHeld ?_
          simp only [Act.put, List.setIfInBounds_toArray, List.set_cons_zero, List.set_cons_succ]
          refine take_val (i := 48) (.bool false) rfl (by kernel_rfl) (by kernel_rfl) (by kernel_rfl) (fun _ _ _ h => h) (by rfl) (fun w hSw => by go_simp) hHeld ?_
          simp only [Act.put, List.setIfInBounds_toArray, List.set_cons_zero, List.set_cons_succ]
          refine take_val (i := 49) (.pointer (some ⟨ga, 0, none⟩)) rfl (by kernel_rfl) (by kernel_rfl) (by kernel_rfl) (fun _ _ _ h => h) (by rfl) (fun w hSw => by go_simp) hHeld ?_
          simp only [Act.put, List.setIfInBounds_toArray, List.set_cons_zero, List.set_cons_succ]
          refine take_val (i := 50) (.pointer (some ⟨O, 1, none⟩)) rfl (by kernel_rfl) (by kernel_rfl) (by kernel_rfl) (fun _ _ _ h => h) (by rfl) (fun w hSw => by go_simp) hHeld ?_
          simp only [Act.put, List.setIfInBounds_toArray, List.set_cons_zero, List.set_cons_succ]
          refine take_val (i := 51) (.agg #[.string xa, .string xb]) rfl (by kernel_rfl) (by kernel_rfl) (by kernel_rfl) (fun _ _ _ h => h) (by rfl) (fun w hSw => by go_simp) hHeld ?_
          simp only [Act.put, List.setIfInBounds_toArray, List.set_cons_zero, List.set_cons_succ]
          refine take_val (i := 52) (.int .u64 t) rfl (by kernel_rfl) (by kernel_rfl) (by kernel_rfl) (fun _ _ _ h => h) (by rfl) (fun w hSw => by go_simp) hHeld ?_
          simp only [Act.put, List.setIfInBounds_toArray, List.set_cons_zero, List.set_cons_succ]
          refine take_val (i := 54) (.pointer (some ⟨gb, 0, none⟩)) rfl (by kernel_rfl) (by kernel_rfl) (by kernel_rfl) (fun _ _ _ h => h) (by rfl) (fun w hSw => by go_simp) hHeld ?_
          simp only [Act.put, List.setIfInBounds_toArray, List.set_cons_zero, List.set_cons_succ]
          refine take_val (i := 55) (.pointer (some ⟨O, 1, none⟩)) rfl (by kernel_rfl) (by kernel_rfl) (by kernel_rfl) (fun _ _ _ h => h) (by rfl) (fun w hSw => by go_simp) hHeld ?_
          simp only [Act.put, List.setIfInBounds_toArray, List.set_cons_zero, List.set_cons_succ]
          refine take_val (i := 56) (.agg #[.string xa, .string xb]) rfl (by kernel_rfl) (by kernel_rfl) (by kernel_rfl) (fun _ _ _ h => h) (by rfl) (fun w hSw => by go_simp) hHeld ?_
          simp only [Act.put, List.setIfInBounds_toArray, List.set_cons_zero, List.set_cons_succ]
          refine take_val (i := 57) (.int .u64 t) rfl (by kernel_rfl) (by kernel_rfl) (by kernel_rfl) (fun _ _ _ h => h) (by rfl) (fun w hSw => by go_simp) hHeld ?_
          simp only [Act.put, List.setIfInBounds_toArray, List.set_cons_zero, List.set_cons_succ]
          refine wpAnyH_ready (rs := [53]) (by kernel_rfl) (by simp) ?_
          refine AllReadyH.cons (at_drop0 rfl) (fun K hK => ?_) AllReadyH.nil
          rw [if_pos (by rfl)]
          go_simp
          refine ((KSIA.out _ HB29.out)).mono ?_
          intro e w30 hp30
          have hpp30 := hp30
          obtain ⟨u30, o30, rfl, ho30, _, _, _, hb30⟩ := hpp30
          have HB30 := hid (bel_then HB29.out HB29.out.size hb30)
          have HS30 := hid hb30
          have q30 := KS.out w30 HB30.out
          have HP30 := hid hp30
          obtain ⟨p30, c30, rfl⟩ := Kind.own_shape ho30
          clear ho30 hb30 hp30
          go_wp2_with fail
          refine hK.out _ _ q30 (fun hHeld => ?_)
          clear hK K
          try simp only [Act.put, List.setIfInBounds_toArray, List.set_cons_zero, List.set_cons_succ]
          refine wpAnyH_ready (rs := [58]) (by kernel_rfl) (by simp) ?_
          refine AllReadyH.cons (at_drop0 rfl) (fun K hK => ?_) AllReadyH.nil
          rw [if_pos (by rfl)]
          go_simp
          refine ((KSIB.out _ HB30.out)).mono ?_
          intro e w31 hp31
          have hpp31 := hp31
          obtain ⟨u31, o31, rfl, ho31, _, _, _, hb31⟩ := hpp31
          have HB31 := hid (bel_then HB30.out HB30.out.size hb31)
          have HS31 := hid hb31
          have q31 := KS.out w31 HB31.out
          have HP31 := hid hp31
          obtain ⟨p31, c31, rfl⟩ := Kind.own_shape ho31
          clear ho31 hb31 hp31
          go_wp2_with fail
          refine hK.out _ _ q31 (fun hHeld => ?_)
          clear hK K
          try simp only [Act.put, List.setIfInBounds_toArray, List.set_cons_zero, List.set_cons_succ]
          refine wpAnyH_ready (rs := [59]) (by kernel_rfl) (by simp) ?_
          refine AllReadyH.cons (at_drop0 rfl) (fun K hK => ?_) AllReadyH.nil
          rw [if_pos (by rfl)]
          go_simp
          refine (sameVs_true HP30.out HS31.out HP31.out HMS.out HSLn.out).mono ?_
          rintro e w32 ⟨rfl, hb32⟩
          have HB32 := hid (bel_then HB31.out HB31.out.size hb32)
          have q32 := KS.out w32 HB32.out
          clear hb32
          go_wp2_with fail
          refine hK.out _ _ q32 (fun hHeld => ?_)
          clear hK K
          try simp only [Act.put, List.setIfInBounds_toArray, List.set_cons_zero, List.set_cons_succ]
          refine take_val (i := 60) (.bool false) rfl (by kernel_rfl) (by kernel_rfl) (by kernel_rfl) (fun _ _ _ h => h) (by rfl) (fun w hSw => by go_simp) hHeld ?_
          simp only [Act.put, List.setIfInBounds_toArray, List.set_cons_zero, List.set_cons_succ]
          refine take_val (i := 61) (.bool false) rfl (by kernel_rfl) (by kernel_rfl) (by kernel_rfl) (fun _ _ _ h => h) (by rfl) (fun w hSw => by go_simp) hHeld ?_
          simp only [Act.put, List.setIfInBounds_toArray, List.set_cons_zero, List.set_cons_succ]
          refine wpAnyH_done (by kernel_rfl) ?_ _
          obtain ⟨d1, d2, d3⟩ := KS.out w32 HB32.out
          clear HP21 HP22 HP24 HP25 HP27 HP28 HP30 HP31 HS21 HS22 HS24 HS25 HS27 HS28 HS30 HS31 KSCA KSCB KLOA KLOB KKEA KKEB KSIA KSIB
          obtain ⟨oa, hoa⟩ : ∃ oa, atV (ofD A (xa, xb)) t = oa := ⟨_, rfl⟩
          obtain ⟨ol, hol⟩ : ∃ ol, (ofD A (xa, xb)).getLast? = ol := ⟨_, rfl⟩
          rw [hoa] at KATA KATB HMAT
          rw [hol] at KLAA KLAB HMLA
          clear hoa hol
          go_wp2_with fail
          refine (KATA.out _ HB32.out).mono ?_
          rintro e w33 ⟨x33, rfl, hx33, hJ33, hb33⟩
          obtain ⟨V33, hV33⟩ : ∃ V, w33.alloc (.cells (encVx x33).toArray 56) = V := ⟨_, rfl⟩
          have hbv33 : Below w33.heap.size w33 V33 := by rw [← hV33]; exact (Below.refl _ _).alloc (Nat.le_refl _) _
          have hbb33 := bel_then hb33 hb33.size hbv33
          have HBB33 := hid hbb33
          have HB33 := hid (bel_then HB32.out HB32.out.size hbb33)
          obtain ⟨A33, hA33⟩ : ∃ A, w33.heap.size = A := ⟨_, rfl⟩
          have HV33 : Hid (VerAt V33 A33 x33) := by show _ = _; rw [← hV33, ← hA33]; exact heap_alloc_new w33 _
          have HX33 := hid hx33
          have HJ33 := hid (hJ33.on hbv33)
          obtain ⟨d1, d2, d3⟩ := KS.out V33 HB33.out
          clear hx33 hJ33 hb33 hbv33 hbb33
          obtain ⟨xn33, xs33, xt33, xl33, xp33, xc33, xo33⟩ := x33
          simp only [encVx, Vx.sl] at hV33 ⊢
          go_wp2_with fail
          refine (KATB.out _ HB33.out).mono ?_
          rintro e w34 ⟨x34, rfl, hx34, hJ34, hb34⟩
          obtain ⟨V34, hV34⟩ : ∃ V, w34.alloc (.cells (encVx x34).toArray 56) = V := ⟨_, rfl⟩
          have hbv34 : Below w34.heap.size w34 V34 := by rw [← hV34]; exact (Below.refl _ _).alloc (Nat.le_refl _) _
          have hbb34 := bel_then hb34 hb34.size hbv34
          have HBB34 := hid hbb34
          have HB34 := hid (bel_then HB33.out HB33.out.size hbb34)
          obtain ⟨A34, hA34⟩ : ∃ A, w34.heap.size = A := ⟨_, rfl⟩
          have HV34 : Hid (VerAt V34 A34 x34) := by show _ = _; rw [← hV34, ← hA34]; exact heap_alloc_new w34 _
          have HX34 := hid hx34
          have HJ34 := hid (hJ34.on hbv34)
          obtain ⟨d1, d2, d3⟩ := KS.out V34 HB34.out
          clear hx34 hJ34 hb34 hbv34 hbb34
          obtain ⟨xn34, xs34, xt34, xl34, xp34, xc34, xo34⟩ := x34
          simp only [encVx, Vx.sl] at hV34 ⊢
          go_wp2_with fail
          refine (KLAA.out _ HB34.out).mono ?_
          rintro e w35 ⟨x35, rfl, hx35, hJ35, hb35⟩
          obtain ⟨V35, hV35⟩ : ∃ V, w35.alloc (.cells (encVx x35).toArray 56) = V := ⟨_, rfl⟩
          have hbv35 : Below w35.heap.size w35 V35 := by rw [← hV35]; exact (Below.refl _ _).alloc (Nat.le_refl _) _
          have hbb35 := bel_then hb35 hb35.size hbv35
          have HBB35 := hid hbb35
          have HB35 := hid (bel_then HB34.out HB34.out.size hbb35)
          obtain ⟨A35, hA35⟩ : ∃ A, w35.heap.size = A := ⟨_, rfl⟩
          have HV35 : Hid (VerAt V35 A35 x35) := by show _ = _; rw [← hV35, ← hA35]; exact heap_alloc_new w35 _
          have HX35 := hid hx35
          have HJ35 := hid (hJ35.on hbv35)
          obtain ⟨d1, d2, d3⟩ := KS.out V35 HB35.out
          clear hx35 hJ35 hb35 hbv35 hbb35
          obtain ⟨xn35, xs35, xt35, xl35, xp35, xc35, xo35⟩ := x35
          simp only [encVx, Vx.sl] at hV35 ⊢
          go_wp2_with fail
          refine (KLAB.out _ HB35.out).mono ?_
          rintro e w36 ⟨x36, rfl, hx36, hJ36, hb36⟩
          obtain ⟨V36, hV36⟩ : ∃ V, w36.alloc (.cells (encVx x36).toArray 56) = V := ⟨_, rfl⟩
          have hbv36 : Below w36.heap.size w36 V36 := by rw [← hV36]; exact (Below.refl _ _).alloc (Nat.le_refl _) _
          have hbb36 := bel_then hb36 hb36.size hbv36
          have HBB36 := hid hbb36
          have HB36 := hid (bel_then HB35.out HB35.out.size hbb36)
          obtain ⟨A36, hA36⟩ : ∃ A, w36.heap.size = A := ⟨_, rfl⟩
          have HV36 : Hid (VerAt V36 A36 x36) := by show _ = _; rw [← hV36, ← hA36]; exact heap_alloc_new w36 _
          have HX36 := hid hx36
          have HJ36 := hid (hJ36.on hbv36)
          obtain ⟨d1, d2, d3⟩ := KS.out V36 HB36.out
          clear hx36 hJ36 hb36 hbv36 hbb36
          obtain ⟨xn36, xs36, xt36, xl36, xp36, xc36, xo36⟩ := x36
          simp only [encVx, Vx.sl] at hV36 ⊢
          have hb3536 := HBB36.out
          have hb3436 := bel_then HBB35.out HBB35.out.size HBB36.out
          have hb3336 := bel_then HBB34.out HBB34.out.size hb3436
          have HSV1 := hid (sameV_true HX33.out HX34.out (HJ33.out.on hb3336) (HJ34.out.on hb3436) HMAT.out)
          simp only [encVx, Vx.sl] at HSV1
          obtain ⟨m0, m1, m2, m3, m4⟩ := (HV33.out.on hb3336).cells
          obtain ⟨l0, l1, l2, l3, l4⟩ := (HV34.out.on hb3436).cells
          have HVK : Hid (∀ W, Below V36.heap.size V36 W → VerAt W A35 ⟨xn35, xs35, xt35, xl35, xp35, xc35, xo35⟩ ∧ VerAt W A36 ⟨xn36, xs36, xt36, xl36, xp36, xc36, xo36⟩ ∧ OwnJ 0 W (Vx.sl ⟨xn35, xs35, xt35, xl35, xp35, xc35, xo35⟩) xo35 ∧ OwnJ 0 W (Vx.sl ⟨xn36, xs36, xt36, xl36, xp36, xc36, xo36⟩) xo36) := fun W hb =>
            ⟨(HV35.out.on hb3536).on hb, HV36.out.on hb, own_weakJ ((HJ35.out.on hb3536).on hb) (Nat.zero_le _), own_weakJ (HJ36.out.on hb) (Nat.zero_le _)⟩
          simp only [Vx.sl] at m0 m1 m2 m3 m4 l0 l1 l2 l3 l4
          clear hb3536 hb3436 hb3336 d1 d2 d3
          go_wp2_with fail
          refine HSV1.out.mono ?_
          rintro e w37 ⟨rfl, hb37⟩
          obtain ⟨e1, e2, e3, e4⟩ := HVK.out w37 hb37
          have HSV2 := hid (sameV_true HX35.out HX36.out e3 e4 HMLA.out)
          simp only [encVx, Vx.sl] at HSV2
          obtain ⟨m0, m1, m2, m3, m4⟩ := e1.cells
          obtain ⟨l0, l1, l2, l3, l4⟩ := e2.cells
          simp only [Vx.sl] at m0 m1 m2 m3 m4 l0 l1 l2 l3 l4
          have HB37 := hid (bel_then HB36.out HB36.out.size hb37)
          clear e1 e2 e3 e4 hb37 HSV1 HVK
          go_wp2_with fail
          refine HSV2.out.mono ?_
          rintro e w38 ⟨rfl, hb38⟩
          have HB38 : Hid (Below w8.heap.size w8 w38) := bel_then HB5.out HB5.out.size (bel_then HB37.out HB37.out.size hb38)
          clear hb38 HSV2 m0 m1 m2 m3 m4 l0 l1 l2 l3 l4
          go_wp2_with fail
          go_roundg (ops.length - (j + 1))
          case measure => omega
          exact ⟨j + 1, by go_num, by omega, by omega, HB38.out⟩
        · have hltz : ¬ (j : Int) < (ops.length : Int) := by omega
          go_wp2_with fail
          go_roundg (3 - (i + 1))
          case measure => omega
          exact ⟨i + 1, by go_num, by omega, by omega, HWJ.out⟩
    · have hi3z : ¬ (i : Int) < 3 := by omega
      go_wp2_with fail
      go_ret
      exact ⟨rfl, by rw [← hN]; exact bel_then HB8.out hs8 HW.out⟩

end Go.Proofs.YtmfhbkickaofcaaGreat
