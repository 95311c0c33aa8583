/-
  Texts of this claim, one behind the other: Ls4 Ls6 Ls7 Ls5 La3.
-/
import Derived.Test.YticfpkodoghnnaaGreatPf
import Derived.Test.YticfpkodoghnnaaGreatRows
import Derived.Test.YticfpkodoghnnaaGreatPh
/-
  Two directories that answer a question alike (stage 14): alike.
-/
namespace Go.Proofs.YticfpkodoghnnaaGreat
open Go.RowKit

set_option maxHeartbeats 16000000 in
set_option maxRecDepth 100000 in
theorem alike_any (S : PastApi) {n0 m0 ga gb na nb : Nat} {D E : List RowD} {W : World} (ha : DirS n0 ga na D W) (hb : DirS m0 gb nb E W) (hna : na ≤ 1760000000000) (hnb : nb ≤ 1760000000000) (q : Ak) (hq : AkIn W q) (floor : Int) (hfl : U64 floor)
    (H : floor ≤ q.sn → AlikeH D E (max q.fl floor) q.sn q.t q.key (matchM q.tm) q.n) :
    Calls Tryz.prog 24 #[.pointer (some ⟨ga, 0, none⟩), .pointer (some ⟨gb, 0, none⟩), .agg (encAk q).toArray, .int .u64 floor] W fun e w' => e = .returned (.bool true) ∧ Below W.heap.size W w' := by
  obtain ⟨hb0, h1, h2, hs⟩ := two_boxes14 W (encAk q).toArray #[.int .u64 (max q.fl floor), .int .u64 q.sn] 34 36
  obtain ⟨V, hV⟩ : ∃ V, (W.alloc (.cells (encAk q).toArray 34)).alloc (.cells #[.int .u64 (max q.fl floor), .int .u64 q.sn] 36) = V := ⟨_, rfl⟩
  obtain ⟨Q, hQ⟩ : ∃ Q, W.heap.size = Q := ⟨_, rfl⟩
  rw [hV] at hb0 h1 h2 hs
  rw [hQ] at h1 h2 hs
  have HV := hid hb0
  have HBX : Hid (∀ W', Below V.heap.size V W' → (W'.cell? ⟨Q, 1, none⟩ = some (.int .u64 q.sn) ∧ W'.cell? ⟨Q, 2, none⟩ = some (.int .u64 q.t) ∧ W'.cell? ⟨Q, 3, none⟩ = some (.string q.a) ∧ W'.cell? ⟨Q, 4, none⟩ = some (.string q.b) ∧ W'.cell? ⟨Q, 5, none⟩ = some (.slice q.q q.tm.length q.qc) ∧ W'.cell? ⟨Q, 6, none⟩ = some (.int .i64 q.n)) ∧ W'.cell? ⟨Q + 1, 0, none⟩ = some (.int .u64 (max q.fl floor)) ∧ W'.cell? ⟨Q + 1, 1, none⟩ = some (.int .u64 q.sn)) := fun W' hW => by
    have e1 := (hW.block Q (by omega)).trans h1
    have e2 := (hW.block (Q + 1) (by omega)).trans h2
    exact ⟨⟨by rw [Lib.cell_of_heap e1]; rfl, by rw [Lib.cell_of_heap e1]; rfl, by rw [Lib.cell_of_heap e1]; rfl, by rw [Lib.cell_of_heap e1]; rfl, by rw [Lib.cell_of_heap e1]; rfl, by rw [Lib.cell_of_heap e1]; rfl⟩, by rw [Lib.cell_of_heap e2]; rfl, by rw [Lib.cell_of_heap e2]; rfl⟩
  have HW : Hid (∀ W', Below V.heap.size V W' → Below W.heap.size W W') := fun W' hW => bel_then hb0 hb0.size hW
  have hmx : U64 (max q.fl floor) := ⟨by have := hq.f0.1; omega, by have := hq.f0.2; have := hfl.2; omega⟩
  have hsv := hs
  clear h1 h2 hs hb0
  have HATa : Hid (∀ W', Below V.heap.size V W' → Calls Tryz.prog 10 #[.pointer (some ⟨ga, 0, none⟩), .agg #[.int .u64 (max q.fl floor), .int .u64 q.sn], .int .u64 q.t, .agg #[.string q.a, .string q.b]] W' fun e w' => RdV W' (pastAt D (max q.fl floor) q.sn q.t q.key) e w') := fun W' hW => S.at' (ha.on (HW.out W' hW)) hna (max q.fl floor) q.sn q.t q.key hmx hq.s0 hq.t0 hq.kfit
  have HATb : Hid (∀ W', Below V.heap.size V W' → Calls Tryz.prog 10 #[.pointer (some ⟨gb, 0, none⟩), .agg #[.int .u64 (max q.fl floor), .int .u64 q.sn], .int .u64 q.t, .agg #[.string q.a, .string q.b]] W' fun e w' => RdV W' (pastAt E (max q.fl floor) q.sn q.t q.key) e w') := fun W' hW => S.at' (hb.on (HW.out W' hW)) hnb (max q.fl floor) q.sn q.t q.key hmx hq.s0 hq.t0 hq.kfit
  have HFIa : Hid (∀ W', Below V.heap.size V W' → Calls Tryz.prog 14 #[.pointer (some ⟨ga, 0, none⟩), .agg #[.int .u64 (max q.fl floor), .int .u64 q.sn], .int .u64 q.t, .string q.a, .slice q.q q.tm.length q.qc] W' fun e w' => RdF W' (pastFind D (max q.fl floor) q.sn q.t q.a (matchM q.tm)) e w') := fun W' hW => S.find (ha.on (HW.out W' hW)) hna (max q.fl floor) q.sn q.t q.a q.q q.qc q.tm hmx hq.s0 hq.t0 (hq.on (HW.out W' hW)).is hq.fit
  have HFIb : Hid (∀ W', Below V.heap.size V W' → Calls Tryz.prog 14 #[.pointer (some ⟨gb, 0, none⟩), .agg #[.int .u64 (max q.fl floor), .int .u64 q.sn], .int .u64 q.t, .string q.a, .slice q.q q.tm.length q.qc] W' fun e w' => RdF W' (pastFind E (max q.fl floor) q.sn q.t q.a (matchM q.tm)) e w') := fun W' hW => S.find (hb.on (HW.out W' hW)) hnb (max q.fl floor) q.sn q.t q.a q.q q.qc q.tm hmx hq.s0 hq.t0 (hq.on (HW.out W' hW)).is hq.fit
  have HHIa : Hid (∀ W', Below V.heap.size V W' → Calls Tryz.prog 17 #[.pointer (some ⟨ga, 0, none⟩), .agg #[.int .u64 (max q.fl floor), .int .u64 q.sn], .agg #[.string q.a, .string q.b], .int .u64 q.t] W' fun e w' => RdVs W' (pastHist D (max q.fl floor) q.sn q.key q.t) e w') := fun W' hW => S.hist (ha.on (HW.out W' hW)) hna (max q.fl floor) q.sn q.key q.t hmx hq.s0 hq.t0 hq.kfit
  have HHIb : Hid (∀ W', Below V.heap.size V W' → Calls Tryz.prog 17 #[.pointer (some ⟨gb, 0, none⟩), .agg #[.int .u64 (max q.fl floor), .int .u64 q.sn], .agg #[.string q.a, .string q.b], .int .u64 q.t] W' fun e w' => RdVs W' (pastHist E (max q.fl floor) q.sn q.key q.t) e w') := fun W' hW => S.hist (hb.on (HW.out W' hW)) hnb (max q.fl floor) q.sn q.key q.t hmx hq.s0 hq.t0 hq.kfit
  have HSIa : Hid (∀ W', Below V.heap.size V W' → Calls Tryz.prog 20 #[.pointer (some ⟨ga, 0, none⟩), .agg #[.int .u64 (max q.fl floor), .int .u64 q.sn], .string q.a, .int .u64 q.t] W' fun e w' => ∃ L, PastSince D (max q.fl floor) q.sn q.a q.t L ∧ RdF W' L e w') := fun W' hW => S.since (ha.on (HW.out W' hW)) hna (max q.fl floor) q.sn q.a q.t hmx hq.s0 hq.t0
  have HSIb : Hid (∀ W', Below V.heap.size V W' → Calls Tryz.prog 20 #[.pointer (some ⟨gb, 0, none⟩), .agg #[.int .u64 (max q.fl floor), .int .u64 q.sn], .string q.a, .int .u64 q.t] W' fun e w' => ∃ L, PastSince E (max q.fl floor) q.sn q.a q.t L ∧ RdF W' L e w') := fun W' hW => S.since (hb.on (HW.out W' hW)) hnb (max q.fl floor) q.sn q.a q.t hmx hq.s0 hq.t0
  have HNUa : Hid (∀ W', Below V.heap.size V W' → Calls Tryz.prog 22 #[.pointer (some ⟨ga, 0, none⟩), .agg #[.int .u64 (max q.fl floor), .int .u64 q.sn], .agg #[.string q.a, .string q.b], .int .i64 q.n] W' fun e w' => RdV W' (pastNum (ofD D q.key) q.sn q.n) e w') := fun W' hW => S.num (ha.on (HW.out W' hW)) hna (max q.fl floor) q.sn q.key q.n hmx hq.s0 hq.kfit hq.n0.1 hq.n0.2
  have HNUb : Hid (∀ W', Below V.heap.size V W' → Calls Tryz.prog 22 #[.pointer (some ⟨gb, 0, none⟩), .agg #[.int .u64 (max q.fl floor), .int .u64 q.sn], .agg #[.string q.a, .string q.b], .int .i64 q.n] W' fun e w' => RdV W' (pastNum (ofD E q.key) q.sn q.n) e w') := fun W' hW => S.num (hb.on (HW.out W' hW)) hnb (max q.fl floor) q.sn q.key q.n hmx hq.s0 hq.kfit hq.n0.1 hq.n0.2
  have HH : Hid (floor ≤ q.sn → AlikeH D E (max q.fl floor) q.sn q.t (q.a, q.b) (matchM q.tm) q.n) := H
  obtain ⟨⟨c1, c2, c3, c4, c5, c6⟩, d0, d1⟩ := HBX.out V (Below.refl _ _)
  have HSZ : Hid (V.heap.size = Q + 2) := hsv
  clear ha hb hq H hfl hmx hsv
  obtain ⟨fl, sn, t, a, b, qp, qc, tm, qn⟩ := q
  simp only [encAk, Ak.key] at *
  by_cases hsn : sn < floor
  · clear HFIa HFIb HHIa HHIb HSIa HSIb HNUa HNUb HH
    go_enter Tryz.func24, Tryz.ntmps24
    go_wp2_with fail
    try rw [hV]
    try rw [hQ]
    clear hV
    refine (HATa.out V (Below.refl _ _)).mono ?_
    rintro e w1 ⟨x, rfl, hxv, hxr, hb1⟩
    obtain ⟨W1, hW1⟩ : ∃ W1, w1.alloc (.cells (encVx x).toArray 39) = W1 := ⟨_, rfl⟩
    have HB1 : Hid (Below V.heap.size V W1) := by rw [← hW1]; exact bel_then hb1 hb1.size ((Below.refl _ _).alloc (Nat.le_refl _) _)
    clear hxv hxr hb1 c1 c2 c3 c4 c5 c6 d0 d1
    obtain ⟨xn, xs, xt, xl, xp, xc, xo⟩ := x
    simp only [encVx, Vx.sl] at *
    obtain ⟨⟨c1, c2, c3, c4, c5, c6⟩, d0, d1⟩ := HBX.out W1 HB1.out
    go_upto_region 3 with fail
    try rw [hW1]
    go_wp2_with fail
    clear hW1 c1 c2 c3 c4 c5 c6 d0 d1
    refine (HATb.out W1 HB1.out).mono ?_
    rintro e w2 ⟨y, rfl, hyv, hyr, hb2⟩
    obtain ⟨W2, hW2⟩ : ∃ W2, w2.alloc (.cells (encVx y).toArray 39) = W2 := ⟨_, rfl⟩
    have HB2 : Hid (Below V.heap.size V W2) := by rw [← hW2]; exact bel_then HB1.out HB1.out.size (bel_then hb2 hb2.size ((Below.refl _ _).alloc (Nat.le_refl _) _))
    clear hyv hyr hb2
    obtain ⟨yn, ys, yt, yl, yp, yc, yo⟩ := y
    simp only [encVx, Vx.sl] at *
    obtain ⟨⟨c1, c2, c3, c4, c5, c6⟩, d0, d1⟩ := HBX.out W2 HB2.out
    go_upto_region 4 with fail
    try rw [hW2]
    go_wp2_with fail
    go_ret
    exact ⟨rfl, HW.out _ HB2.out⟩
  · have hA := HH.out (by omega)
    obtain ⟨hok, hA1, hA2, hA3, hA4, hA5⟩ := hA
    rw [hA1] at HATa
    rw [hA2] at HFIa
    rw [hA3] at HHIa
    have HA4 := hid hA4
    have HA5 := hid hA5
    clear hA1 hA2 hA3 hA4 hA5 HH hok
    generalize pastAt E (max fl floor) sn t (a, b) = r1 at *
    generalize pastFind E (max fl floor) sn t a (matchM tm) = r2 at *
    generalize pastHist E (max fl floor) sn (a, b) t = r3 at *
    generalize pastNum (ofD D (a, b)) sn qn = r5 at *
    generalize pastNum (ofD E (a, b)) sn qn = r6 at *
    go_enter Tryz.func24, Tryz.ntmps24
    go_wp2_with fail
    try rw [hV]
    try rw [hQ]
    clear hV
    refine (HATa.out V (Below.refl _ _)).mono ?_
    rintro e w1 ⟨x, rfl, hxv, hxr, hb1⟩
    obtain ⟨X, hX⟩ : ∃ X, w1.heap.size = X := ⟨_, rfl⟩
    obtain ⟨W1, hW1⟩ : ∃ W1, w1.alloc (.cells (encVx x).toArray 39) = W1 := ⟨_, rfl⟩
    have hal1 : Below w1.heap.size w1 W1 := by rw [← hW1]; exact (Below.refl _ _).alloc (Nat.le_refl _) _
    have hxb : W1.heap[X]? = some (.cells (encVx x).toArray 39 (0, 0)) := by rw [← hW1, ← hX]; exact heap_alloc_new w1 _
    have HXG : Hid (V.heap.size ≤ X) := by show _ ≤ _; have := hb1.size; omega
    have HXB := hid hxb
    have HB1 : Hid (Below V.heap.size V W1) := bel_then hb1 hb1.size hal1
    have HXR := hid (vat_on hxr hal1)
    have HXV := hid hxv
    clear hxv hxr hb1 hal1 hxb HATa c1 c2 c3 c4 c5 c6 d0 d1
    obtain ⟨xn, xs, xt, xl, xp, xc, xo⟩ := x
    simp only [encVx, Vx.sl] at *
    obtain ⟨⟨c1, c2, c3, c4, c5, c6⟩, d0, d1⟩ := HBX.out W1 HB1.out
    go_upto_region 3 with fail
    try rw [hX]
    try rw [hW1]
    go_wp2_with fail
    clear hW1 hX c1 c2 c3 c4 c5 c6 d0 d1
    refine (HATb.out W1 HB1.out).mono ?_
    rintro e w2 ⟨y, rfl, hyv, hyr, hb2⟩
    obtain ⟨Y, hY⟩ : ∃ Y, w2.heap.size = Y := ⟨_, rfl⟩
    obtain ⟨W2, hW2⟩ : ∃ W2, w2.alloc (.cells (encVx y).toArray 39) = W2 := ⟨_, rfl⟩
    have hal2 : Below w2.heap.size w2 W2 := by rw [← hW2]; exact (Below.refl _ _).alloc (Nat.le_refl _) _
    have hyb : W2.heap[Y]? = some (.cells (encVx y).toArray 39 (0, 0)) := by rw [← hW2, ← hY]; exact heap_alloc_new w2 _
    have hb12 : Below W1.heap.size W1 W2 := bel_then hb2 hb2.size hal2
    have HXY : Hid (X < Y) := by show _ < _; have h1 := (Array.getElem?_eq_some_iff.1 HXB.out).1; have := hb2.size; omega
    have HB2 : Hid (Below V.heap.size V W2) := bel_then HB1.out HB1.out.size hb12
    have hxb2 := (hb12.block X (Array.getElem?_eq_some_iff.1 HXB.out).1).trans HXB.out
    have HXB2 := hid hxb2
    have HYB2 := hid hyb
    have HCM := hid (eq14V (w := W2) (HXV.out.trans hyv.symm) (vat_on HXR.out hb12) (vat_on hyr hal2))
    clear hyv hyr hb2 hal2 HATb HXR HXV HXB
    obtain ⟨yn, ys, yt, yl, yp, yc, yo⟩ := y
    simp only [encVx, Vx.sl] at *
    have x0 : W2.cell? ⟨X, 0, none⟩ = some (.int .i64 xn) := by rw [Lib.cell_of_heap hxb2]; rfl
    have x1 : W2.cell? ⟨X, 1, none⟩ = some (.int .u64 xs) := by rw [Lib.cell_of_heap hxb2]; rfl
    have x2 : W2.cell? ⟨X, 2, none⟩ = some (.int .i64 xt) := by rw [Lib.cell_of_heap hxb2]; rfl
    have x3 : W2.cell? ⟨X, 3, none⟩ = some (.bool xl) := by rw [Lib.cell_of_heap hxb2]; rfl
    have x4 : W2.cell? ⟨X, 4, none⟩ = some (.slice xp xo.length xc) := by rw [Lib.cell_of_heap hxb2]; rfl
    have y0 : W2.cell? ⟨Y, 0, none⟩ = some (.int .i64 yn) := by rw [Lib.cell_of_heap hyb]; rfl
    have y1 : W2.cell? ⟨Y, 1, none⟩ = some (.int .u64 ys) := by rw [Lib.cell_of_heap hyb]; rfl
    have y2 : W2.cell? ⟨Y, 2, none⟩ = some (.int .i64 yt) := by rw [Lib.cell_of_heap hyb]; rfl
    have y3 : W2.cell? ⟨Y, 3, none⟩ = some (.bool yl) := by rw [Lib.cell_of_heap hyb]; rfl
    have y4 : W2.cell? ⟨Y, 4, none⟩ = some (.slice yp yo.length yc) := by rw [Lib.cell_of_heap hyb]; rfl
    clear hxb2 hyb hb12
    obtain ⟨⟨c1, c2, c3, c4, c5, c6⟩, d0, d1⟩ := HBX.out W2 HB2.out
    go_upto_region 4 with fail
    try rw [hY]
    try rw [hW2]
    go_wp2_with fail
    clear hW2 hY c1 c2 c3 c4 c5 c6 d0 d1 x0 x1 x2 x3 x4 y0 y1 y2 y3 y4
    refine HCM.out.mono ?_
    rintro e w3 ⟨rfl, hb3⟩
    have HB3 : Hid (Below V.heap.size V w3) := bel_then HB2.out HB2.out.size hb3
    have HXB3 := hid ((hb3.block X (Array.getElem?_eq_some_iff.1 HXB2.out).1).trans HXB2.out)
    have HYB3 := hid ((hb3.block Y (Array.getElem?_eq_some_iff.1 HYB2.out).1).trans HYB2.out)
    clear hb3 HCM HXB2 HYB2
    obtain ⟨⟨c1, c2, c3, c4, c5, c6⟩, d0, d1⟩ := HBX.out w3 HB3.out
    go_wp2_with fail
    clear c1 c2 c3 c4 c5 c6 d0 d1
    refine (HFIa.out w3 HB3.out).mono ?_
    rintro e w4 ⟨p1, q1, o1, rfl, hi1, he1, hm1, hl1, hb4⟩
    have HB4 : Hid (Below V.heap.size V w4) := bel_then HB3.out HB3.out.size hb4
    have HXB4 := hid ((hb4.block X (Array.getElem?_eq_some_iff.1 HXB3.out).1).trans HXB3.out)
    have HYB4 := hid ((hb4.block Y (Array.getElem?_eq_some_iff.1 HYB3.out).1).trans HYB3.out)
    have HI1 := hid hi1
    have HE1 := hid he1
    have HM1 := hid hm1
    have HL1 := hid hl1
    clear hi1 he1 hm1 hl1 hb4 HXB3 HYB3 HFIa
    obtain ⟨⟨c1, c2, c3, c4, c5, c6⟩, d0, d1⟩ := HBX.out w4 HB4.out
    go_wp2_with fail
    clear c1 c2 c3 c4 c5 c6 d0 d1
    refine (HFIb.out w4 HB4.out).mono ?_
    rintro e w5 ⟨p2, q2, o2, rfl, hi2, he2, hm2, hl2, hb5⟩
    have HB5 : Hid (Below V.heap.size V w5) := bel_then HB4.out HB4.out.size hb5
    have HXB5 := hid ((hb5.block X (Array.getElem?_eq_some_iff.1 HXB4.out).1).trans HXB4.out)
    have HYB5 := hid ((hb5.block Y (Array.getElem?_eq_some_iff.1 HYB4.out).1).trans HYB4.out)
    have HCM := hid (eq14F (HM1.out.trans hm2.symm) (Kind.is_kept HI1.out hb5) hi2 (fun z hz => vat_on (HE1.out z hz) hb5) he2 HL1.out)
    clear hi2 he2 hm2 hl2 hb5 HI1 HE1 HM1 HL1 HXB4 HYB4 HFIb
    go_wp2_with fail
    refine HCM.out.mono ?_
    rintro e w6 ⟨rfl, hb6⟩
    have HB6 : Hid (Below V.heap.size V w6) := bel_then HB5.out HB5.out.size hb6
    have HXB6 := hid ((hb6.block X (Array.getElem?_eq_some_iff.1 HXB5.out).1).trans HXB5.out)
    have HYB6 := hid ((hb6.block Y (Array.getElem?_eq_some_iff.1 HYB5.out).1).trans HYB5.out)
    clear hb6 HCM HXB5 HYB5
    obtain ⟨⟨c1, c2, c3, c4, c5, c6⟩, d0, d1⟩ := HBX.out w6 HB6.out
    go_wp2_with fail
    clear c1 c2 c3 c4 c5 c6 d0 d1
    refine (HHIa.out w6 HB6.out).mono ?_
    rintro e w7 ⟨p1, q1, o1, rfl, hi1, he1, hm1, hl1, hb4⟩
    have HB7 : Hid (Below V.heap.size V w7) := bel_then HB6.out HB6.out.size hb4
    have HXB7 := hid ((hb4.block X (Array.getElem?_eq_some_iff.1 HXB6.out).1).trans HXB6.out)
    have HYB7 := hid ((hb4.block Y (Array.getElem?_eq_some_iff.1 HYB6.out).1).trans HYB6.out)
    have HI1 := hid hi1
    have HE1 := hid he1
    have HM1 := hid hm1
    have HL1 := hid hl1
    clear hi1 he1 hm1 hl1 hb4 HXB6 HYB6 HHIa
    obtain ⟨⟨c1, c2, c3, c4, c5, c6⟩, d0, d1⟩ := HBX.out w7 HB7.out
    go_wp2_with fail
    clear c1 c2 c3 c4 c5 c6 d0 d1
    refine (HHIb.out w7 HB7.out).mono ?_
    rintro e w8 ⟨p2, q2, o2, rfl, hi2, he2, hm2, hl2, hb5⟩
    have HB8 : Hid (Below V.heap.size V w8) := bel_then HB7.out HB7.out.size hb5
    have HXB8 := hid ((hb5.block X (Array.getElem?_eq_some_iff.1 HXB7.out).1).trans HXB7.out)
    have HYB8 := hid ((hb5.block Y (Array.getElem?_eq_some_iff.1 HYB7.out).1).trans HYB7.out)
    have HCM := hid (eq14Vs (HM1.out.trans hm2.symm) (Kind.is_kept HI1.out hb5) hi2 (fun z hz => vat_on (HE1.out z hz) hb5) he2 HL1.out)
    clear hi2 he2 hm2 hl2 hb5 HI1 HE1 HM1 HL1 HXB7 HYB7 HHIb
    go_wp2_with fail
    refine HCM.out.mono ?_
    rintro e w9 ⟨rfl, hb6⟩
    have HB9 : Hid (Below V.heap.size V w9) := bel_then HB8.out HB8.out.size hb6
    have HXB9 := hid ((hb6.block X (Array.getElem?_eq_some_iff.1 HXB8.out).1).trans HXB8.out)
    have HYB9 := hid ((hb6.block Y (Array.getElem?_eq_some_iff.1 HYB8.out).1).trans HYB8.out)
    clear hb6 HCM HXB8 HYB8
    obtain ⟨⟨c1, c2, c3, c4, c5, c6⟩, d0, d1⟩ := HBX.out w9 HB9.out
    go_wp2_with fail
    clear c1 c2 c3 c4 c5 c6 d0 d1
    refine (HSIa.out w9 HB9.out).mono ?_
    rintro e w10 ⟨L1, hL1, p1, q1, o1, rfl, hi1, he1, hm1, hl1, hb4⟩
    have HB10 : Hid (Below V.heap.size V w10) := bel_then HB9.out HB9.out.size hb4
    have HXB10 := hid ((hb4.block X (Array.getElem?_eq_some_iff.1 HXB9.out).1).trans HXB9.out)
    have HYB10 := hid ((hb4.block Y (Array.getElem?_eq_some_iff.1 HYB9.out).1).trans HYB9.out)
    have HI1 := hid hi1
    have HE1 := hid he1
    have HM1 := hid hm1
    have HL1 := hid hl1
    clear hi1 he1 hm1 hl1 hb4 HXB9 HYB9 HSIa
    obtain ⟨⟨c1, c2, c3, c4, c5, c6⟩, d0, d1⟩ := HBX.out w10 HB10.out
    go_wp2_with fail
    clear c1 c2 c3 c4 c5 c6 d0 d1
    refine (HSIb.out w10 HB10.out).mono ?_
    rintro e w11 ⟨L2, hL2, p2, q2, o2, rfl, hi2, he2, hm2, hl2, hb5⟩
    obtain rfl := HA4.out _ _ hL1 hL2
    have HB11 : Hid (Below V.heap.size V w11) := bel_then HB10.out HB10.out.size hb5
    have HXB11 := hid ((hb5.block X (Array.getElem?_eq_some_iff.1 HXB10.out).1).trans HXB10.out)
    have HYB11 := hid ((hb5.block Y (Array.getElem?_eq_some_iff.1 HYB10.out).1).trans HYB10.out)
    have HCM := hid (eq14F (HM1.out.trans hm2.symm) (Kind.is_kept HI1.out hb5) hi2 (fun z hz => vat_on (HE1.out z hz) hb5) he2 HL1.out)
    clear hi2 he2 hm2 hl2 hb5 HI1 HE1 HM1 HL1 HXB10 HYB10 HSIb
    go_wp2_with fail
    refine HCM.out.mono ?_
    rintro e w12 ⟨rfl, hb6⟩
    have HB12 : Hid (Below V.heap.size V w12) := bel_then HB11.out HB11.out.size hb6
    have HXB12 := hid ((hb6.block X (Array.getElem?_eq_some_iff.1 HXB11.out).1).trans HXB11.out)
    have HYB12 := hid ((hb6.block Y (Array.getElem?_eq_some_iff.1 HYB11.out).1).trans HYB11.out)
    clear hb6 HCM HXB11 HYB11
    obtain ⟨⟨c1, c2, c3, c4, c5, c6⟩, d0, d1⟩ := HBX.out w12 HB12.out
    go_wp2_with fail
    clear c1 c2 c3 c4 c5 c6 d0 d1
    refine (HNUa.out w12 HB12.out).mono ?_
    rintro e w13 ⟨u, rfl, huv, hur, hb4⟩
    have hxb4 := (hb4.block X (Array.getElem?_eq_some_iff.1 HXB12.out).1).trans HXB12.out
    have hyb4 := (hb4.block Y (Array.getElem?_eq_some_iff.1 HYB12.out).1).trans HYB12.out
    have HB4 : Hid (Below V.heap.size V w13) := bel_then HB12.out HB12.out.size hb4
    obtain ⟨un, us, ut, ul, up, uc, uo⟩ := u
    obtain ⟨W7, hW7⟩ : ∃ W7, (((((w13.setCell ⟨X, 0, none⟩ (.int .i64 un)).setCell ⟨X, 1, none⟩ (.int .u64 us)).setCell ⟨X, 2, none⟩ (.int .i64 ut)).setCell ⟨X, 3, none⟩ (.bool ul)).setCell ⟨X, 4, none⟩ (.slice up uo.length uc)) = W7 := ⟨_, rfl⟩
    have hxb7 : W7.heap[X]? = some (.cells #[.int .i64 un, .int .u64 us, .int .i64 ut, .bool ul, .slice up uo.length uc] 39 (0, 0)) := by
      rw [← hW7]
      exact heap_setCell_same _ X 4 _ _ _ (heap_setCell_same _ X 3 _ _ _ (heap_setCell_same _ X 2 _ _ _ (heap_setCell_same _ X 1 _ _ _ (heap_setCell_same _ X 0 _ _ _ (hxb4)))))
    have f7 : Fr (fun b => b = X) w13 W7 := by
      rw [← hW7]
      exact (((((fr_set14 w13 X 0 _).then (fr_set14 _ X 1 _) fun k hk => Or.inl hk).then (fr_set14 _ X 2 _) fun k hk => Or.inl hk).then (fr_set14 _ X 3 _) fun k hk => Or.inl hk).then (fr_set14 _ X 4 _) fun k hk => Or.inl hk)
    have hyb7 := (f7.block Y (Array.getElem?_eq_some_iff.1 hyb4).1 (by have := HXY.out; omega)).trans hyb4
    have HB7 : Hid (Below V.heap.size V W7) := HB4.out.trans (f7.below HB4.out.size fun k hk => by have := HXG.out; omega)
    have HUR : Hid (Vx.at W7 ⟨un, us, ut, ul, up, uc, uo⟩ ∧ FitX uo) := ⟨is_setV hur.1 hxb4 f7, hur.2⟩
    have HUV := hid huv
    have HXB7 := hid hxb7
    have HYB7 := hid hyb7
    have x0 : w13.cell? ⟨X, 0, none⟩ = some (.int .i64 xn) := by rw [Lib.cell_of_heap hxb4]; rfl
    have z0 : w13.frozen? ⟨X, 0, none⟩ = false := Lib.frozen_of_heap hxb4 0
    have x1 : w13.cell? ⟨X, 1, none⟩ = some (.int .u64 xs) := by rw [Lib.cell_of_heap hxb4]; rfl
    have z1 : w13.frozen? ⟨X, 1, none⟩ = false := Lib.frozen_of_heap hxb4 1
    have x2 : w13.cell? ⟨X, 2, none⟩ = some (.int .i64 xt) := by rw [Lib.cell_of_heap hxb4]; rfl
    have z2 : w13.frozen? ⟨X, 2, none⟩ = false := Lib.frozen_of_heap hxb4 2
    have x3 : w13.cell? ⟨X, 3, none⟩ = some (.bool xl) := by rw [Lib.cell_of_heap hxb4]; rfl
    have z3 : w13.frozen? ⟨X, 3, none⟩ = false := Lib.frozen_of_heap hxb4 3
    have x4 : w13.cell? ⟨X, 4, none⟩ = some (.slice xp xo.length xc) := by rw [Lib.cell_of_heap hxb4]; rfl
    have z4 : w13.frozen? ⟨X, 4, none⟩ = false := Lib.frozen_of_heap hxb4 4
    clear huv hur hb4 hxb7 hyb7 f7 hyb4 HNUa HXB12 HYB12
    simp only [encVx, Vx.sl] at *
    clear hxb4
    obtain ⟨⟨c1, c2, c3, c4, c5, c6⟩, d0, d1⟩ := HBX.out W7 HB7.out
    go_upto_region 21 with fail
    try rw [hW7]
    clear x0 x1 x2 x3 x4 z0 z1 z2 z3 z4 hW7
    go_wp2_with fail
    clear c1 c2 c3 c4 c5 c6 d0 d1
    refine (HNUb.out W7 HB7.out).mono ?_
    rintro e w14 ⟨v, rfl, hvv, hvr, hb8⟩
    have hxb8 := (hb8.block X (Array.getElem?_eq_some_iff.1 HXB7.out).1).trans HXB7.out
    have hyb8 := (hb8.block Y (Array.getElem?_eq_some_iff.1 HYB7.out).1).trans HYB7.out
    have HB8 : Hid (Below V.heap.size V w14) := bel_then HB7.out HB7.out.size hb8
    obtain ⟨vn, vs, vt, vl, vp, vc, vo⟩ := v
    obtain ⟨W9, hW9⟩ : ∃ W9, (((((w14.setCell ⟨Y, 0, none⟩ (.int .i64 vn)).setCell ⟨Y, 1, none⟩ (.int .u64 vs)).setCell ⟨Y, 2, none⟩ (.int .i64 vt)).setCell ⟨Y, 3, none⟩ (.bool vl)).setCell ⟨Y, 4, none⟩ (.slice vp vo.length vc)) = W9 := ⟨_, rfl⟩
    have hyb9 : W9.heap[Y]? = some (.cells #[.int .i64 vn, .int .u64 vs, .int .i64 vt, .bool vl, .slice vp vo.length vc] 39 (0, 0)) := by
      rw [← hW9]
      exact heap_setCell_same _ Y 4 _ _ _ (heap_setCell_same _ Y 3 _ _ _ (heap_setCell_same _ Y 2 _ _ _ (heap_setCell_same _ Y 1 _ _ _ (heap_setCell_same _ Y 0 _ _ _ (hyb8)))))
    have f9 : Fr (fun b => b = Y) w14 W9 := by
      rw [← hW9]
      exact (((((fr_set14 w14 Y 0 _).then (fr_set14 _ Y 1 _) fun k hk => Or.inl hk).then (fr_set14 _ Y 2 _) fun k hk => Or.inl hk).then (fr_set14 _ Y 3 _) fun k hk => Or.inl hk).then (fr_set14 _ Y 4 _) fun k hk => Or.inl hk)
    have hxb9 := (f9.block X (Array.getElem?_eq_some_iff.1 hxb8).1 (by have := HXY.out; omega)).trans hxb8
    have HB9 : Hid (Below V.heap.size V W9) := HB8.out.trans (f9.below HB8.out.size fun k hk => by have := HXG.out; have := HXY.out; omega)
    have HVR : Hid (Vx.at W9 ⟨vn, vs, vt, vl, vp, vc, vo⟩ ∧ FitX vo) := ⟨is_setV hvr.1 hyb8 f9, hvr.2⟩
    have HUR9 : Hid (Vx.at W9 ⟨un, us, ut, ul, up, uc, uo⟩ ∧ FitX uo) := ⟨is_setV (HUR.out.1.kept hb8) hyb8 f9, HUR.out.2⟩
    have HCM : Hid (r5 = r6 → Calls Tryz.prog 12 #[.agg (encVx ⟨un, us, ut, ul, up, uc, uo⟩).toArray, .agg (encVx ⟨vn, vs, vt, vl, vp, vc, vo⟩).toArray] W9 fun e w' => e = .returned (.bool true) ∧ Below W9.heap.size W9 w') := fun h => by
      rw [h] at HUV
      exact eq14V (HUV.out.trans hvv.symm) HUR9.out HVR.out
    have y0 : w14.cell? ⟨Y, 0, none⟩ = some (.int .i64 yn) := by rw [Lib.cell_of_heap hyb8]; rfl
    have t0 : w14.frozen? ⟨Y, 0, none⟩ = false := Lib.frozen_of_heap hyb8 0
    have y1 : w14.cell? ⟨Y, 1, none⟩ = some (.int .u64 ys) := by rw [Lib.cell_of_heap hyb8]; rfl
    have t1 : w14.frozen? ⟨Y, 1, none⟩ = false := Lib.frozen_of_heap hyb8 1
    have y2 : w14.cell? ⟨Y, 2, none⟩ = some (.int .i64 yt) := by rw [Lib.cell_of_heap hyb8]; rfl
    have t2 : w14.frozen? ⟨Y, 2, none⟩ = false := Lib.frozen_of_heap hyb8 2
    have y3 : w14.cell? ⟨Y, 3, none⟩ = some (.bool yl) := by rw [Lib.cell_of_heap hyb8]; rfl
    have t3 : w14.frozen? ⟨Y, 3, none⟩ = false := Lib.frozen_of_heap hyb8 3
    have y4 : w14.cell? ⟨Y, 4, none⟩ = some (.slice yp yo.length yc) := by rw [Lib.cell_of_heap hyb8]; rfl
    have t4 : w14.frozen? ⟨Y, 4, none⟩ = false := Lib.frozen_of_heap hyb8 4
    have p0 : W9.cell? ⟨X, 0, none⟩ = some (.int .i64 un) := by rw [Lib.cell_of_heap hxb9]; rfl
    have s0 : W9.cell? ⟨Y, 0, none⟩ = some (.int .i64 vn) := by rw [Lib.cell_of_heap hyb9]; rfl
    have p1 : W9.cell? ⟨X, 1, none⟩ = some (.int .u64 us) := by rw [Lib.cell_of_heap hxb9]; rfl
    have s1 : W9.cell? ⟨Y, 1, none⟩ = some (.int .u64 vs) := by rw [Lib.cell_of_heap hyb9]; rfl
    have p2 : W9.cell? ⟨X, 2, none⟩ = some (.int .i64 ut) := by rw [Lib.cell_of_heap hxb9]; rfl
    have s2 : W9.cell? ⟨Y, 2, none⟩ = some (.int .i64 vt) := by rw [Lib.cell_of_heap hyb9]; rfl
    have p3 : W9.cell? ⟨X, 3, none⟩ = some (.bool ul) := by rw [Lib.cell_of_heap hxb9]; rfl
    have s3 : W9.cell? ⟨Y, 3, none⟩ = some (.bool vl) := by rw [Lib.cell_of_heap hyb9]; rfl
    have p4 : W9.cell? ⟨X, 4, none⟩ = some (.slice up uo.length uc) := by rw [Lib.cell_of_heap hxb9]; rfl
    have s4 : W9.cell? ⟨Y, 4, none⟩ = some (.slice vp vo.length vc) := by rw [Lib.cell_of_heap hyb9]; rfl
    clear hvv hvr hb8 hxb8 hyb9 f9 hxb9 HNUb HXB7 HYB7 HUR HVR HUR9 HUV
    simp only [encVx, Vx.sl] at *
    clear hyb8
    go_upto_region 22 with fail
    try rw [hW9]
    clear y0 y1 y2 y3 y4 t0 t1 t2 t3 t4 hW9
    rcases HA5.out with h5 | ⟨h5, vq, h6⟩
    · subst h5
      have HC := hid (HCM.out rfl)
      clear HCM HA5
      obtain ⟨ro, rc⟩ := r5
      simp only at *
      by_cases h8 : rc = 8
      · subst h8
        go_wp2_with fail
        refine HC.out.mono ?_
        rintro e w' ⟨rfl, hb'⟩
        have HBE := hid (bel_then HB9.out HB9.out.size hb')
        clear hb'
        go_wp2_with fail
        go_ret
        exact ⟨rfl, HW.out _ HBE.out⟩
      · have h8' : (rc == 8) = false := by rw [beq_eq_false_iff_ne]; exact h8
        go_wp2_with fail
        refine HC.out.mono ?_
        rintro e w' ⟨rfl, hb'⟩
        have HBE := hid (bel_then HB9.out HB9.out.size hb')
        clear hb'
        go_wp2_with fail
        go_ret
        exact ⟨rfl, HW.out _ HBE.out⟩
    · subst h5 h6
      clear HCM HA5
      simp only at *
      go_wp2_with fail
      go_ret
      exact ⟨rfl, HW.out _ HB9.out⟩

end Go.Proofs.YticfpkodoghnnaaGreat

/-
  PastVacuum (stage 14), over the contracts of package past.
-/
namespace Go.Proofs.YticfpkodoghnnaaGreat
open Go.RowKit

/-- What fixed answers. -/
def Fixed14 : Prop := ∀ W : World, Calls Tryz.prog 8 #[] W fun e w' => e = .returned (.bool true) ∧ Below W.heap.size W w'

/-- The greatest stamp of a prune. -/
def floorP (l : List Pt) : Int := l.foldl (fun f x => if x.prune then max f x.stamp else f) 0
theorem floorP_snoc (l : List Pt) (x : Pt) : floorP (l ++ [x]) = if x.prune then max (floorP l) x.stamp else floorP l := by
  unfold floorP
  rw [List.foldl_append]
  rfl
theorem floorP_ge : ∀ (l : List Pt) (f : Int), f ≤ l.foldl (fun f x => if x.prune then max f x.stamp else f) f ∧ ∀ x ∈ l, x.prune = true → x.stamp ≤ l.foldl (fun f x => if x.prune then max f x.stamp else f) f
  | [], f => ⟨Int.le_refl _, fun x hx => by cases hx⟩
  | x :: l, f => by
    obtain ⟨h1, h2⟩ := floorP_ge l (if x.prune then max f x.stamp else f)
    rw [List.foldl_cons]
    refine ⟨?_, fun y hy hp => ?_⟩
    · refine Int.le_trans ?_ h1
      split <;> omega
    · rcases List.mem_cons.1 hy with rfl | hy
      · refine Int.le_trans ?_ h1
        rw [if_pos hp]
        omega
      · exact h2 y hy hp
theorem floorP_u64 (l : List Pt) (h : ∀ x ∈ l, U64 x.stamp) : U64 (floorP l) := by
  have : ∀ (l : List Pt) (f : Int), (∀ x ∈ l, U64 x.stamp) → U64 f → U64 (l.foldl (fun f x => if x.prune then max f x.stamp else f) f) := fun l => by
    induction l with
    | nil => intro f _ hf; exact hf
    | cons x l ih =>
      intro f hl hf
      rw [List.foldl_cons]
      refine ih _ (fun y hy => hl y (List.mem_cons_of_mem _ hy)) ?_
      have hx := hl x List.mem_cons_self
      unfold U64 at *
      split
      · show 0 ≤ max f x.stamp ∧ max f x.stamp ≤ 18446744073709551615
        rw [Int.max_def]
        split <;> omega
      · exact hf
  exact this l 0 h ⟨by omega, by omega⟩

theorem okD_put14 {D : List RowD} (h : OkD D) (k : Ky) {stamp : Int} (h0 : 0 ≤ stamp) (tick : Int) (live : Bool) (val : List Fld) : OkD (putD D k stamp tick live val) := by
  unfold putD
  split
  · next hc =>
    refine okD_set h k (ok_put (ofD_ok h k) h0 (old := 8) (field := 3) (none := 6) (may := mayB val) (by decide) (by decide) (by decide) ?_) (putV_ne _ _ _ _ _)
    unfold codeD at hc
    split at hc
    · exact hc
    · cases hc
  · exact h
/-- Puts with prunes, and without them. -/
theorem suf_laid {F : Int} : ∀ (l : List Pt) {D E : List RowD}, (∀ x ∈ l, x.prune = true → x.stamp ≤ F) → (∀ x ∈ l, 0 ≤ x.stamp) → OkD E → SufD F D E → SufD F (l.foldl (stepP true) D) (l.foldl (stepP false) E)
  | [], _, _, _, _, _, h => h
  | x :: l, D, E, hp, hk, ho, h => by
    rw [List.foldl_cons, List.foldl_cons]
    refine suf_laid l (fun y hy => hp y (List.mem_cons_of_mem _ hy)) (fun y hy => hk y (List.mem_cons_of_mem _ hy)) ?_ ?_
    · unfold stepP
      split
      · exact ho
      · exact okD_put14 ho _ (hk x List.mem_cons_self) _ _ _
    · unfold stepP
      split
      · next hx => exact sufD_prune ho h (hp x List.mem_cons_self hx)
      · exact sufD_put h _ _ _ _ _

theorem vac_alike {l : List Pt} (hl : ∀ x ∈ l, U64 x.stamp) (hD : OkD (laidP true l)) (hE : OkD (laidP false l)) (q : Ak) (hs : floorP l ≤ q.sn) : AlikeH (laidP true l) (laidP false l) (max q.fl (floorP l)) q.sn q.t q.key (matchM q.tm) q.n := by
  have h : SufD (floorP l) (laidP true l) (laidP false l) := suf_laid l (fun x hx hp => (floorP_ge l 0).2 x hx hp) (fun x hx => (hl x hx).1) okD_nil (sufD_refl _ _)
  have hf : floorP l ≤ max q.fl (floorP l) := by omega
  exact ⟨hD, vac_at hE h hf hs _ _, vac_find hD hE h hf hs _ _ _, vac_hist hE h hf _ _, fun L M hL hM => vac_since hD hE h hf hL hM, suf_pastNum (ofD_ok hE _) (h _) hs _⟩

set_option maxHeartbeats 8000000 in
set_option maxRecDepth 100000 in
theorem vacuum14_any (S : PastApi) (HFX : Fixed14) (v u : Value) (l : List Pt) (qs : List Ak) (w : World) (hv : KPt.Is w v l) (hu : KAk.Is w u qs) (hx : ∀ x ∈ l, PtIn w x) (hy : ∀ x ∈ qs, AkIn w x) (hl : l.length ≤ 1760000000000) (hql : qs.length ≤ 9000000000000000000) :
    Calls Tryz.prog 4 #[v, u] w fun e w' => e = .returned (.bool true) ∧ Below w.heap.size w w' := by
  have HL1 : Hid (∀ W, Below w.heap.size w W → Calls Tryz.prog 9 #[v, .bool true] W fun e w' => LaidP W true l e w') := fun W hW => laidP_any v l true W (Kind.is_kept hv hW) (fun x h => (hx x h).on hW) (by omega)
  have HL2 : Hid (∀ W, Below w.heap.size w W → Calls Tryz.prog 9 #[v, .bool false] W fun e w' => LaidP W false l e w') := fun W hW => laidP_any v l false W (Kind.is_kept hv hW) (fun x h => (hx x h).on hW) (by omega)
  have HST : Hid (∀ x ∈ l, U64 x.stamp) := fun x h => ⟨(hx x h).lo, (hx x h).hi⟩
  obtain ⟨p, cap, rfl, hd⟩ := hv
  obtain ⟨p2, cap2, rfl, hd2⟩ := hu
  have HD := hid hd
  have HD2 := hid hd2
  have HY := hid hy
  have HF := hid (HFX w)
  clear hd hd2 hx hy
  go_enter Tryz.func4, Tryz.ntmps4
  go_wp2_with fail
  refine HF.out.mono ?_
  rintro e w1 ⟨rfl, hb1⟩
  have HB1 := hid hb1
  have HC1 := hid (HL1.out w1 hb1)
  clear hb1 HF HL1
  go_wp2_with fail
  refine HC1.out.mono ?_
  rintro e w2 ⟨ga, gah, rfl, hA2⟩
  have hb2 : Below w.heap.size w w2 := bel_then HB1.out HB1.out.size hA2.choose_spec.2
  have HA2 := hid hA2
  have HB2 := hid hb2
  have HC2 := hid (HL2.out w2 hb2)
  clear hA2 hb2 HC1 HL2
  go_wp2_with fail
  refine HC2.out.mono ?_
  rintro e w3 ⟨gb, gbh, rfl, hA3⟩
  have hb23 : Below w2.heap.size w2 w3 := hA3.choose_spec.2
  have HA3 := hid hA3
  have HA2' := hid (HA2.out.on hb23)
  have HB3 := hid (bel_then HB2.out HB2.out.size hb23)
  have HDA : Hid (∀ W, Below w3.heap.size w3 W → DirS w1.heap.size ga l.length (laidP true l) W ∧ DirS w2.heap.size gb l.length (laidP false l) W) := fun W hW => by
    obtain ⟨B, h1, _⟩ := HA2'.out.on hW
    obtain ⟨C, h2, _⟩ := HA3.out.on hW
    exact ⟨h1.dirS, h2.dirS⟩
  clear hA3 hb23 HC2 HA2 HA2' HA3 HB1 HB2
  go_wp2_with fail
  go_loopg [9, 28] l.length (fun gg v9 vi wr => ∃ (i : Nat) (f : Int), v9 = .int .u64 f ∧ vi = .int .i64 i ∧ i ≤ l.length ∧ l.length - i ≤ gg ∧ Hid (f = floorP (l.take i) ∧ Below w3.heap.size w3 wr))
  case atStart => exact ⟨0, 0, rfl, rfl, by omega, by omega, by simp [floorP], Below.refl _ _⟩
  case round =>
    obtain ⟨i, f, rfl, rfl, hi, hgk, HI⟩ := hrel
    by_cases hlt : i < l.length
    · have hltz : (i : Int) < (l.length : Int) := by omega
      have hiz : (0 : Int) ≤ i := by omega
      obtain ⟨b1, o1, rfl, k1⟩ : ∃ b off, p = some ⟨b, off, none⟩ ∧ KPt.At w b off l := by
        rcases HD.out with h | h
        · rw [h] at hlt; simp at hlt
        · exact h
      have hbw : Below w.heap.size w wr := bel_then HB3.out HB3.out.size HI.out.2
      obtain ⟨y0, y1, y2, y3, y4, y5⟩ := kpt_at (Kind.at_kept k1 hbw) i hlt
      have htk : l.take (i + 1) = l.take i ++ [l[i]] := List.take_succ_eq_append_getElem hlt
      have HNX : Hid (floorP (l.take (i + 1)) = if (l[i]).prune then max f (l[i]).stamp else f) := by show _ = _; rw [htk, floorP_snoc, HI.out.1]
      generalize l[i] = x at *
      obtain ⟨Vb, hVb⟩ : ∃ Vb, wr.alloc (.cells (encPt x).toArray 62) = Vb := ⟨_, rfl⟩
      obtain ⟨Q, hQ⟩ : ∃ Q, wr.heap.size = Q := ⟨_, rfl⟩
      have hbx : Vb.heap[Q]? = some (.cells (encPt x).toArray 62 (0, 0)) := by rw [← hVb, ← hQ]; exact heap_alloc_new wr _
      have HBV : Hid (Below w3.heap.size w3 Vb) := by rw [← hVb]; exact bel_then HI.out.2 HI.out.2.size ((Below.refl _ _).alloc (Nat.le_refl _) _)
      have d0 : Vb.cell? ⟨Q, 0, none⟩ = some (.bool x.prune) := by rw [Lib.cell_of_heap hbx]; rfl
      have d3 : Vb.cell? ⟨Q, 3, none⟩ = some (.int .u64 x.stamp) := by rw [Lib.cell_of_heap hbx]; rfl
      clear hbx k1 htk hbw HI
      obtain ⟨xr, xa, xb, xs, xl, xp, xc, xo⟩ := x
      simp only [encPt] at *
      go_upto_region 9 with fail
      try rw [hQ]
      try rw [hVb]
      clear hVb y0 y1 y2 y3 y4 y5
      cases xr with
      | true =>
        have HE : Hid (max f xs = floorP (l.take (i + 1))) := by show _ = _; rw [HNX.out, if_pos rfl]
        clear HNX
        go_wp2_with fail
        go_roundg (l.length - (i + 1))
        case measure => omega
        exact ⟨i + 1, _, rfl, by go_num, by omega, by omega, HE.out, HBV.out⟩
      | false =>
        have HE : Hid (f = floorP (l.take (i + 1))) := by show _ = _; rw [HNX.out]; rfl
        clear HNX
        go_wp2_with fail
        go_roundg (l.length - (i + 1))
        case measure => omega
        exact ⟨i + 1, _, rfl, by go_num, by omega, by omega, HE.out, HBV.out⟩
    · have hltz : ¬ (i : Int) < (l.length : Int) := by omega
      have hti : l.take i = l := List.take_of_length_le (by omega)
      rw [hti] at HI
      have hfl : f = floorP l := HI.out.1
      have HFU : Hid (U64 f) := by rw [hfl]; exact floorP_u64 l HST.out
      have HAL : Hid (∀ q : Ak, f ≤ q.sn → AlikeH (laidP true l) (laidP false l) (max q.fl f) q.sn q.t q.key (matchM q.tm) q.n) := fun q hq => by
        obtain ⟨s1, s2⟩ := HDA.out w3 (Below.refl _ _)
        rw [hfl] at hq ⊢
        exact vac_alike HST.out s1.ok s2.ok q hq
      have HW4 := hid HI.out.2
      clear hti hfl HI
      go_wp2_with fail
      go_loopg [41] qs.length (fun gg vi wr => ∃ (j : Nat), vi = .int .i64 j ∧ j ≤ qs.length ∧ qs.length - j ≤ gg ∧ Hid (Below w3.heap.size w3 wr))
      case atStart => exact ⟨0, rfl, by omega, by omega, HW4.out⟩
      case round =>
        obtain ⟨j, rfl, hj, hgj, HJ⟩ := hrel
        by_cases hjt : j < qs.length
        · have hltz2 : (j : Int) < (qs.length : Int) := by omega
          have hiz : (0 : Int) ≤ j := by omega
          obtain ⟨b2, o2, rfl, k2⟩ : ∃ b off, p2 = some ⟨b, off, none⟩ ∧ KAk.At w b off qs := by
            rcases HD2.out with h | h
            · rw [h] at hjt; simp at hjt
            · exact h
          have hbw : Below w.heap.size w wr := bel_then HB3.out HB3.out.size HJ.out
          obtain ⟨y0, y1, y2, y3, y4, y5, y6⟩ := kak_at (Kind.at_kept k2 hbw) j hjt
          have hqi := HY.out _ (List.getElem_mem hjt)
          generalize qs[j] = q at *
          obtain ⟨Vb, hVb⟩ : ∃ Vb, wr.alloc (.cells (encAk q).toArray 34) = Vb := ⟨_, rfl⟩
          obtain ⟨Q, hQ⟩ : ∃ Q, wr.heap.size = Q := ⟨_, rfl⟩
          have hbx : Vb.heap[Q]? = some (.cells (encAk q).toArray 34 (0, 0)) := by rw [← hVb, ← hQ]; exact heap_alloc_new wr _
          have hal : Below wr.heap.size wr Vb := by rw [← hVb]; exact (Below.refl _ _).alloc (Nat.le_refl _) _
          have HBV : Hid (Below w3.heap.size w3 Vb) := bel_then HJ.out HJ.out.size hal
          obtain ⟨s1, s2⟩ := HDA.out Vb HBV.out
          have HC := hid (alike_any S s1 s2 hl hl q (hqi.on (bel_then hbw hbw.size hal)) f HFU.out (HAL.out q))
          have d0 : Vb.cell? ⟨Q, 0, none⟩ = some (.int .u64 q.fl) := by rw [Lib.cell_of_heap hbx]; rfl
          have d1 : Vb.cell? ⟨Q, 1, none⟩ = some (.int .u64 q.sn) := by rw [Lib.cell_of_heap hbx]; rfl
          have d2 : Vb.cell? ⟨Q, 2, none⟩ = some (.int .u64 q.t) := by rw [Lib.cell_of_heap hbx]; rfl
          have d3 : Vb.cell? ⟨Q, 3, none⟩ = some (.string q.a) := by rw [Lib.cell_of_heap hbx]; rfl
          have d4 : Vb.cell? ⟨Q, 4, none⟩ = some (.string q.b) := by rw [Lib.cell_of_heap hbx]; rfl
          have d5 : Vb.cell? ⟨Q, 5, none⟩ = some (.slice q.q q.tm.length q.qc) := by rw [Lib.cell_of_heap hbx]; rfl
          have d6 : Vb.cell? ⟨Q, 6, none⟩ = some (.int .i64 q.n) := by rw [Lib.cell_of_heap hbx]; rfl
          clear hbx k2 hbw hqi s1 s2 hal HJ
          obtain ⟨qfl, qsn, qt, qa, qb, qq, qqc, qtm, qn⟩ := q
          simp only [encAk] at *
          go_upto_region 15 with fail
          try rw [hQ]
          try rw [hVb]
          clear hVb y0 y1 y2 y3 y4 y5 y6
          go_wp2_with fail
          refine HC.out.mono ?_
          rintro e w5 ⟨rfl, hb5⟩
          have HB5 := hid (bel_then HBV.out HBV.out.size hb5)
          clear hb5 d0 d1 d2 d3 d4 d5 d6
          go_wp2_with fail
          go_roundg (qs.length - (j + 1))
          case measure => omega
          exact ⟨j + 1, by go_num, by omega, by omega, HB5.out⟩
        · have hltz2 : ¬ (j : Int) < (qs.length : Int) := by omega
          go_wp2_with fail
          go_ret
          exact ⟨rfl, bel_then HB3.out HB3.out.size HJ.out⟩

end Go.Proofs.YticfpkodoghnnaaGreat

/-
  PastStays (stage 14), over the contracts of package past.
-/
namespace Go.Proofs.YticfpkodoghnnaaGreat
open Go.RowKit

theorem stay_alike {D E : List RowD} (hD : OkD D) (hE : OkD E) (q : Ak) (h : PreD q.sn E D) : AlikeH D E (max q.fl 0) q.sn q.t q.key (matchM q.tm) q.n :=
  ⟨hD, (stay_at hE h _ _ _).symm, (stay_find hE hD h _ _ _ _).symm, (stay_hist hE h _ _ _).symm, fun _ _ hL hM => (stay_since hE hD h hM hL).symm, Or.inl (stay_num hE h _ _).symm⟩

set_option maxHeartbeats 16000000 in
set_option maxRecDepth 100000 in
theorem stays14_any (S : PastApi) (HFX : Fixed14) (v r u : Value) (l m : List Pt) (qs : List Ak) (w : World) (hv : KPt.Is w v l) (hr : KPt.Is w r m) (hu : KAk.Is w u qs) (hx : ∀ x ∈ l, PtIn w x) (hm : ∀ x ∈ m, PtIn w x) (hy : ∀ x ∈ qs, AkIn w x) (hl : l.length + m.length ≤ 1760000000000) (hql : qs.length ≤ 9000000000000000000) :
    Calls Tryz.prog 5 #[v, r, u] w fun e w' => e = .returned (.bool true) ∧ Below w.heap.size w w' := by
  have HL1 : Hid (∀ W, Below w.heap.size w W → Calls Tryz.prog 9 #[v, .bool true] W fun e w' => LaidP W true l e w') := fun W hW => laidP_any v l true W (Kind.is_kept hv hW) (fun x h => (hx x h).on hW) (by omega)
  obtain ⟨p, cap, rfl, hd⟩ := hv
  obtain ⟨p1, cap1, rfl, hd1⟩ := hr
  obtain ⟨p2, cap2, rfl, hd2⟩ := hu
  have HD1 := hid hd1
  have HD2 := hid hd2
  have HM := hid hm
  have HY := hid hy
  have HF := hid (HFX w)
  clear hd hd1 hd2 hx hm hy
  go_enter Tryz.func5, Tryz.ntmps5
  go_wp2_with fail
  refine HF.out.mono ?_
  rintro e w1 ⟨rfl, hb1⟩
  have HB1 := hid hb1
  clear hb1 HF
  go_wp2_with fail
  go_loopg [24] qs.length (fun gg vi wr => ∃ (j : Nat), vi = .int .i64 j ∧ j ≤ qs.length ∧ qs.length - j ≤ gg ∧ Hid (Below w.heap.size w wr))
  case atStart => exact ⟨0, rfl, by omega, by omega, HB1.out⟩
  case round =>
    clear HB1
    obtain ⟨j, rfl, hj, hgj, HJ⟩ := hrel
    by_cases hjt : j < qs.length
    · have hltz2 : (j : Int) < (qs.length : Int) := by omega
      have hiz : (0 : Int) ≤ j := by omega
      obtain ⟨b2, o2, rfl, k2⟩ : ∃ b off, p2 = some ⟨b, off, none⟩ ∧ KAk.At w b off qs := by
        rcases HD2.out with h | h
        · rw [h] at hjt; simp at hjt
        · exact h
      obtain ⟨y0, y1, y2, y3, y4, y5, y6⟩ := kak_at (Kind.at_kept k2 HJ.out) j hjt
      have hqi := HY.out _ (List.getElem_mem hjt)
      generalize qs[j] = q at *
      obtain ⟨Vb, hVb⟩ : ∃ Vb, wr.alloc (.cells (encAk q).toArray 34) = Vb := ⟨_, rfl⟩
      obtain ⟨Q, hQ⟩ : ∃ Q, wr.heap.size = Q := ⟨_, rfl⟩
      have hbx : Vb.heap[Q]? = some (.cells (encAk q).toArray 34 (0, 0)) := by rw [← hVb, ← hQ]; exact heap_alloc_new wr _
      have hQl : Q < Vb.heap.size := (Array.getElem?_eq_some_iff.1 hbx).1
      have hal : Below wr.heap.size wr Vb := by rw [← hVb]; exact (Below.refl _ _).alloc (Nat.le_refl _) _
      have HBV : Hid (Below w.heap.size w Vb) := bel_then HJ.out HJ.out.size hal
      have HQC : Hid (∀ W', Below Vb.heap.size Vb W' → (W'.cell? ⟨Q, 0, none⟩ = some (.int .u64 q.fl) ∧ W'.cell? ⟨Q, 1, none⟩ = some (.int .u64 q.sn) ∧ W'.cell? ⟨Q, 2, none⟩ = some (.int .u64 q.t) ∧ W'.cell? ⟨Q, 3, none⟩ = some (.string q.a) ∧ W'.cell? ⟨Q, 4, none⟩ = some (.string q.b) ∧ W'.cell? ⟨Q, 5, none⟩ = some (.slice q.q q.tm.length q.qc) ∧ W'.cell? ⟨Q, 6, none⟩ = some (.int .i64 q.n)) ∧ Below w.heap.size w W') := fun W' hW => by
        have e1 := (hW.block Q hQl).trans hbx
        exact ⟨⟨by rw [Lib.cell_of_heap e1]; rfl, by rw [Lib.cell_of_heap e1]; rfl, by rw [Lib.cell_of_heap e1]; rfl, by rw [Lib.cell_of_heap e1]; rfl, by rw [Lib.cell_of_heap e1]; rfl, by rw [Lib.cell_of_heap e1]; rfl, by rw [Lib.cell_of_heap e1]; rfl⟩, bel_then HBV.out HBV.out.size hW⟩
      have HQI : Hid (∀ W', Below w.heap.size w W' → AkIn W' q) := fun W' hW => hqi.on hW
      have HC1 := hid (HL1.out Vb HBV.out)
      have HL2 := hid HL1.out
      clear hbx k2 hqi hal HJ hQl
      have hq0 : U64 q.fl := (HQI.out w (Below.refl _ _)).f0
      have hqs : U64 q.sn := (HQI.out w (Below.refl _ _)).s0
      have hqk : FitK q.key := (HQI.out w (Below.refl _ _)).kfit
      have hqn := (HQI.out w (Below.refl _ _)).n0
      have HQB : Hid (U64 q.fl ∧ U64 q.sn ∧ FitK q.key ∧ -9223372036854775808 ≤ q.n ∧ q.n ≤ 9223372036854775807) := ⟨hq0, hqs, hqk, hqn.1, hqn.2⟩
      clear hq0 hqs hqk hqn
      obtain ⟨qfl, qsn, qt, qa, qb, qq, qqc, qtm, qn⟩ := q
      simp only [encAk, Ak.key] at *
      go_upto_region 6 with fail
      try rw [hQ]
      try rw [hVb]
      clear hVb y0 y1 y2 y3 y4 y5 y6
      go_wp2_with fail
      refine HC1.out.mono ?_
      rintro e wa ⟨ga, gah, rfl, hA⟩
      have hba : Below Vb.heap.size Vb wa := hA.choose_spec.2
      have HBA := hid hba
      have HDA : Hid (∀ W', Below wa.heap.size wa W' → DirS Vb.heap.size ga l.length (laidP true l) W') := fun W' hW => by
        obtain ⟨B, h1, _⟩ := hA.on hW
        exact h1.dirS
      have HC2 := hid (HL2.out wa (HQC.out wa hba).2)
      clear hA hba HC1 HL2
      go_wp2_with fail
      refine HC2.out.mono ?_
      rintro e wb ⟨gb, gbh, rfl, hB⟩
      have hbb : Below wa.heap.size wa wb := hB.choose_spec.2
      have H0 : Hid (DirS wa.heap.size gb (l.length + 0) (laidP true l) wb ∧ PreD qsn (laidP true l) (laidP true l) ∧ Below wa.heap.size wa wb) := by
        obtain ⟨B, h1, _⟩ := hB
        exact ⟨h1.dirS, preD_refl _ _, hbb⟩
      clear hB hbb HC2
      go_wp2_with fail
      go_loopg [40] m.length (fun gg vi wr => ∃ (i : Nat), vi = .int .i64 i ∧ i ≤ m.length ∧ m.length - i ≤ gg ∧ Hid (∃ E, DirS wa.heap.size gb (l.length + i) E wr ∧ PreD qsn E (laidP true l) ∧ Below wa.heap.size wa wr))
      case atStart => exact ⟨0, rfl, by omega, by omega, _, H0.out⟩
      case round =>
        clear H0
        obtain ⟨i, rfl, hi, hgi, HI⟩ := hrel
        obtain ⟨E, hE1, hE2, hE3⟩ := HI.out
        have hVr : Below Vb.heap.size Vb wr := bel_then HBA.out HBA.out.size hE3
        obtain ⟨⟨c0, c1, c2, c3, c4, c5, c6⟩, hbw⟩ := HQC.out wr hVr
        by_cases hlt : i < m.length
        · have hltz : (i : Int) < (m.length : Int) := by omega
          have hiz2 : (0 : Int) ≤ i := by omega
          obtain ⟨b1, o1, rfl, k1⟩ : ∃ b off, p1 = some ⟨b, off, none⟩ ∧ KPt.At w b off m := by
            rcases HD1.out with h | h
            · rw [h] at hlt; simp at hlt
            · exact h
          obtain ⟨y0, y1, y2, y3, y4, y5⟩ := kpt_at (Kind.at_kept k1 hbw) i hlt
          have hxi := HM.out _ (List.getElem_mem hlt)
          generalize m[i] = x at *
          obtain ⟨Vc, hVc⟩ : ∃ Vc, wr.alloc (.cells (encPt x).toArray 62) = Vc := ⟨_, rfl⟩
          obtain ⟨R, hR⟩ : ∃ R, wr.heap.size = R := ⟨_, rfl⟩
          have hpx : Vc.heap[R]? = some (.cells (encPt x).toArray 62 (0, 0)) := by rw [← hVc, ← hR]; exact heap_alloc_new wr _
          have hal : Below wr.heap.size wr Vc := by rw [← hVc]; exact (Below.refl _ _).alloc (Nat.le_refl _) _
          have hwc : Below w.heap.size w Vc := bel_then hbw hbw.size hal
          have hE1c := hE1.on hal
          have HEC : Hid (Below wa.heap.size wa Vc) := bel_then hE3 hE3.size hal
          have HPUT := hid (s_put hE1c (by omega) x.key hxi.kfit x.stamp 0 x.live _ x.o x.val ((hxi.on hwc).is) hxi.fit rfl hxi.lo)
          have HPRE : Hid (qsn < x.stamp → PreD qsn (putD E x.key x.stamp 0 x.live x.val) (laidP true l)) := fun h => preD_put hE2 _ h _ _ _
          have HSAME : Hid (DirS wa.heap.size gb (l.length + (i + 1)) E Vc ∧ PreD qsn E (laidP true l)) := by
            obtain ⟨m', G', h⟩ := hE1c
            exact ⟨⟨m', G', h.mono (by omega)⟩, hE2⟩
          obtain ⟨⟨c0', c1', _⟩, _⟩ := HQC.out Vc (bel_then hVr hVr.size hal)
          have d1 : Vc.cell? ⟨R, 1, none⟩ = some (.string x.a) := by rw [Lib.cell_of_heap hpx]; rfl
          have d2 : Vc.cell? ⟨R, 2, none⟩ = some (.string x.b) := by rw [Lib.cell_of_heap hpx]; rfl
          have d3 : Vc.cell? ⟨R, 3, none⟩ = some (.int .u64 x.stamp) := by rw [Lib.cell_of_heap hpx]; rfl
          have d4 : Vc.cell? ⟨R, 4, none⟩ = some (.bool x.live) := by rw [Lib.cell_of_heap hpx]; rfl
          have d5 : Vc.cell? ⟨R, 5, none⟩ = some (.slice x.p x.o.length x.cap) := by rw [Lib.cell_of_heap hpx]; rfl
          clear hpx hal hwc hE1c hE1 hE2 hE3 hxi k1 hbw HI hVr c0 c1 c2 c3 c4 c5 c6
          obtain ⟨xr, xa, xb, xs, xl, xp, xc, xo⟩ := x
          simp only [encPt, Pt.key, Pt.val] at *
          go_upto_region 11 with fail
          try rw [hR]
          try rw [hVc]
          clear hVc y0 y1 y2 y3 y4 y5
          by_cases hgt : qsn < xs
          · go_wp2_with fail
            clear d1 d2 d3 d4 d5 c0' c1'
            refine HPUT.out.mono ?_
            rintro e w6 ⟨rfl, h6, hb6⟩
            have HN : Hid (∃ E, DirS wa.heap.size gb (l.length + (i + 1)) E w6 ∧ PreD qsn E (laidP true l) ∧ Below wa.heap.size wa w6) := ⟨_, h6, HPRE.out hgt, HEC.out.trans hb6⟩
            clear h6 hb6 HPUT HPRE HSAME
            go_wp2_with fail
            go_roundg (m.length - (i + 1))
            case measure => omega
            exact ⟨i + 1, by go_num, by omega, by omega, HN.out⟩
          · have hgt2 : ¬ (xs > qsn) := by omega
            go_wp2_with fail
            go_roundg (m.length - (i + 1))
            case measure => omega
            exact ⟨i + 1, by go_num, by omega, by omega, _, HSAME.out.1, HSAME.out.2, HEC.out⟩
        · have hltz : ¬ (i : Int) < (m.length : Int) := by omega
          have him : i = m.length := by omega
          rw [him] at hE1
          obtain ⟨P, hP⟩ : ∃ P, wr.heap.size = P := ⟨_, rfl⟩
          obtain ⟨V, hV⟩ : ∃ V, wr.alloc (.cells #[.int .u64 qfl, .int .u64 qsn] 36) = V := ⟨_, rfl⟩
          have hal : Below wr.heap.size wr V := by rw [← hV]; exact (Below.refl _ _).alloc (Nat.le_refl _) _
          have hpb : V.heap[P]? = some (.cells #[.int .u64 qfl, .int .u64 qsn] 36 (0, 0)) := by rw [← hV, ← hP]; exact heap_alloc_new wr _
          have hPl : P < V.heap.size := (Array.getElem?_eq_some_iff.1 hpb).1
          have hVV : Below Vb.heap.size Vb V := bel_then hVr hVr.size hal
          have HCV : Hid (∀ W', Below V.heap.size V W' → ((W'.cell? ⟨Q, 0, none⟩ = some (.int .u64 qfl) ∧ W'.cell? ⟨Q, 1, none⟩ = some (.int .u64 qsn) ∧ W'.cell? ⟨Q, 2, none⟩ = some (.int .u64 qt) ∧ W'.cell? ⟨Q, 3, none⟩ = some (.string qa) ∧ W'.cell? ⟨Q, 4, none⟩ = some (.string qb) ∧ W'.cell? ⟨Q, 5, none⟩ = some (.slice qq qtm.length qqc) ∧ W'.cell? ⟨Q, 6, none⟩ = some (.int .i64 qn)) ∧ Below w.heap.size w W') ∧ W'.cell? ⟨P, 0, none⟩ = some (.int .u64 qfl) ∧ W'.cell? ⟨P, 1, none⟩ = some (.int .u64 qsn)) := fun W' hW => by
            have e3 := (hW.block P hPl).trans hpb
            exact ⟨HQC.out W' (bel_then hVV hVV.size hW), by rw [Lib.cell_of_heap e3]; rfl, by rw [Lib.cell_of_heap e3]; rfl⟩
          have HDD : Hid (∀ W', Below V.heap.size V W' → DirS Vb.heap.size ga l.length (laidP true l) W' ∧ DirS wa.heap.size gb (l.length + m.length) E W') := fun W' hW => by
            have h1 := bel_then hal hal.size hW
            exact ⟨HDA.out W' (bel_then hE3 hE3.size h1), hE1.on h1⟩
          have hokD : OkD (laidP true l) := (HDD.out V (Below.refl _ _)).1.ok
          have hokE : OkD E := (HDD.out V (Below.refl _ _)).2.ok
          have HNA : Hid (∀ W', Below V.heap.size V W' → Calls Tryz.prog 22 #[.pointer (some ⟨ga, 0, none⟩), .agg #[.int .u64 qfl, .int .u64 qsn], .agg #[.string qa, .string qb], .int .i64 qn] W' fun e w' => RdV W' (pastNum (ofD (laidP true l) (qa, qb)) qsn qn) e w') := fun W' hW => S.num (HDD.out W' hW).1 (by omega) qfl qsn (qa, qb) qn HQB.out.1 HQB.out.2.1 HQB.out.2.2.1 HQB.out.2.2.2.1 HQB.out.2.2.2.2
          have HNB : Hid (∀ W', Below V.heap.size V W' → Calls Tryz.prog 22 #[.pointer (some ⟨gb, 0, none⟩), .agg #[.int .u64 qfl, .int .u64 qsn], .agg #[.string qa, .string qb], .int .i64 qn] W' fun e w' => RdV W' (pastNum (ofD (laidP true l) (qa, qb)) qsn qn) e w') := fun W' hW => by
            have := S.num (HDD.out W' hW).2 hl qfl qsn (qa, qb) qn HQB.out.1 HQB.out.2.1 HQB.out.2.2.1 HQB.out.2.2.2.1 HQB.out.2.2.2.2
            rw [stay_num hokE hE2] at this
            exact this
          have HAL : Hid (∀ W', Below V.heap.size V W' → Calls Tryz.prog 24 #[.pointer (some ⟨ga, 0, none⟩), .pointer (some ⟨gb, 0, none⟩), .agg #[.int .u64 qfl, .int .u64 qsn, .int .u64 qt, .string qa, .string qb, .slice qq qtm.length qqc, .int .i64 qn], .int .u64 0] W' fun e w' => e = .returned (.bool true) ∧ Below W'.heap.size W' w') := fun W' hW =>
            alike_any S (HDD.out W' hW).1 (HDD.out W' hW).2 (by omega) hl ⟨qfl, qsn, qt, qa, qb, qq, qqc, qtm, qn⟩ (HQI.out W' (HCV.out W' hW).1.2) 0 ⟨by omega, by omega⟩ fun _ => stay_alike hokD hokE ⟨qfl, qsn, qt, qa, qb, qq, qqc, qtm, qn⟩ hE2
          generalize pastNum (ofD (laidP true l) (qa, qb)) qsn qn = rN at *
          clear hE1 hE2 hE3 HI hal hpb hPl hVV hokD hokE HDD HDA hVr hbw him
          go_upto_region 15 with fail
          try rw [hP]
          try rw [hV]
          clear hV hP c0 c1 c2 c3 c4 c5 c6
          obtain ⟨⟨⟨c0, c1, c2, c3, c4, c5, c6⟩, _⟩, q0, q1⟩ := HCV.out V (Below.refl _ _)
          go_wp2_with fail
          clear c0 c1 c2 c3 c4 c5 c6 q0 q1
          refine (HNA.out V (Below.refl _ _)).mono ?_
          rintro e u1 ⟨x, rfl, hxv, hxr, hc1⟩
          obtain ⟨X, hX⟩ : ∃ X, u1.heap.size = X := ⟨_, rfl⟩
          obtain ⟨V1, hV1⟩ : ∃ V1, u1.alloc (.cells (encVx x).toArray 39) = V1 := ⟨_, rfl⟩
          have hal1 : Below u1.heap.size u1 V1 := by rw [← hV1]; exact (Below.refl _ _).alloc (Nat.le_refl _) _
          have hxb : V1.heap[X]? = some (.cells (encVx x).toArray 39 (0, 0)) := by rw [← hV1, ← hX]; exact heap_alloc_new u1 _
          have HB2 : Hid (Below V.heap.size V V1) := bel_then hc1 hc1.size hal1
          have HXB := hid hxb
          have HXR := hid (vat_on hxr hal1)
          have HXV := hid hxv
          clear hxv hxr hc1 hal1 hxb HNA
          obtain ⟨xn, xs, xt, xl, xp, xc, xo⟩ := x
          simp only [encVx, Vx.sl] at *
          obtain ⟨⟨⟨c0, c1, c2, c3, c4, c5, c6⟩, _⟩, q0, q1⟩ := HCV.out V1 HB2.out
          go_upto_region 16 with fail
          try rw [hX]
          try rw [hV1]
          clear hV1 hX
          go_wp2_with fail
          clear c0 c1 c2 c3 c4 c5 c6 q0 q1
          refine (HNB.out V1 HB2.out).mono ?_
          rintro e u2 ⟨y, rfl, hyv, hyr, hc2⟩
          obtain ⟨Y, hY⟩ : ∃ Y, u2.heap.size = Y := ⟨_, rfl⟩
          obtain ⟨V2, hV2⟩ : ∃ V2, u2.alloc (.cells (encVx y).toArray 39) = V2 := ⟨_, rfl⟩
          have hal2 : Below u2.heap.size u2 V2 := by rw [← hV2]; exact (Below.refl _ _).alloc (Nat.le_refl _) _
          have hyb : V2.heap[Y]? = some (.cells (encVx y).toArray 39 (0, 0)) := by rw [← hV2, ← hY]; exact heap_alloc_new u2 _
          have hb12 : Below V1.heap.size V1 V2 := bel_then hc2 hc2.size hal2
          have HB3 : Hid (Below V.heap.size V V2) := bel_then HB2.out HB2.out.size hb12
          have hxb2 := (hb12.block X (Array.getElem?_eq_some_iff.1 HXB.out).1).trans HXB.out
          have HCM := hid (eq14V (w := V2) (HXV.out.trans hyv.symm) (vat_on HXR.out hb12) (vat_on hyr hal2))
          clear hyv hyr hc2 hal2 hb12 HNB HXR HXV HXB
          obtain ⟨yn, ys, yt, yl, yp, yc, yo⟩ := y
          simp only [encVx, Vx.sl] at *
          have x0 : V2.cell? ⟨X, 0, none⟩ = some (.int .i64 xn) := by rw [Lib.cell_of_heap hxb2]; rfl
          have x1 : V2.cell? ⟨X, 1, none⟩ = some (.int .u64 xs) := by rw [Lib.cell_of_heap hxb2]; rfl
          have x2 : V2.cell? ⟨X, 2, none⟩ = some (.int .i64 xt) := by rw [Lib.cell_of_heap hxb2]; rfl
          have x3 : V2.cell? ⟨X, 3, none⟩ = some (.bool xl) := by rw [Lib.cell_of_heap hxb2]; rfl
          have x4 : V2.cell? ⟨X, 4, none⟩ = some (.slice xp xo.length xc) := by rw [Lib.cell_of_heap hxb2]; rfl
          have y0 : V2.cell? ⟨Y, 0, none⟩ = some (.int .i64 yn) := by rw [Lib.cell_of_heap hyb]; rfl
          have y1 : V2.cell? ⟨Y, 1, none⟩ = some (.int .u64 ys) := by rw [Lib.cell_of_heap hyb]; rfl
          have y2 : V2.cell? ⟨Y, 2, none⟩ = some (.int .i64 yt) := by rw [Lib.cell_of_heap hyb]; rfl
          have y3 : V2.cell? ⟨Y, 3, none⟩ = some (.bool yl) := by rw [Lib.cell_of_heap hyb]; rfl
          have y4 : V2.cell? ⟨Y, 4, none⟩ = some (.slice yp yo.length yc) := by rw [Lib.cell_of_heap hyb]; rfl
          clear hxb2 hyb
          obtain ⟨⟨⟨c0, c1, c2, c3, c4, c5, c6⟩, _⟩, q0, q1⟩ := HCV.out V2 HB3.out
          obtain ⟨ro, rc⟩ := rN
          simp only at *
          go_upto_region 17 with fail
          try rw [hY]
          try rw [hV2]
          clear hV2 hY
          by_cases hrc : rc = 0
          · subst hrc
            go_wp2_with fail
            clear x0 x1 x2 x3 x4 y0 y1 y2 y3 y4 c0 c1 c2 c3 c4 c5 c6 q0 q1
            refine HCM.out.mono ?_
            rintro e u3 ⟨rfl, hc3⟩
            have HB4 : Hid (Below V.heap.size V u3) := bel_then HB3.out HB3.out.size hc3
            clear hc3 HCM
            obtain ⟨⟨⟨c0, c1, c2, c3, c4, c5, c6⟩, _⟩, q0, q1⟩ := HCV.out u3 HB4.out
            go_wp2_with fail
            clear c0 c1 c2 c3 c4 c5 c6 q0 q1
            refine (HAL.out u3 HB4.out).mono ?_
            rintro e u4 ⟨rfl, hc4⟩
            have HB5 : Hid (Below w.heap.size w u4) := (HCV.out u4 (bel_then HB4.out HB4.out.size hc4)).1.2
            clear hc4 HAL
            go_wp2_with fail
            go_roundg (qs.length - (j + 1))
            case measure => omega
            exact ⟨j + 1, by go_num, by omega, by omega, HB5.out⟩
          · have hrc2 : (rc == 0) = false := by rw [beq_eq_false_iff_ne]; exact hrc
            clear HCM
            go_wp2_with fail
            clear x0 x1 x2 x3 x4 y0 y1 y2 y3 y4 c0 c1 c2 c3 c4 c5 c6 q0 q1
            refine (HAL.out V2 HB3.out).mono ?_
            rintro e u4 ⟨rfl, hc4⟩
            have HB5 : Hid (Below w.heap.size w u4) := (HCV.out u4 (bel_then HB3.out HB3.out.size hc4)).1.2
            clear hc4 HAL
            go_wp2_with fail
            go_roundg (qs.length - (j + 1))
            case measure => omega
            exact ⟨j + 1, by go_num, by omega, by omega, HB5.out⟩
    · have hltz2 : ¬ (j : Int) < (qs.length : Int) := by omega
      go_wp2_with fail
      go_ret
      exact ⟨rfl, HJ.out⟩

end Go.Proofs.YticfpkodoghnnaaGreat

/-
  The chapter's examples (stage 14): fixed, over the contracts of package past.
-/
namespace Go.Proofs.YticfpkodoghnnaaGreat
open Go.RowKit

def gv1 : Vr := ⟨1, 2, 0, true, []⟩
def gv2 : Vr := ⟨2, 5, 0, true, []⟩
def gv3 : Vr := ⟨3, 9, 0, true, []⟩
def gD1 : List RowD := [(fxa, [gv1])]
def gD2 : List RowD := [(fxa, [gv1, gv2])]
def gD3 : List RowD := [(fxa, [gv1, gv2, gv3])]
theorem go1 : ofD gD1 fxa = [gv1] := by unfold gD1 ofD; rw [if_pos rfl]
theorem go2 : ofD gD2 fxa = [gv1, gv2] := by unfold gD2 ofD; rw [if_pos rfl]
theorem go3 : ofD gD3 fxa = [gv1, gv2, gv3] := by unfold gD3 ofD; rw [if_pos rfl]
theorem gc1 : codeD [] fxa 2 true [] = 0 := by unfold codeD; rw [if_pos fx_ka]; show putC [] 2 true [] = 0; unfold putC; rw [may_nil]; rfl
theorem gp1 : putD [] fxa 2 0 true [] = gD1 := by unfold putD; rw [if_pos gc1]; rfl
theorem gc2 : codeD gD1 fxa 5 true [] = 0 := by unfold codeD; rw [if_pos fx_ka, go1]; unfold putC; rw [may_nil]; rfl
theorem gp2 : putD gD1 fxa 5 0 true [] = gD2 := by unfold putD; rw [if_pos gc2, go1]; unfold gD1 setD; rw [totK.irr, if_neg (by simp), if_pos rfl]; rfl
theorem gc3 : codeD gD2 fxa 9 true [] = 0 := by unfold codeD; rw [if_pos fx_ka, go2]; unfold putC; rw [may_nil]; rfl
theorem gp3 : putD gD2 fxa 9 0 true [] = gD3 := by unfold putD; rw [if_pos gc3, go2]; unfold gD2 setD; rw [totK.irr, if_neg (by simp), if_pos rfl]; rfl
theorem ga1 : pastAt gD3 3 7 2 fxa = (none, 8) := by unfold pastAt; rw [if_pos (by decide)]
theorem ga2 : pastAt gD3 3 7 99 fxa = (some gv2, 0) := by unfold pastAt; rw [if_neg (by decide), go3]; rfl
theorem gh1 : pastHist gD3 3 7 fxa 3 = ([gv2], 0) := by unfold pastHist; rw [if_neg (by decide), go3]; rfl
theorem gn1 : pastNum (ofD gD3 fxa) 7 1 = (some gv1, 0) := by unfold pastNum; rw [if_neg (by decide), go3]; rfl
theorem gf1 : (pastFind gD3 3 7 6 fxT (matchM [])).1.length = 1 ∧ (pastFind gD3 3 7 6 fxT (matchM [])).2 = 0 := by
  unfold pastFind
  rw [if_neg (by decide)]
  refine ⟨?_, rfl⟩
  show (scanD gD3 fxT 6 (matchM [])).length = 1
  unfold scanD
  have : walkD gD3 6 = [(fxa, gv2)] := rfl
  rw [this]
  simp [fxa, fxT, matchM]
theorem gs1 {L : List Fnd × Int} (h : PastSince gD3 3 7 fxT 3 L) : L.1.length = 1 ∧ L.2 = 0 := by
  unfold PastSince at h
  rw [if_neg (by decide)] at h
  obtain ⟨h1, r, h2, _, h4⟩ := h
  refine ⟨?_, h1⟩
  rw [h4, (h2.filter _).length_eq]
  have : sinceD gD3 fxT 3 = [(fxa, gv2), (fxa, gv3)] := by
    unfold sinceD gD3
    have h3 : sinceV [gv1, gv2, gv3] 3 = [gv2, gv3] := rfl
    simp [fxa, fxT, h3]
  rw [this]
  rfl

theorem u64_lit {s : Int} (h0 : 0 ≤ s) (h : s ≤ 100) : U64 s := ⟨h0, by omega⟩
theorem fit_fxa : FitK fxa := by decide
theorem fit_nilX : FitX [] := ⟨by decide, fun x hx => by cases hx⟩
theorem isXs_nil14 (w : World) : IsXs w (.slice none ([] : List Fx).length 0) [] := ⟨none, 0, rfl, Or.inl rfl, fun x hx => by cases hx⟩

set_option maxHeartbeats 16000000 in
set_option maxRecDepth 100000 in
theorem fixed14_any (S : PastApi) : Fixed14 := by
  intro W
  have HN := hid (s_new W)
  obtain ⟨N, hN⟩ : ∃ N, W.heap.size = N := ⟨_, rfl⟩
  rw [hN] at HN
  go_enter Tryz.func8, Tryz.ntmps8
  go_wp2_with fail
  try rw [hN]
  refine HN.out.mono ?_
  rintro e w1 ⟨rfl, hs1, hb1⟩
  obtain ⟨K, hK⟩ : ∃ K, w1.heap.size = K := ⟨_, rfl⟩
  have hNK : N < K := by
    obtain ⟨m, G, h⟩ := hs1
    have h1 := (h.blk m (Or.inr (Or.inl rfl)))
    omega
  obtain ⟨hbb, e1, e2, hsz⟩ := two_boxes14 w1 #[.string fxa.1, .string fxa.2] #[.int .u64 2, .int .u64 5, .int .u64 9] 31 29
  obtain ⟨W2, hW2⟩ : ∃ W2, (w1.alloc (.cells #[.string fxa.1, .string fxa.2] 31)).alloc (.cells #[.int .u64 2, .int .u64 5, .int .u64 9] 29) = W2 := ⟨_, rfl⟩
  rw [hW2] at hbb e1 e2 hsz
  rw [hK] at e1 e2 hsz
  have hq2 : DirQ (fun b => b ≠ K ∧ b ≠ K + 1) N (N + 1) 0 [] W2 := by
    obtain ⟨m, G, h⟩ := hs1
    refine ⟨m, G, h.on hbb, fun b hb => ?_⟩
    have := (h.blk b hb).2
    omega
  have hbW2 : Below N W W2 := hb1.trans (hbb.mono (by omega))
  have HBX : Hid (∀ W' : World, W'.heap[K]? = W2.heap[K]? → W'.heap[K + 1]? = W2.heap[K + 1]? → (W'.cell? ⟨K, 0, none⟩ = some (.string ⟨#[65]⟩) ∧ W'.cell? ⟨K, 1, none⟩ = some (.string ⟨#[97]⟩)) ∧ W'.cell? ⟨K + 1, 0, none⟩ = some (.int .u64 2) ∧ W'.cell? ⟨K + 1, 1, none⟩ = some (.int .u64 5) ∧ W'.cell? ⟨K + 1, 2, none⟩ = some (.int .u64 9)) := fun W' a b => by
    have a' := a.trans e1
    have b' := b.trans e2
    exact ⟨⟨by rw [Lib.cell_of_heap a']; rfl, by rw [Lib.cell_of_heap a']; rfl⟩, by rw [Lib.cell_of_heap b']; rfl, by rw [Lib.cell_of_heap b']; rfl, by rw [Lib.cell_of_heap b']; rfl⟩
  have HS2 : Hid (W2.heap.size = K + 2) := hsz
  have HP : Hid (∀ (W' : World) (n : Nat) (D D' : List RowD) (s : Int), DirQ (fun b => b ≠ K ∧ b ≠ K + 1) N (N + 1) n D W' → K + 2 ≤ W'.heap.size → n ≤ 3 → 0 ≤ s → putD D fxa s 0 true [] = D' →
      Calls Tryz.prog 25 #[.pointer (some ⟨N + 1, 0, none⟩), .agg #[.string ⟨#[65]⟩, .string ⟨#[97]⟩], .int .u64 s, .int .i64 0, .bool true, .slice none 0 0] W' fun r w' => (∃ a b, r = .returned (.tuple #[.int .i64 a, .int .i64 b])) ∧ DirQ (fun b => b ≠ K ∧ b ≠ K + 1) N (N + 1) (n + 1) D' w' ∧ w'.heap[K]? = W'.heap[K]? ∧ w'.heap[K + 1]? = W'.heap[K + 1]? ∧ Below N W' w') := fun W' n D D' s hq hk hn h0 hD => by
    refine (q_put hq (fun b hb => ⟨by omega, by omega⟩) (by omega) fxa fit_fxa s 0 true (.slice none 0 0) [] [] (isXs_nil14 W') fit_nilX rfl h0).mono ?_
    rintro r w' ⟨h1, h2, h3, h4⟩
    rw [hD] at h2
    exact ⟨⟨_, _, h1⟩, h2, h3.block K (by omega) fun q => q.1 rfl, h3.block (K + 1) (by omega) fun q => q.2 rfl, h4⟩
  have HQ2 := hid hq2
  have HB2 := hid hbW2
  obtain ⟨⟨a0, a1⟩, b0, b1, b2⟩ := HBX.out W2 rfl rfl
  clear hs1 hb1 hbb e1 e2 hsz hq2 hbW2 HN
  simp only [fxa] at hW2
  go_wp2_with fail
  try rw [hK]
  try rw [hW2]
  clear hW2
  refine wp_loop_rounds 4 ?_
  rw [rounds_succ]
  go_wp2_with fail
  clear a0 a1 b0 b1 b2
  refine (HP.out W2 0 [] gD1 2 HQ2.out (by have := HS2.out; omega) (by omega) (by omega) gp1).mono ?_
  rintro e v1 ⟨⟨za, zb, rfl⟩, hq, h1, h2, hb⟩
  have HQ3 := hid hq
  have HS3 : Hid (v1.heap.size ≥ K + 2) := by show _ ≥ _; have := hb.size; have := HS2.out; omega
  have HB3 : Hid (Below N W v1) := HB2.out.trans hb
  have HE3 : Hid (v1.heap[K]? = W2.heap[K]? ∧ v1.heap[K + 1]? = W2.heap[K + 1]?) := ⟨h1, h2⟩
  obtain ⟨⟨a0, a1⟩, b0, b1, b2⟩ := HBX.out v1 HE3.out.1 HE3.out.2
  clear hq h1 h2 hb
  go_wp2_with fail
  rw [rounds_succ]
  go_wp2_with fail
  clear a0 a1 b0 b1 b2
  refine (HP.out v1 1 gD1 gD2 5 HQ3.out (by have := HS3.out; omega) (by omega) (by omega) gp2).mono ?_
  rintro e v2 ⟨⟨za, zb, rfl⟩, hq, h1, h2, hb⟩
  have HQ4 := hid hq
  have HS4 : Hid (v2.heap.size ≥ K + 2) := by show _ ≥ _; have := hb.size; have := HS3.out; omega
  have HB4 : Hid (Below N W v2) := HB3.out.trans hb
  have HE4 : Hid (v2.heap[K]? = W2.heap[K]? ∧ v2.heap[K + 1]? = W2.heap[K + 1]?) := ⟨h1.trans HE3.out.1, h2.trans HE3.out.2⟩
  obtain ⟨⟨a0, a1⟩, b0, b1, b2⟩ := HBX.out v2 HE4.out.1 HE4.out.2
  clear hq h1 h2 hb
  go_wp2_with fail
  rw [rounds_succ]
  go_wp2_with fail
  clear a0 a1 b0 b1 b2
  refine (HP.out v2 2 gD2 gD3 9 HQ4.out (by have := HS4.out; omega) (by omega) (by omega) gp3).mono ?_
  rintro e v3 ⟨⟨za, zb, rfl⟩, hq, h1, h2, hb⟩
  have HQ5 := hid hq
  have HS5 : Hid (v3.heap.size ≥ K + 2) := by show _ ≥ _; have := hb.size; have := HS4.out; omega
  have HB5 : Hid (Below N W v3) := HB4.out.trans hb
  have HE5 : Hid (v3.heap[K]? = W2.heap[K]? ∧ v3.heap[K + 1]? = W2.heap[K + 1]?) := ⟨h1.trans HE4.out.1, h2.trans HE4.out.2⟩
  obtain ⟨⟨a0, a1⟩, b0, b1, b2⟩ := HBX.out v3 HE5.out.1 HE5.out.2
  clear hq h1 h2 hb
  go_wp2_with fail
  rw [rounds_succ]
  obtain ⟨P, hP⟩ : ∃ P, v3.heap.size = P := ⟨_, rfl⟩
  obtain ⟨V, hV⟩ : ∃ V, v3.alloc (.cells #[.int .u64 3, .int .u64 7] 36) = V := ⟨_, rfl⟩
  have hal : Below v3.heap.size v3 V := by rw [← hV]; exact (Below.refl _ _).alloc (Nat.le_refl _) _
  have hpb : V.heap[P]? = some (.cells #[.int .u64 3, .int .u64 7] 36 (0, 0)) := by rw [← hV, ← hP]; exact heap_alloc_new v3 _
  have hPl : P < V.heap.size := (Array.getElem?_eq_some_iff.1 hpb).1
  have hKV : V.heap[K]? = W2.heap[K]? ∧ V.heap[K + 1]? = W2.heap[K + 1]? := by
    have hs := HS5.out
    exact ⟨(hal.block K (by omega)).trans HE5.out.1, (hal.block (K + 1) (by omega)).trans HE5.out.2⟩
  have HSV : Hid (V.heap.size > K + 2) := by show _ > _; have := HS5.out; omega
  have HBV : Hid (Below N W V) := HB5.out.trans (hal.mono (by have := HS5.out; omega))
  have HCV : Hid (∀ W', Below V.heap.size V W' → (W'.cell? ⟨K, 0, none⟩ = some (.string ⟨#[65]⟩) ∧ W'.cell? ⟨K, 1, none⟩ = some (.string ⟨#[97]⟩)) ∧ W'.cell? ⟨P, 0, none⟩ = some (.int .u64 3) ∧ W'.cell? ⟨P, 1, none⟩ = some (.int .u64 7)) := fun W' hW => by
    have e3 := (hW.block P hPl).trans hpb
    have hs := HSV.out
    have := HBX.out W' ((hW.block K (by omega)).trans hKV.1) ((hW.block (K + 1) (by omega)).trans hKV.2)
    exact ⟨this.1, by rw [Lib.cell_of_heap e3]; rfl, by rw [Lib.cell_of_heap e3]; rfl⟩
  have HDV : Hid (∀ W', Below V.heap.size V W' → DirS N (N + 1) 3 gD3 W') := fun W' hW => HQ5.out.s.on (bel_then hal hal.size hW)
  have h33 : (3 : Nat) ≤ 1760000000000 := by omega
  have HA1 : Hid (∀ W', Below V.heap.size V W' → Calls Tryz.prog 10 #[.pointer (some ⟨N + 1, 0, none⟩), .agg #[.int .u64 3, .int .u64 7], .int .u64 2, .agg #[.string ⟨#[65]⟩, .string ⟨#[97]⟩]] W' fun e w' => RdV W' (none, 8) e w') := fun W' hW => by
    have := S.at' (HDV.out W' hW) h33 3 7 2 fxa (u64_lit (by decide) (by decide)) (u64_lit (by decide) (by decide)) (u64_lit (by decide) (by decide)) fit_fxa
    rw [ga1] at this
    exact this
  have HA2 : Hid (∀ W', Below V.heap.size V W' → Calls Tryz.prog 10 #[.pointer (some ⟨N + 1, 0, none⟩), .agg #[.int .u64 3, .int .u64 7], .int .u64 99, .agg #[.string ⟨#[65]⟩, .string ⟨#[97]⟩]] W' fun e w' => RdV W' (some gv2, 0) e w') := fun W' hW => by
    have := S.at' (HDV.out W' hW) h33 3 7 99 fxa (u64_lit (by decide) (by decide)) (u64_lit (by decide) (by decide)) (u64_lit (by decide) (by decide)) fit_fxa
    rw [ga2] at this
    exact this
  have HHI : Hid (∀ W', Below V.heap.size V W' → Calls Tryz.prog 17 #[.pointer (some ⟨N + 1, 0, none⟩), .agg #[.int .u64 3, .int .u64 7], .agg #[.string ⟨#[65]⟩, .string ⟨#[97]⟩], .int .u64 3] W' fun e w' => RdVs W' ([gv2], 0) e w') := fun W' hW => by
    have := S.hist (HDV.out W' hW) h33 3 7 fxa 3 (u64_lit (by decide) (by decide)) (u64_lit (by decide) (by decide)) (u64_lit (by decide) (by decide)) fit_fxa
    rw [gh1] at this
    exact this
  have HSI : Hid (∀ W', Below V.heap.size V W' → Calls Tryz.prog 20 #[.pointer (some ⟨N + 1, 0, none⟩), .agg #[.int .u64 3, .int .u64 7], .string ⟨#[65]⟩, .int .u64 3] W' fun e w' => ∃ L, (L.1.length = 1 ∧ L.2 = 0) ∧ RdF W' L e w') := fun W' hW =>
    (S.since (HDV.out W' hW) h33 3 7 fxT 3 (u64_lit (by decide) (by decide)) (u64_lit (by decide) (by decide)) (u64_lit (by decide) (by decide))).mono fun e w' ⟨L, h1, h2⟩ => ⟨L, gs1 h1, h2⟩
  have HNU : Hid (∀ W', Below V.heap.size V W' → Calls Tryz.prog 22 #[.pointer (some ⟨N + 1, 0, none⟩), .agg #[.int .u64 3, .int .u64 7], .agg #[.string ⟨#[65]⟩, .string ⟨#[97]⟩], .int .i64 1] W' fun e w' => RdV W' (some gv1, 0) e w') := fun W' hW => by
    have := S.num (HDV.out W' hW) h33 3 7 fxa 1 (u64_lit (by decide) (by decide)) (u64_lit (by decide) (by decide)) fit_fxa (by decide) (by decide)
    rw [gn1] at this
    exact this
  have HFI : Hid (∀ W', Below V.heap.size V W' → Calls Tryz.prog 14 #[.pointer (some ⟨N + 1, 0, none⟩), .agg #[.int .u64 3, .int .u64 7], .int .u64 6, .string ⟨#[65]⟩, .slice none 0 0] W' fun e w' => ∃ L, (L.1.length = 1 ∧ L.2 = 0) ∧ RdF W' L e w') := fun W' hW =>
    (S.find (HDV.out W' hW) h33 3 7 6 fxT none 0 [] (u64_lit (by decide) (by decide)) (u64_lit (by decide) (by decide)) (u64_lit (by decide) (by decide)) (Kind.is_nil _ _) ⟨by decide, fun x hx => by cases hx⟩).mono fun e w' h => ⟨_, gf1, h⟩
  have HO8 : Hid (∀ W', Calls Tryz.prog 13 #[.agg #[.int .u64 3, .int .u64 7], .int .u64 8] W' fun e w' => e = .returned (.bool true) ∧ Below W'.heap.size W' w') := fun W' => S.opn W' 3 7 8
  have HO7 : Hid (∀ W', Calls Tryz.prog 13 #[.agg #[.int .u64 3, .int .u64 7], .int .u64 7] W' fun e w' => e = .returned (.bool false) ∧ Below W'.heap.size W' w') := fun W' => S.opn W' 3 7 7
  clear a0 a1 b0 b1 b2 hal hpb hPl hKV HP HQ2 HQ3 HQ4 HQ5 HB2 HB3 HB4 HB5 HS2 HS3 HS4 HS5 HE3 HE4 HE5 HBX HDV h33
  obtain ⟨⟨a0, a1⟩, p0, p1⟩ := HCV.out V (Below.refl _ _)
  go_upto_region 8 with fail
  try rw [hP]
  try rw [hV]
  clear hV hP
  go_wp2_with fail
  clear a0 a1 p0 p1
  refine (HA1.out V (Below.refl _ _)).mono ?_
  rintro e u1 ⟨x, rfl, hxv, _, hc1⟩
  obtain ⟨V1, hV1⟩ : ∃ V1, u1.alloc (.cells (encVx x).toArray 39) = V1 := ⟨_, rfl⟩
  have HD1 : Hid (Below V.heap.size V V1) := by rw [← hV1]; exact bel_then hc1 hc1.size ((Below.refl _ _).alloc (Nat.le_refl _) _)
  clear hxv hc1 HA1
  obtain ⟨xn, xs, xt, xl, xp, xc, xo⟩ := x
  simp only [encVx, Vx.sl] at *
  obtain ⟨⟨a0, a1⟩, p0, p1⟩ := HCV.out V1 HD1.out
  go_upto_region 9 with fail
  try rw [hV1]
  clear hV1
  go_wp2_with fail
  clear a0 a1 p0 p1
  refine (HA2.out V1 HD1.out).mono ?_
  rintro e u2 ⟨y, rfl, hyv, _, hc2⟩
  obtain ⟨Y, hY⟩ : ∃ Y, u2.heap.size = Y := ⟨_, rfl⟩
  obtain ⟨V2, hV2⟩ : ∃ V2, u2.alloc (.cells (encVx y).toArray 39) = V2 := ⟨_, rfl⟩
  have hyb : V2.heap[Y]? = some (.cells (encVx y).toArray 39 (0, 0)) := by rw [← hV2, ← hY]; exact heap_alloc_new u2 _
  have HD2 : Hid (Below V.heap.size V V2) := by rw [← hV2]; exact bel_then HD1.out HD1.out.size (bel_then hc2 hc2.size ((Below.refl _ _).alloc (Nat.le_refl _) _))
  have hyn : y.num = 2 := congrArg Vr.num hyv
  clear hyv hc2 HA2
  obtain ⟨yn, ys, yt, yl, yp, yc, yo⟩ := y
  simp only at hyn
  subst hyn
  simp only [encVx, Vx.sl] at *
  have HYB : Hid (∀ W', Below V2.heap.size V2 W' → W'.cell? ⟨Y, 0, none⟩ = some (.int .i64 2)) := fun W' hW => by
    have := (hW.block Y (Array.getElem?_eq_some_iff.1 hyb).1).trans hyb
    rw [Lib.cell_of_heap this]
    rfl
  clear hyb
  obtain ⟨⟨a0, a1⟩, p0, p1⟩ := HCV.out V2 HD2.out
  go_upto_region 10 with fail
  try rw [hY]
  try rw [hV2]
  clear hV2 hY
  go_wp2_with fail
  clear a0 a1 p0 p1
  refine (HHI.out V2 HD2.out).mono ?_
  rintro e u3 ⟨lp, lc, lo, rfl, _, _, hlm, _, hc3⟩
  have hll : lo.length = 1 := by simpa using congrArg List.length hlm
  have HD3 : Hid (Below V.heap.size V u3) := bel_then HD2.out HD2.out.size hc3
  have HE3 := hid hc3
  rw [hll]
  clear hlm hc3 HHI hll
  obtain ⟨⟨a0, a1⟩, p0, p1⟩ := HCV.out u3 HD3.out
  go_wp2_with fail
  clear a0 a1 p0 p1
  refine (HSI.out u3 HD3.out).mono ?_
  rintro e u4 ⟨⟨L1, L2⟩, ⟨hL1, hL2⟩, sp, sc, so, rfl, _, _, hsm, _, hc4⟩
  simp only at hL1 hL2 hsm
  have hsl : so.length = 1 := by rw [← hL1, ← hsm, List.length_map]
  subst hL2
  have HD4 : Hid (Below V.heap.size V u4) := bel_then HD3.out HD3.out.size hc4
  have HE4 := hid (bel_then HE3.out HE3.out.size hc4)
  simp only
  rw [hsl]
  clear hL1 hsm hsl hc4 HSI HE3
  obtain ⟨⟨a0, a1⟩, p0, p1⟩ := HCV.out u4 HD4.out
  go_wp2_with fail
  clear a0 a1 p0 p1
  refine (HNU.out u4 HD4.out).mono ?_
  rintro e u5 ⟨z, rfl, hzv, _, hc5⟩
  obtain ⟨Zb, hZ⟩ : ∃ Zb, u5.heap.size = Zb := ⟨_, rfl⟩
  obtain ⟨V5, hV5⟩ : ∃ V5, u5.alloc (.cells (encVx z).toArray 39) = V5 := ⟨_, rfl⟩
  have hzb : V5.heap[Zb]? = some (.cells (encVx z).toArray 39 (0, 0)) := by rw [← hV5, ← hZ]; exact heap_alloc_new u5 _
  have hal5 : Below u4.heap.size u4 V5 := by rw [← hV5]; exact bel_then hc5 hc5.size ((Below.refl _ _).alloc (Nat.le_refl _) _)
  have HD5 : Hid (Below V.heap.size V V5) := bel_then HD4.out HD4.out.size hal5
  have HE5 := hid (bel_then HE4.out HE4.out.size hal5)
  have hzs : z.stamp = 2 := congrArg Vr.stamp hzv
  clear hzv hc5 hal5 HNU HE4
  obtain ⟨zn, zs, zt, zl, zp, zc, zo⟩ := z
  simp only at hzs
  subst hzs
  simp only [encVx, Vx.sl] at *
  have HZB : Hid (∀ W', Below V5.heap.size V5 W' → W'.cell? ⟨Zb, 1, none⟩ = some (.int .u64 2)) := fun W' hW => by
    have := (hW.block Zb (Array.getElem?_eq_some_iff.1 hzb).1).trans hzb
    rw [Lib.cell_of_heap this]
    rfl
  clear hzb
  obtain ⟨⟨a0, a1⟩, p0, p1⟩ := HCV.out V5 HD5.out
  go_upto_region 13 with fail
  try rw [hZ]
  try rw [hV5]
  clear hV5 hZ
  go_wp2_with fail
  clear a0 a1 p0 p1
  refine (HFI.out V5 HD5.out).mono ?_
  rintro e u6 ⟨⟨M1, M2⟩, ⟨hM1, hM2⟩, fp, fc, fo, rfl, _, _, hfm, _, hc6⟩
  simp only at hM1 hM2 hfm
  have hfl : fo.length = 1 := by rw [← hM1, ← hfm, List.length_map]
  subst hM2
  have HD6 : Hid (Below V.heap.size V u6) := bel_then HD5.out HD5.out.size hc6
  have y0 := HYB.out u6 (bel_then HE5.out HE5.out.size hc6)
  have z0 := HZB.out u6 hc6
  simp only
  rw [hfl]
  clear hM1 hfm hfl hc6 HFI HE5 HYB HZB
  obtain ⟨⟨a0, a1⟩, p0, p1⟩ := HCV.out u6 HD6.out
  go_wp2_with fail
  clear a0 a1 p0 p1 y0 z0
  refine (HO8.out u6).mono ?_
  rintro e u7 ⟨rfl, hc7⟩
  have HD7 : Hid (Below V.heap.size V u7) := bel_then HD6.out HD6.out.size hc7
  clear hc7
  obtain ⟨⟨a0, a1⟩, p0, p1⟩ := HCV.out u7 HD7.out
  go_wp2_with fail
  clear a0 a1 p0 p1
  refine (HO7.out u7).mono ?_
  rintro e u8 ⟨rfl, hc8⟩
  have HD8 : Hid (Below N W u8) := HBV.out.trans ((bel_then HD7.out HD7.out.size hc8).mono (by have := HBV.out.size; omega))
  clear hc8
  go_wp2_with fail
  go_ret
  exact ⟨rfl, by rw [hN]; exact HD8.out⟩

end Go.Proofs.YticfpkodoghnnaaGreat

/-
  For every script, every later one and all questions of bulk at most 1048576 the Go function PastStays of package foliolaw14 returns true, and its arguments read behind the call as they read before; over the contracts of package past.
-/
namespace Go.Proofs.YticfpkodoghnnaaGreat
open Go.ChangeShapes Go.WideShapes Go.ChangeAt Go.RowKit Go.Joins

set_option maxRecDepth 100000 in
theorem paststays_walked (S : PastApi) {H : Type} {enc : TypeId × Value → H} (W : World) (base : Nat) (args : Array Value) (ds gs : List (DataW H)) (before : List MemPlace)
    (hval : ∀ (j : Nat) t v, Tryz.f5.params[j]? = some t → args[j]? = some v → Value.okWide Tryz.prog W .any base t v)
    (hW : DataW.Whole enc Tryz.prog Tryz.f5.params.toList Rows.pastStaysSpec.vars false W args.toList ds gs before)
    (hZ : (DataW.weightsEach Tryz.prog (Tryz.f5.params.toList ++ (OpenSpec.ofChange Rows.pastStaysSpec).bare.plain.varTypes Tryz.prog) (ds ++ gs)).all (· ≤ reachBytes) = true) (hk : Rows.uptoSmall H (ds ++ gs) = true) :
    Calls Tryz.prog 5 args W fun e W' => ∃ v, e = .returned v ∧ Rows.pastStaysSpec.post enc Tryz.prog Tryz.f5 false true false false W args v W' := by
  have hW' := hW
  obtain ⟨p, q, hA0, hV, rfl, _, _⟩ := hW
  have hA : DataW.TrodAll enc Tryz.prog W 0 (fun _ => true) true Tryz.f5.params.toList args.toList ds p := hA0
  rw [Tryz.params5] at hA hval hZ
  obtain ⟨v0, vs0, d0, ds0, p0, q0, hargs, rfl, rfl, h0, r0⟩ := trodAll_cons hA
  obtain ⟨v1, vs1, d1, ds1, p1, q1, rfl, rfl, rfl, h1, r1⟩ := trodAll_cons r0
  obtain ⟨v2, vs2, d2, ds2, p2, q2, rfl, rfl, rfl, h2, r2⟩ := trodAll_cons r1
  obtain ⟨rfl, rfl, rfl⟩ := trodAll_nil r2
  obtain rfl : args = #[v0, v1, v2] := by cases args; simp_all
  obtain ⟨rfl, rfl⟩ := trodVars_none hV
  have lt0 : ∀ x ∈ p0, x.block < W.heap.size := by obtain ⟨m, hm⟩ := h0; exact DataW.trod_lt m _ _ _ hm
  have lt1 : ∀ x ∈ p1, x.block < W.heap.size := by obtain ⟨m, hm⟩ := h1; exact DataW.trod_lt m _ _ _ hm
  have lt2 : ∀ x ∈ p2, x.block < W.heap.size := by obtain ⟨m, hm⟩ := h2; exact DataW.trod_lt m _ _ _ hm
  have k0 := h0
  have k1 := h1
  have k2 := h2
  have hb : Rows.uptoBulk d0 + Rows.uptoBulk d1 + Rows.uptoBulk d2 ≤ 1048576 := by
    have := of_decide_eq_true hk
    simp only [List.append_nil, Rows.uptoBulkAll] at this
    omega
  have hwalk : Calls Tryz.prog 5 #[v0, v1, v2] W fun e w' => e = .returned (.bool true) ∧ Below W.heap.size W w' := by
    have z0 : ∀ n ∈ d0.weights Tryz.prog 22, n ≤ reachBytes := fun n hn => by
      have := List.all_eq_true.1 hZ n (DataW.weights_mem_each (j := 0) rfl rfl n hn)
      simpa using this
    have z1 : ∀ n ∈ d1.weights Tryz.prog 22, n ≤ reachBytes := fun n hn => by
      have := List.all_eq_true.1 hZ n (DataW.weights_mem_each (j := 1) rfl rfl n hn)
      simpa using this
    have z2 : ∀ n ∈ d2.weights Tryz.prog 23, n ≤ reachBytes := fun n hn => by
      have := List.all_eq_true.1 hZ n (DataW.weights_mem_each (j := 2) rfl rfl n hn)
      simpa using this
    obtain ⟨l, hl1, hl2, hl3, hl4⟩ := open_putsP (hval 0 22 v0 rfl rfl) h0 z0
    obtain ⟨m, hm1, hm2, hm3, hm4⟩ := open_putsP (hval 1 22 v1 rfl rfl) h1 z1
    obtain ⟨qs, hq1, hq2, hq3, hq4⟩ := open_asksP (hval 2 23 v2 rfl rfl) h2 z2
    exact stays14_any S (fixed14_any S) v0 v1 v2 l m qs W hl1 hm1 hq1 hl2 hm2 hq2 (by omega) (by omega)
  clear hA0
  refine hwalk.mono fun o W' ⟨he, bel⟩ => ?_
  subst he
  exact ⟨_, rfl, _, _, _, [], _, [], hW', trodAll_mk1 (shut_bool Tryz.underlying4 _),
    (trodAll_cons_mk (Below.trod Tryz.laidOut (by kernel_rfl) (of_decide_eq_true (by kernel_rfl)) k0 bel lt0) (trodAll_cons_mk (Below.trod Tryz.laidOut (by kernel_rfl) (of_decide_eq_true (by kernel_rfl)) k1 bel lt1) (trodAll_cons_mk (Below.trod Tryz.laidOut (by kernel_rfl) (of_decide_eq_true (by kernel_rfl)) k2 bel lt2) trodAll_mk0))), rfl, bel.frame _, fun h => by cases h⟩

theorem paststays_reads (os : Os) {H : Type} (enc : TypeId × Value → H) : ∃ places, DataW.whole enc Tryz.prog ((World.laidAll Tryz.prog os []).forCall (fun _ _ => 0) ⟨#[], #[.slice none 0 0, .slice none 0 0, .slice none 0 0], []⟩).memory Tryz.f5.params.toList Rows.pastStaysSpec.vars false #[Value.slice none 0 0, .slice none 0 0, .slice none 0 0].toList 8 = some ([.nil, .nil, .nil], [], places) :=
  ⟨[], by kernel_rfl⟩

set_option maxRecDepth 100000 in
theorem paststays_lifted (S : PastApi) (os : Os) (started : os.Started) (H : Type) (enc : TypeId × Value → H) (F : Stop.Interp) :
    ReturnsInHanded {} Tryz.checked os 5 .any ((Rows.OpenSpec.upto Rows.pastStaysSpec).preRow enc Tryz.prog Tryz.f5 Rows.pastStaysUptoRow.domain false Rows.pastStaysUptoRow.laid) (((Rows.OpenSpec.upto Rows.pastStaysSpec).at F).post enc Tryz.prog Tryz.f5 false true false false) := by
  obtain ⟨places, hx⟩ := paststays_reads os enc
  refine returnsInHanded_of_row (C := Tryz.checked) (s := Rows.OpenSpec.upto Rows.pastStaysSpec) Tryz.own started (by kernel_rfl) Tryz.func5
    (witness_row_at (enc := enc) (C := Tryz.checked) false (World.laidAll Tryz.prog os []) #[.slice none 0 0, .slice none 0 0, .slice none 0 0] (World.laidAll_os _ _ _) (by kernel_rfl) (by kernel_rfl) (by kernel_rfl)
      (OpenSpec.preRow_of_cond 8 hx (by kernel_rfl) (fun k hk => by cases hk; kernel_rfl) (by kernel_rfl)
        (by rw [MakeChecks.laidMetH_plain _ _ _ (by kernel_rfl)]; exact laidMet_laidAll (laid := []) _ (by kernel_rfl) (by kernel_rfl)))) ?_
  intro W base args ds gs before hval hW _ hcond hZ _ _ _
  exact paststays_walked S W base args ds gs before hval hW hZ (hcond _ rfl)

theorem paststays_of (S : PastApi) : Rows.PastStaysUptoSaid :=
  OpenClaim.holds_of_cond 5 Tryz.f5 rfl rfl rfl rfl rfl rfl rfl ⟨rfl, rfl, rfl, rfl, rfl⟩ rfl rfl rfl rfl rfl (by kernel_rfl) Tryz.func5 (by kernel_rfl)
    (of_decide_eq_true (by kernel_rfl)) (by unfold Func.isWrapper; first | (rw [if_pos (by decide +kernel)]; kernel_rfl) | (rw [if_neg (by decide +kernel)]; exact ⟨rfl, rfl⟩))
    (fun os started H enc _ F => by rw [OpenClaim.pre_eq_preRow]; exact paststays_lifted S os started H enc F)

end Go.Proofs.YticfpkodoghnnaaGreat
