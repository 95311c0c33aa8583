/-
  Texts of this claim, one behind the other: Yr3 Yr4 Yw1 Yw2 Yk1 Yk2 Yw3 Yk3 Mfd.
-/
import Derived.Test.YtmihddbnddgfhaaPg
import Derived.Test.YtmihddbnddgfhaaPe
import Derived.Test.YtmihddbnddgfhaaPb
import Derived.Test.YtmihddbnddgfhaaPc
/-
  The reference's tracker (stage 13): Points, Check.
-/
namespace Go.Proofs.Ytmihddbnddgfhaa
open Go.RowKit

set_option maxHeartbeats 4000000 in
set_option maxRecDepth 100000 in
theorem points13_any (m : Mx) (x : Dx) (w : World) (hm : MIn w m) (hw : LenM m) (hx : DRd w x) :
    Calls Try.prog 41 #[.agg (encMx m).toArray, .agg (encDx x).toArray] w fun e w' => e = .returned (.bool (hitsM m.mk' (x.cs.map Cx.ch))) ∧ Below w.heap.size w w' := by
  obtain ⟨hbV, h1, h2, hs⟩ := two_boxes w (encMx m).toArray (encDx x).toArray 32 35
  obtain ⟨V, hV⟩ : ∃ V, (w.alloc (.cells (encMx m).toArray 32)).alloc (.cells (encDx x).toArray 35) = V := ⟨_, rfl⟩
  obtain ⟨M, hM⟩ : ∃ M, w.heap.size = M := ⟨_, rfl⟩
  rw [hV] at hbV h1 h2 hs
  rw [hM] at h1 h2 hs
  have HB := hid hbV
  have HH := hid (hits12_any m x.csl x.cs V (hm.on hbV) hw (hx.chg.on hbV).is (hx.chg.on hbV).each hx.few)
  have a0 : V.cell? ⟨M, 0, none⟩ = some m.ksl := by rw [Lib.cell_of_heap h1]; rfl
  have a1 : V.cell? ⟨M, 1, none⟩ = some m.rsl := by rw [Lib.cell_of_heap h1]; rfl
  have b5 : V.cell? ⟨M + 1, 5, none⟩ = some x.csl := by rw [Lib.cell_of_heap h2]; rfl
  clear hm hx hbV h1 h2 hs
  generalize hitsM m.mk' (x.cs.map Cx.ch) = T at *
  obtain ⟨xs, xt, xo, xm, xcp, xcc, xcs⟩ := x
  obtain ⟨mkp, mkc, mks, mrp, mrc, mrs⟩ := m
  obtain ⟨nkp, nkc, nks, nrp, nrc, nrs⟩ := xm
  simp only [encDx, encMx, Mx.ksl, Mx.rsl, Dx.csl] at *
  go_enter Try.func41, Try.ntmps41
  go_wp2_with fail
  try rw [hV]
  clear a0 a1 b5 hV
  refine HH.out.mono ?_
  rintro e w1 ⟨rfl, hb1⟩
  have HB1 := hid (bel_then HB.out HB.out.size hb1)
  clear hb1
  go_wp2_with fail
  go_ret
  first | exact ⟨rfl, HB1.out⟩ | exact ⟨rfl, by rw [← hM]; exact HB1.out⟩

/-- Marks, kept in a block of their own. -/
structure BoxY13 (W : World) (M : Nat) (m : Mx) (w : World) : Prop where
  bel : Below W.heap.size W w
  obj : w.heap[M]? = some (.cells (encMx m).toArray 32 (0, 0))
theorem BoxY13.on {W : World} {M : Nat} {m : Mx} {w w' : World} (h : BoxY13 W M m w) (hb : Below w.heap.size w w') : BoxY13 W M m w' := ⟨bel_then h.bel h.bel.size hb, (hb.block M (Array.getElem?_eq_some_iff.1 h.obj).1).trans h.obj⟩

set_option linter.unusedSimpArgs false in
set_option maxHeartbeats 16000000 in
set_option maxRecDepth 100000 in
theorem rcheck13_any {n0 : Nat} {W : World} {g : Nat} {most : Nat} {ds : List Dx} {gn : List Bool} {sum : Int} {va vg : Value} (hR : RefT n0 W g most ds gn sum va vg) (hl : ds.length ≤ 9000000000000000000) (s : Int) (m : Mx) (v : Value) (cs : List Cx) (hm : MIn W m) (hlm : LenM m) (hc : ChgIn W v cs) (hlc : cs.length ≤ 9000000000000000000) :
    Calls Try.prog 27 #[.pointer (some ⟨g, 0, none⟩), .int .u64 s, .agg (encMx m).toArray, v] W fun e w' => e = .returned (.tuple #[.bool (checkT (tkG most (ds.map Dx.dn) gn sum) s m.mk' (cs.map Cx.ch)).1, .int .i64 (checkT (tkG most (ds.map Dx.dn) gn sum) s m.mk' (cs.map Cx.ch)).2]) ∧ Below W.heap.size W w' := by
  obtain ⟨⟨pa, ca, rfl⟩, pg, cg, rfl⟩ := hR.shape
  obtain ⟨pv, cv, hvs⟩ : ∃ p c, v = .slice p cs.length c := by
    obtain ⟨p, c, he, _⟩ := hc.is
    exact ⟨p, c, he⟩
  subst hvs
  have hlz : (ds.map Dx.dn).length = ds.length := List.length_map _
  have HLN : Hid (gn.length = (ds.map Dx.dn).length) := by rw [List.length_map]; exact hR.len
  have HLG := hid hR.len
  have HR := hid hR
  obtain ⟨V, hV⟩ : ∃ V, W.alloc (.cells (encMx m).toArray 32) = V := ⟨_, rfl⟩
  obtain ⟨M, hM⟩ : ∃ M, W.heap.size = M := ⟨_, rfl⟩
  have HV : Hid (BoxY13 W M m V) := ⟨by rw [← hV]; exact (Below.refl _ _).alloc (Nat.le_refl _) _, by rw [← hV, ← hM]; exact heap_alloc_new W _⟩
  have z3 : V.cell? ⟨g, 3, none⟩ = some (.int .u64 sum) := by rw [Lib.cell_of_heap (hR.on HV.out.bel).obj]; rfl
  have HPT : Hid (∀ W' x, x ∈ ds → Below W.heap.size W W' → Calls Try.prog 41 #[.agg (encMx m).toArray, .agg (encDx x).toArray] W' fun e w' => e = .returned (.bool (hitsM m.mk' (x.cs.map Cx.ch))) ∧ Below W'.heap.size W' w') := fun W' x hx hW => points13_any m x W' (hm.on hW) hlm ((hR.rd x hx).on hW)
  have HHT : Hid (∀ W' x, x ∈ ds → Below W.heap.size W W' → Calls Try.prog 42 #[.agg (encMx x.m).toArray, .slice pv cs.length cv] W' fun e w' => e = .returned (.bool (hitsM x.m.mk' (cs.map Cx.ch))) ∧ Below W'.heap.size W' w') := fun W' x hx hW => hits12_any x.m _ cs W' ((hR.rd x hx).mrk.on hW) (hR.rd x hx).len (hc.on hW).is (hc.on hW).each hlc
  obtain ⟨mk, hmk⟩ : ∃ mk, m.mk' = mk := ⟨_, rfl⟩
  obtain ⟨cl, hcl⟩ : ∃ cl, cs.map Cx.ch = cl := ⟨_, rfl⟩
  rw [hmk] at HPT ⊢
  rw [hcl] at HHT ⊢
  clear hR hm hc hmk hcl hlc hlm
  obtain ⟨mkp, mkc, mks, mrp, mrc, mrs⟩ := m
  simp only [encMx, Mx.ksl, Mx.rsl] at *
  go_enter Try.func27, Try.ntmps27
  go_wp2_with fail
  try rw [hV]
  try rw [hM]
  clear z3 hV
  have HM := hid hM
  clear hM
  go_loopg [11, 12, 13, 14] ds.length (fun gg v1 v2 v3 vi wr => ∃ (i : Nat) (O I D : Bool), v1 = .bool O ∧ v2 = .bool I ∧ v3 = .bool D ∧ vi = .int .i64 i ∧ i ≤ ds.length ∧ ds.length - i ≤ gg ∧ Hid (outT (keptG ((ds.map Dx.dn).take i) (gn.take i)) s mk = O ∧ inT (keptG ((ds.map Dx.dn).take i) (gn.take i)) s cl = I ∧ deepT (keptG ((ds.map Dx.dn).take i) (gn.take i)) s mk = D ∧ BoxY13 W M ⟨mkp, mkc, mks, mrp, mrc, mrs⟩ wr))
  case atStart => exact ⟨0, false, false, false, rfl, rfl, rfl, rfl, by omega, by omega, rfl, rfl, rfl, HV.out⟩
  case round =>
    clear HV
    obtain ⟨i, O, I, D, rfl, rfl, rfl, rfl, hi, hgk, HS⟩ := hrel
    have hR := HR.out.on HS.out.2.2.2.bel
    have z0 : wr.cell? ⟨g, 1, none⟩ = some (.slice pa ds.length ca) := by rw [Lib.cell_of_heap hR.obj]; rfl
    by_cases hlt : i < ds.length
    · have hlg : i < gn.length := by rw [HLG.out]; exact hlt
      have i1 : (0 : Int) ≤ ↑i := by omega
      have i2 : (↑i : Int) < ↑ds.length := by omega
      have i3 : (↑i : Int) < ↑gn.length := by omega
      obtain ⟨g1, rfl, _, _, k1, _⟩ := Kind.own_form hR.all (by omega)
      obtain ⟨g2, rfl, _, _, k2, _⟩ := Kind.own_form hR.gone (by omega)
      obtain ⟨c0, c1, c2, c3, c4, c5⟩ := kdx_at k1 i hlt
      rw [Nat.zero_add] at c0 c1 c2 c3 c4 c5
      have hk := keptG_take HLN.out (i := i) (by rw [List.length_map]; exact hlt)
      rw [List.getElem_map] at hk
      have HPX : Hid (∀ W', Below W.heap.size W W' → Calls Try.prog 41 #[.agg #[.slice mkp mks.length mkc, .slice mrp mrs.length mrc], .agg (encDx ds[i]).toArray] W' fun e w' => e = .returned (.bool (hitsM mk ((ds[i]).cs.map Cx.ch))) ∧ Below W'.heap.size W' w') := fun W' hW => HPT.out W' _ (List.getElem_mem hlt) hW
      have HHX : Hid (∀ W', Below W.heap.size W W' → Calls Try.prog 42 #[.agg (encMx (ds[i]).m).toArray, .slice pv cs.length cv] W' fun e w' => e = .returned (.bool (hitsM (ds[i]).m.mk' cl)) ∧ Below W'.heap.size W' w') := fun W' hW => HHT.out W' _ (List.getElem_mem hlt) hW
      generalize ds[i] = x at *
      obtain ⟨xs, xt, xo, ⟨nkp, nkc, nks, nrp, nrc, nrs⟩, xcp, xcc, xcs⟩ := x
      simp only [encDx, encMx, Mx.ksl, Mx.rsl, Dx.csl] at *
      obtain ⟨V, hV⟩ : ∃ V, wr.alloc (.cells #[.int .u64 xs, .int .u64 xt, .bool xo, .slice nkp nks.length nkc, .slice nrp nrs.length nrc, .slice xcp xcs.length xcc] 35) = V := ⟨_, rfl⟩
      obtain ⟨G, hG⟩ : ∃ G, wr.heap.size = G := ⟨_, rfl⟩
      have hbV : Below wr.heap.size wr V := by rw [← hV]; exact (Below.refl _ _).alloc (Nat.le_refl _) _
      have hobj : V.heap[G]? = some (.cells #[.int .u64 xs, .int .u64 xt, .bool xo, .slice nkp nks.length nkc, .slice nrp nrs.length nrc, .slice xcp xcs.length xcc] 35 (0, 0)) := by rw [← hV, ← hG]; exact heap_alloc_new wr _
      have hBM := HS.out.2.2.2.on hbV
      have hRV := HR.out.on hBM.bel
      have y0 : V.cell? ⟨g, 2, none⟩ = some (.slice (some ⟨g2, 0, none⟩) gn.length cg) := by rw [Lib.cell_of_heap hRV.obj]; rfl
      have z1 := kb13_at (Kind.at_kept k2 hbV) i hlg
      rw [Nat.zero_add] at z1
      have d1 : V.cell? ⟨G, 1, none⟩ = some (.int .u64 xt) := by rw [Lib.cell_of_heap hobj]; rfl
      have HBM := hid hBM
      cases hb : gn[i] with
      | true =>
        rw [hb] at z1 hk
        have HN : Hid (outT (keptG ((ds.map Dx.dn).take (i + 1)) (gn.take (i + 1))) s mk = O ∧ inT (keptG ((ds.map Dx.dn).take (i + 1)) (gn.take (i + 1))) s cl = I ∧ deepT (keptG ((ds.map Dx.dn).take (i + 1)) (gn.take (i + 1))) s mk = D ∧ BoxY13 W M ⟨mkp, mkc, mks, mrp, mrc, mrs⟩ V) := by
          show _ ∧ _
          rw [hk, if_pos rfl, List.append_nil]
          exact ⟨HS.out.1, HS.out.2.1, HS.out.2.2.1, HBM.out⟩
        clear hk hb hR hRV k1 k2 hbV hobj hBM HPX HHX
        go_wp2_with fail
        go_roundg (ds.length - (i + 1))
        case measure => omega
        exact ⟨i + 1, O, I, D, rfl, rfl, rfl, by go_num, by omega, by omega, HN.out⟩
      | false =>
        rw [hb] at z1 hk
        rw [if_neg (by decide)] at hk
        by_cases hs : xt ≤ s
        · have HN : Hid (outT (keptG ((ds.map Dx.dn).take (i + 1)) (gn.take (i + 1))) s mk = O ∧ inT (keptG ((ds.map Dx.dn).take (i + 1)) (gn.take (i + 1))) s cl = I ∧ deepT (keptG ((ds.map Dx.dn).take (i + 1)) (gn.take (i + 1))) s mk = D ∧ BoxY13 W M ⟨mkp, mkc, mks, mrp, mrc, mrs⟩ V) := by
            have hbe : besideT s (Dx.dn ⟨xs, xt, xo, ⟨nkp, nkc, nks, nrp, nrc, nrs⟩, xcp, xcc, xcs⟩) = false := decide_eq_false (by show ¬ s < xt; omega)
            show _ ∧ _
            rw [hk, out_snoc, in_snoc, deep_snoc, hbe]
            simp only [Bool.false_and, Bool.or_false]
            exact ⟨HS.out.1, HS.out.2.1, HS.out.2.2.1, HBM.out⟩
          clear hk hb hR hRV k1 k2 hbV hobj hBM HPX HHX
          go_wp2_with fail
          go_roundg (ds.length - (i + 1))
          case measure => omega
          exact ⟨i + 1, O, I, D, rfl, rfl, rfl, by go_num, by omega, by omega, HN.out⟩
        · have HP1 := hid (HPX.out V HBM.out.bel)
          have a0 : V.cell? ⟨M, 0, none⟩ = some (.slice mkp mks.length mkc) := by rw [Lib.cell_of_heap hBM.obj]; rfl
          have a1 : V.cell? ⟨M, 1, none⟩ = some (.slice mrp mrs.length mrc) := by rw [Lib.cell_of_heap hBM.obj]; rfl
          have e0 : V.cell? ⟨G, 0, none⟩ = some (.int .u64 xs) := by rw [Lib.cell_of_heap hobj]; rfl
          have e2 : V.cell? ⟨G, 2, none⟩ = some (.bool xo) := by rw [Lib.cell_of_heap hobj]; rfl
          have e3 : V.cell? ⟨G, 3, none⟩ = some (.slice nkp nks.length nkc) := by rw [Lib.cell_of_heap hobj]; rfl
          have e4 : V.cell? ⟨G, 4, none⟩ = some (.slice nrp nrs.length nrc) := by rw [Lib.cell_of_heap hobj]; rfl
          have e5 : V.cell? ⟨G, 5, none⟩ = some (.slice xcp xcs.length xcc) := by rw [Lib.cell_of_heap hobj]; rfl
          have hGl : G < V.heap.size := (Array.getElem?_eq_some_iff.1 hobj).1
          have HCELL : Hid (∀ W', Below V.heap.size V W' → W'.cell? ⟨G, 2, none⟩ = some (.bool xo) ∧ W'.cell? ⟨G, 3, none⟩ = some (.slice nkp nks.length nkc) ∧ W'.cell? ⟨G, 4, none⟩ = some (.slice nrp nrs.length nrc)) := fun W' hW => by
            have := (hW.block G hGl).trans hobj
            exact ⟨by rw [Lib.cell_of_heap this]; rfl, by rw [Lib.cell_of_heap this]; rfl, by rw [Lib.cell_of_heap this]; rfl⟩
          obtain ⟨P, hP⟩ : ∃ P, hitsM mk (xcs.map Cx.ch) = P := ⟨_, rfl⟩
          obtain ⟨H, hH⟩ : ∃ H, hitsM (Mx.mk' ⟨nkp, nkc, nks, nrp, nrc, nrs⟩) cl = H := ⟨_, rfl⟩
          have HN : Hid (outT (keptG ((ds.map Dx.dn).take (i + 1)) (gn.take (i + 1))) s mk = (O || P) ∧ inT (keptG ((ds.map Dx.dn).take (i + 1)) (gn.take (i + 1))) s cl = (I || H) ∧ deepT (keptG ((ds.map Dx.dn).take (i + 1)) (gn.take (i + 1))) s mk = (D || (P && xo))) := by
            have hbe : besideT s (Dx.dn ⟨xs, xt, xo, ⟨nkp, nkc, nks, nrp, nrc, nrs⟩, xcp, xcc, xcs⟩) = true := decide_eq_true (by show s < xt; omega)
            show _ ∧ _
            rw [hk, out_snoc, in_snoc, deep_snoc, hbe, HS.out.1, HS.out.2.1, HS.out.2.2.1, ← hP, ← hH]
            simp only [Bool.true_and]
            exact ⟨rfl, rfl, rfl⟩
          rw [hP] at HP1
          rw [hH] at HHX
          clear hk hb hR hRV k1 k2 hbV hobj hBM HPX hP hH HS
          go_wp2_with fail
          refine HP1.out.mono ?_
          rintro e w1 ⟨rfl, hb1⟩
          clear HP1 a0 a1 e0 e2 e3 e4 e5 y0 z1 d1 c0 c1 c2 c3 c4 c5 z0
          obtain ⟨e2, e3, e4⟩ := HCELL.out w1 hb1
          have HH1 := hid (HHX.out w1 (HBM.out.on hb1).bel)
          have HB1 := hid (HBM.out.on hb1)
          clear hb1 HCELL HHX HPT HHT
          cases O <;> cases P <;> cases D <;> cases I <;> (
            go_wp2_with (go_at_call 42; refine HH1.out.mono ?_; rintro e w2 ⟨rfl, hb2⟩; have HB1 := hid (HB1.out.on hb2); clear hb2)
            go_roundg (ds.length - (i + 1))
            case measure => omega
            exact ⟨i + 1, _, _, _, rfl, rfl, rfl, by go_num, by omega, by omega, HN.out.1, HN.out.2.1, HN.out.2.2, HB1.out⟩)
    · have hltz : ¬ (i : Int) < (ds.length : Int) := by omega
      have HE : Hid (checkT (tkG most (ds.map Dx.dn) gn sum) s mk cl = (if (decide (s < sum) || D || (O && I)) = true then (false, 11) else (O, 0))) := by
        have h := HS.out
        rw [List.take_of_length_le (by rw [hlz]; omega), List.take_of_length_le (by rw [HLG.out]; omega)] at h
        show _ = _
        unfold checkT clashT tkG
        simp only [h.1, h.2.1, h.2.2.1]
      have HB := hid HS.out.2.2.2.bel
      clear hR HS
      by_cases hsm : s < sum
      · rw [decide_eq_true hsm] at HE
        go_wp2_with fail
        go_ret2
        exact ⟨by rw [HE.out]; rfl, HB.out⟩
      · rw [decide_eq_false hsm] at HE
        cases O <;> cases D <;> cases I <;> (
          go_wp2_with fail
          go_ret2
          exact ⟨by rw [HE.out]; rfl, HB.out⟩)

end Go.Proofs.Ytmihddbnddgfhaa

/-
  The reference's tracker (stage 13): Add.
-/
namespace Go.Proofs.Ytmihddbnddgfhaa
open Go.RowKit

def kq13 : Nat → Nat
  | 3 => 1
  | 4 => 2
  | 5 => 2
  | 6 => 3
  | _ => 0
/-- 't.All = append(t.All, Done(d))': what is so behind k operations (call, box, append, nil check, address, store); fl: the load of t.All. -/
def RaSt (n0 : Nat) (W U : World) (g : Nat) (x : Dn) (ds : List Dx) (va : Value) (c : Array Value) (k : Nat) (fl : List Bool) (u e s p a1 a2 : Value) (w : World) : Prop :=
  (k = 0 ∧ w = U ∧ (fl[0]? = some true → u = va)) ∨
  (1 ≤ k ∧ ∃ y w1, e = .agg (encDx y).toArray ∧ (DOwn U.heap.size w1 y ∧ y.dn = x ∧ SzD y.m y.cs ∧ Below U.heap.size U w1) ∧ Pb KDx 35 n0 W y ds va g 1 c 44 w1 (kq13 k) [fl.getD 0 false, decide (2 ≤ k)] u s p w ∧ (3 ≤ k → fl = [true]) ∧ (4 ≤ k → a1 = .pointer (some ⟨g, 0, none⟩)) ∧ (5 ≤ k → a2 = .pointer (some ⟨g, 1, none⟩)))

/-- The document's tracker again, where only t.Gone's row and the box have turned. -/
theorem ref_more {n0 : Nat} {w3 w9 : World} {g most : Nat} {ds : List Dx} {gn gn' : List Bool} {sum sum' : Int} {va vg vg' : Value} (hobj : w3.heap[g]? = some (.cells #[.int .i64 (most : Nat), va, vg, .int .u64 sum] 44 (0, 0))) (hlow : n0 ≤ g) (hall : KDx.Own n0 w3 va ds) (hgone : KB13.Own n0 w3 vg gn)
    (heach : ∀ d ∈ ds, DOwn n0 w3 d ∧ SzD d.m d.cs ∧ (0 ≤ d.snap ∧ d.snap ≤ 18446744073709551615) ∧ 0 ≤ d.stamp ∧ d.stamp ≤ 18446744073709551615) (f : Fr (fun b => b = g ∨ vg.ownBlock = some b) w3 w9)
    (hobj9 : w9.heap[g]? = some (.cells #[.int .i64 (most : Nat), va, vg', .int .u64 sum'] 44 (0, 0))) (hg9 : KB13.Own n0 w9 vg' gn') (hlen : gn'.length = ds.length) : RefT n0 w9 g most ds gn' sum' va vg' := by
  refine ⟨hobj9, hlow, f.row (show w3.ownsRow n0 KDx.T KDx.k va ds.length (KDx.cells ds) from hall) fun k hk e => ?_, hg9, fun d hd => ⟨(heach d hd).1.frB f fun k hk e => ?_, (heach d hd).2⟩, hlen⟩
  · obtain ⟨cs, q⟩ := own_type (show w3.ownsRow n0 35 KDx.k va ds.length (KDx.cells ds) from hall) hk
    rcases e with e | e
    · subst e
      exact typ_ne q hobj (by decide)
    · obtain ⟨cs', q'⟩ := own_type (show w3.ownsRow n0 4 KB13.k vg gn.length (KB13.cells gn) from hgone) e
      exact typ_ne q q' (by decide)
  · rcases e with e | e
    · subst e
      exact (heach d hd).1.typ k hk hobj (by decide)
    · obtain ⟨cs', q'⟩ := own_type (show w3.ownsRow n0 4 KB13.k vg gn.length (KB13.cells gn) from hgone) e
      exact (heach d hd).1.typ k hk q' (by decide)
/-- .. where only t.All's row and the box have turned. -/
theorem RefT.mid {n0 : Nat} {W w3 : World} {g most : Nat} {ds : List Dx} {gn : List Bool} {sum : Int} {va vg : Value} (h : RefT n0 W g most ds gn sum va vg) (f : Fr (fun b => b = g ∨ va.ownBlock = some b) W w3) :
    KB13.Own n0 w3 vg gn ∧ ∀ d ∈ ds, DOwn n0 w3 d ∧ SzD d.m d.cs ∧ (0 ≤ d.snap ∧ d.snap ≤ 18446744073709551615) ∧ 0 ≤ d.stamp ∧ d.stamp ≤ 18446744073709551615 := by
  refine ⟨f.row (show W.ownsRow n0 KB13.T KB13.k vg gn.length (KB13.cells gn) from h.gone) fun k hk e => ?_, fun d hd => ⟨(h.each d hd).1.frB f fun k hk e => ?_, (h.each d hd).2⟩⟩
  · obtain ⟨cs, q⟩ := own_type (show W.ownsRow n0 4 KB13.k vg gn.length (KB13.cells gn) from h.gone) hk
    rcases e with e | e
    · subst e
      exact typ_ne q h.obj (by decide)
    · obtain ⟨cs', q'⟩ := own_type (show W.ownsRow n0 35 KDx.k va ds.length (KDx.cells ds) from h.all) e
      exact typ_ne q q' (by decide)
  · rcases e with e | e
    · subst e
      exact (h.each d hd).1.typ k hk h.obj (by decide)
    · obtain ⟨cs', q'⟩ := own_type (show W.ownsRow n0 35 KDx.k va ds.length (KDx.cells ds) from h.all) e
      exact (h.each d hd).1.typ k hk q' (by decide)
/-- Another summary. -/
theorem RefT.sums {n0 : Nat} {W : World} {g most : Nat} {ds : List Dx} {gn : List Bool} {sum s : Int} {va vg : Value} (h : RefT n0 W g most ds gn sum va vg) : RefT n0 (W.setCell ⟨g, 3, none⟩ (.int .u64 s)) g most ds gn s va vg := by
  have f := fr_set W g 3 (.int .u64 s)
  refine ref_more h.obj h.low h.all h.gone h.each (f.mono fun k hk => Or.inl hk) (heap_setCell_same _ g 3 _ _ _ h.obj) (f.row (show W.ownsRow n0 KB13.T KB13.k vg gn.length (KB13.cells gn) from h.gone) fun k hk e => ?_) h.len
  subst e
  obtain ⟨cs, q⟩ := own_type (show W.ownsRow n0 4 KB13.k vg gn.length (KB13.cells gn) from h.gone) hk
  exact typ_ne q h.obj (by decide)

/-- What Add leaves. -/
def RAddPost (n0 : Nat) (W : World) (g most : Nat) (ds : List Dx) (gn : List Bool) (sum : Int) (va vg : Value) (x : Dn) (e : Ending) (w' : World) : Prop :=
  e = .returned (.int .i64 (addT (tkG most (ds.map Dx.dn) gn sum) x).1) ∧ ∃ ds' gn' sum' va' vg', RefT n0 w' g most ds' gn' sum' va' vg' ∧ tkG most (ds'.map Dx.dn) gn' sum' = (addT (tkG most (ds.map Dx.dn) gn sum) x).2 ∧ ds'.length ≤ ds.length + 1 ∧ Fr (BlkT g ds va vg) W w' ∧ ∀ k, BlkT g ds' va' vg' k → BlkT g ds va vg k ∨ W.heap.size ≤ k

set_option linter.unusedSimpArgs false in
set_option maxHeartbeats 16000000 in
set_option maxRecDepth 100000 in
theorem radd13_any {n0 : Nat} {W : World} {g : Nat} {most : Nat} {ds : List Dx} {gn : List Bool} {sum : Int} {va vg : Value} (hR : RefT n0 W g most ds gn sum va vg) (hn0 : n0 ≤ W.heap.size) (hl : ds.length ≤ 1400000000000) (x : Dx) (hx : DIn W x) (hfx : FewD x) :
    Calls Try.prog 25 #[.pointer (some ⟨g, 0, none⟩), .agg (encDx x).toArray] W fun e w' => RAddPost n0 W g most ds gn sum va vg x.dn e w' := by
  obtain ⟨i0, hi0, hz0, hz1, hz2⟩ := info_parts Try.infoDx13
  obtain ⟨i1, hi1, hy0, hy1, hy2⟩ := info_parts Try.infoBool13
  have HI0 := hid hi0
  have HI1 := hid hi1
  clear hi0 hi1
  obtain ⟨⟨pa, ca, rfl⟩, pg, cg, rfl⟩ := hR.shape
  obtain ⟨M, hM⟩ : ∃ M, W.heap.size = M := ⟨_, rfl⟩
  obtain ⟨V, hV⟩ : ∃ V, W.alloc (.cells (encDx x).toArray 35) = V := ⟨_, rfl⟩
  have hbV : Below W.heap.size W V := by rw [← hV]; exact (Below.refl _ _).alloc (Nat.le_refl _) _
  have hobj : V.heap[M]? = some (.cells (encDx x).toArray 35 (0, 0)) := by rw [← hV, ← hM]; exact heap_alloc_new W _
  have hRV := hR.on hbV
  have z1 : V.cell? ⟨g, 1, none⟩ = some (.slice pa ds.length ca) := by rw [Lib.cell_of_heap hRV.obj]; rfl
  have b1 : V.cell? ⟨M, 1, none⟩ = some (.int .u64 x.stamp) := by rw [Lib.cell_of_heap hobj]; rfl
  have HOLD : Hid (oldT (tkG most (ds.map Dx.dn) gn sum) x.dn = match (ds.map Dx.dn).getLast? with | some y => decide (x.stamp < y.stamp) | none => false) := tkG_old _ _ _ _ _
  have HR := hid hR
  have HB := hid hbV
  have HOBJ := hid hobj
  have HRV := hid hRV
  have HDN : Hid (∀ W', Below W.heap.size W W' → Calls Try.prog 24 #[.agg (encDx x).toArray] W' fun e w' => DnPost W' x e w') := fun W' hW => done13_any x W' (hx.on hW) hfx
  have hst0 := hx.stamp
  have hsn := hx.snap
  obtain ⟨OLD, hOLD⟩ : ∃ b, oldT (tkG most (ds.map Dx.dn) gn sum) x.dn = b := ⟨_, rfl⟩
  have HOL := hid hOLD
  rw [hOLD] at HOLD
  obtain ⟨xs, xt, xo, ⟨mkp, mkc, mks, mrp, mrc, mrs⟩, xcp, xcc, xcs⟩ := x
  simp only [encDx, Mx.ksl, Mx.rsl, Dx.csl] at *
  clear hR hbV hobj hx hOLD
  go_enter Try.func25, Try.ntmps25
  go_upto_region 1 with fail
  try rw [hV]
  try rw [hM]
  go_cut [29] from 6 (fun c wx => c = .bool OLD ∧ Hid (Below V.heap.size V wx))
  case first =>
    by_cases h0 : ds.length = 0
    · have hd : ds = [] := List.length_eq_zero_iff.1 h0
      have hO : OLD = false := by rw [HOLD.out, hd]; rfl
      subst hO
      rw [h0] at z1
      have HBV : Hid (∀ n, Below V.heap.size V (V.drewN n)) := fun n => bel_drewN (Below.refl _ _) n
      clear hRV h0
      go_quiet (fail)
      go_wp2_with fail
      go_meet
      exact ⟨rfl, HBV.out _⟩
    · have hpos : 0 < ds.length := by omega
      have i1 : (0 : Int) < (ds.length : Int) := by omega
      obtain ⟨g1, rfl, _, _, k1, _⟩ := Kind.own_form hRV.all (by omega)
      obtain ⟨q, hq⟩ : ∃ q, ds.length - 1 = q := ⟨_, rfl⟩
      have hql : q < ds.length := by omega
      have c1 := (kdx_at k1 q hql).2.1
      rw [Nat.zero_add] at c1
      have hO : OLD = decide (xt < (ds[q]).stamp) := by
        rw [HOLD.out, List.getLast?_map, List.getLast?_eq_getElem?, hq, List.getElem?_eq_getElem hql]
        rfl
      have i2 : IntKind.i64.wrap ((ds.length : Int) - 1) = (q : Int) := by rw [IntKind.wrap_i64]; omega
      have i3 : (0 : Int) ≤ (q : Int) := by omega
      have i4 : (q : Int) < (ds.length : Int) := by omega
      have HBV : Hid (∀ n, Below V.heap.size V (V.drewN n)) := fun n => bel_drewN (Below.refl _ _) n
      generalize ds[q] = y at *
      clear hRV h0 k1 hq hql
      by_cases hlt : xt < y.stamp
      · rw [decide_eq_true hlt] at hO
        subst hO
        go_quiet (fail)
        go_wp2_with fail
        go_meet
        exact ⟨rfl, HBV.out _⟩
      · rw [decide_eq_false hlt] at hO
        subst hO
        go_quiet (fail)
        go_wp2_with fail
        go_meet
        exact ⟨rfl, HBV.out _⟩
  case rest =>
  obtain ⟨rfl, HBC⟩ := hcut
  clear hRV z1 b1 HOLD HRV
  have HBW : Hid (∀ w', Below wc.heap.size wc w' → Below W.heap.size W w') := fun w' hw => bel_then (bel_then HB.out HB.out.size HBC.out) (Nat.le_trans HB.out.size HBC.out.size) hw
  cases OLD with
  | true =>
    have HP : Hid (∀ w', Below wc.heap.size wc w' → RAddPost n0 W g most ds gn sum (.slice pa ds.length ca) (.slice pg gn.length cg) (Dx.dn ⟨xs, xt, xo, ⟨mkp, mkc, mks, mrp, mrc, mrs⟩, xcp, xcc, xcs⟩) (.returned (.int .i64 8)) w') := fun w' hw => by
      have e : addT (tkG most (ds.map Dx.dn) gn sum) (Dx.dn ⟨xs, xt, xo, ⟨mkp, mkc, mks, mrp, mrc, mrs⟩, xcp, xcc, xcs⟩) = (8, tkG most (ds.map Dx.dn) gn sum) := by
        unfold addT
        rw [HOL.out, if_pos rfl]
      unfold RAddPost
      rw [e]
      exact ⟨rfl, ds, gn, sum, _, _, HR.out.on (HBW.out w' hw), rfl, by omega, Fr.of_below (HBW.out w' hw), fun k hk => Or.inl hk⟩
    go_wp2_with fail
    go_ret
    exact HP.out _ (Below.refl _ _)
  | false =>
    have hbU : Below W.heap.size W wc.drew := HBW.out _ (Below.refl _ wc).drew
    have hRU := HR.out.on hbU
    have hoU : wc.drew.heap[M]? = some (.cells #[.int .u64 xs, .int .u64 xt, .bool xo, .slice mkp mks.length mkc, .slice mrp mrs.length mrc, .slice xcp xcs.length xcc] 35 (0, 0)) := (HBC.out.block M (Array.getElem?_eq_some_iff.1 HOBJ.out).1).trans HOBJ.out
    have hMU : M < wc.drew.heap.size := (Array.getElem?_eq_some_iff.1 hoU).1
    have hgM : g < M := by rw [← hM]; exact HR.out.lt
    have hvM : ∀ b, (Value.slice pa ds.length ca).ownBlock = some b → n0 ≤ b ∧ b < M ∧ b ≠ g := fun b hb => by
      have h1 := World.ownsRow.lt (show W.ownsRow n0 KDx.T KDx.k (.slice pa ds.length ca) ds.length (KDx.cells ds) from HR.out.all) b hb
      refine ⟨h1.1, by omega, fun e => ?_⟩
      obtain ⟨cs', q⟩ := own_type (show W.ownsRow n0 35 KDx.k (.slice pa ds.length ca) ds.length (KDx.cells ds) from HR.out.all) hb
      rw [e] at q
      exact typ_ne q HR.out.obj (by decide)
    have HVM := hid hvM
    have hg0 : n0 ≤ g := HR.out.low
    obtain ⟨U, hU⟩ : ∃ U, wc.drew = U := ⟨_, rfl⟩
    rw [hU] at hbU hRU hoU hMU
    have hsU : M ≤ U.heap.size := by rw [← hM]; exact hbU.size
    have HU := hid hbU
    have HRU := hid hRU
    have HOU := hid hoU
    have HRW : Hid (∀ w1, Below U.heap.size U w1 → RowSt KDx n0 W (.slice pa ds.length ca) ds w1 ∧ w1.heap[g]? = some (.cells #[.int .i64 (most : Nat), .slice pa ds.length ca, .slice pg gn.length cg, .int .u64 sum] 44 (0, 0))) := fun w1 hw => by
      have hr := HRU.out.on hw
      exact ⟨⟨hr.all, (bel_then HU.out HU.out.size hw).mono hn0, by have := hw.size; omega⟩, hr.obj⟩
    have HSS : Hid (∀ k fl u e s p a1 a2 w', RaSt n0 W U g (Dx.dn ⟨xs, xt, xo, ⟨mkp, mkc, mks, mrp, mrc, mrs⟩, xcp, xcc, xcs⟩) ds (.slice pa ds.length ca) #[.int .i64 (most : Nat), .slice pa ds.length ca, .slice pg gn.length cg, .int .u64 sum] k fl u e s p a1 a2 w' → w'.heap[M]? = some (.cells #[.int .u64 xs, .int .u64 xt, .bool xo, .slice mkp mks.length mkc, .slice mrp mrs.length mrc, .slice xcp xcs.length xcc] 35 (0, 0))) := fun k fl u e s p a1 a2 w' h => by
      rcases h with ⟨_, rfl, _⟩ | ⟨_, y, w1, _, ⟨_, _, _, hb⟩, hpb, _⟩
      · exact HOU.out
      · have f := pb_fr hpb
        refine (f.block M (by have := hb.size; omega) fun h => ?_).trans ((hb.block M hMU).trans HOU.out)
        rcases h with h | h
        · omega
        · have := HVM.out M h
          omega
    have HD1 := hid (HDN.out U hbU)
    clear hbU hRU hoU hvM HDN HBW HBC HRU
    go_upto_region 3 with fail
    refine wp_region_held_drew (S := fun w' => w'.cell? ⟨M, 0, none⟩ = some (.int .u64 xs) ∧ w'.cell? ⟨M, 1, none⟩ = some (.int .u64 xt) ∧ w'.cell? ⟨M, 2, none⟩ = some (.bool xo) ∧ w'.cell? ⟨M, 3, none⟩ = some (.slice mkp mks.length mkc) ∧ w'.cell? ⟨M, 4, none⟩ = some (.slice mrp mrs.length mrc) ∧ w'.cell? ⟨M, 5, none⟩ = some (.slice xcp xcs.length xcc)) (by kernel_rfl) (by rw [hU]; have := HOU.out; exact ⟨by rw [Lib.cell_of_heap this]; rfl, by rw [Lib.cell_of_heap this]; rfl, by rw [Lib.cell_of_heap this]; rfl, by rw [Lib.cell_of_heap this]; rfl, by rw [Lib.cell_of_heap this]; rfl, by rw [Lib.cell_of_heap this]; rfl⟩) (fun hHeld => ?_)
    refine take_val (i := 0) (.pointer (some ⟨g, 0, none⟩)) rfl (by kernel_rfl) (by kernel_rfl) (by kernel_rfl) (fun _ _ _ h => h) (by rfl) (fun w hSw => by go_simp) hHeld ?_
    simp only [Act.put, List.setIfInBounds_toArray, List.set_cons_zero, List.set_cons_succ]
    refine take_val (i := 1) (.pointer (some ⟨g, 0, none⟩)) rfl (by kernel_rfl) (by kernel_rfl) (by kernel_rfl) (fun _ _ _ h => h) (by rfl) (fun w hSw => by go_simp) hHeld ?_
    simp only [Act.put, List.setIfInBounds_toArray, List.set_cons_zero, List.set_cons_succ]
    refine take_val (i := 2) (.pointer (some ⟨g, 0, none⟩)) rfl (by kernel_rfl) (by kernel_rfl) (by kernel_rfl) (fun _ _ _ h => h) (by rfl) (fun w hSw => by go_simp) hHeld ?_
    simp only [Act.put, List.setIfInBounds_toArray, List.set_cons_zero, List.set_cons_succ]
    refine take_val (i := 3) (.pointer (some ⟨g, 1, none⟩)) rfl (by kernel_rfl) (by kernel_rfl) (by kernel_rfl) (fun _ _ _ h => h) (by rfl) (fun w hSw => by go_simp) hHeld ?_
    simp only [Act.put, List.setIfInBounds_toArray, List.set_cons_zero, List.set_cons_succ]
    refine take_val (i := 5) (.agg #[.int .u64 xs, .int .u64 xt, .bool xo, .slice mkp mks.length mkc, .slice mrp mrs.length mrc, .slice xcp xcs.length xcc]) rfl (by kernel_rfl) (by kernel_rfl) (by kernel_rfl) (fun _ _ _ h => h) (by rfl) (fun w hSw => by go_simp) hHeld ?_
    simp only [Act.put, List.setIfInBounds_toArray, List.set_cons_zero, List.set_cons_succ]
    clear hHeld
    rw [hU]
    refine wpAnyH_floats [6, 7, 8, 9, 10, 11] [4] (fun a0 k fl a w' => ∃ u e s p a1 a2, a = putS a0 [(34, u), (36, e), (37, s), (38, p), (39, a1), (40, a2)] ∧ RaSt n0 W U g (Dx.dn ⟨xs, xt, xo, ⟨mkp, mkc, mks, mrp, mrc, mrs⟩, xcp, xcc, xcs⟩) ds (.slice pa ds.length ca) #[.int .i64 (most : Nat), .slice pa ds.length ca, .slice pg gn.length cg, .int .u64 sum] k fl u e s p a1 a2 w') (by kernel_rfl) (by decide) ⟨_, _, _, _, _, _, (putS_self _ [34, 36, 37, 38, 39, 40]).symm, Or.inl ⟨rfl, rfl, fun h => by cases h⟩⟩ ?hS ?hmain ?halloc ?hend
    case hS =>
      rintro k fl a w' ⟨u, e, s, p, a1, a2, _, h⟩
      have := HSS.out _ _ _ _ _ _ _ _ _ h
      exact ⟨by rw [Lib.cell_of_heap this]; rfl, by rw [Lib.cell_of_heap this]; rfl, by rw [Lib.cell_of_heap this]; rfl, by rw [Lib.cell_of_heap this]; rfl, by rw [Lib.cell_of_heap this]; rfl, by rw [Lib.cell_of_heap this]; rfl⟩
    case hmain =>
      rintro k i' fl a w' hk hfl hrd ⟨u, e, s, p, a1, a2, rfl, hst⟩
      obtain ⟨f1, rfl⟩ : ∃ f1, fl = [f1] := by
        match fl, hfl with
        | [f1], _ => exact ⟨f1, rfl⟩
      rcases k with _ | _ | _ | _ | _ | _ | k
      · obtain rfl : i' = 6 := by simpa using hk.symm
        obtain ⟨_, rfl, h4⟩ : (0 = 0 ∧ w' = U ∧ (([f1] : List Bool)[0]? = some true → u = .slice pa ds.length ca)) := hst.elim id fun h => by have := h.1; omega
        have H4 := hid h4
        clear hst hrd hk hfl h4
        refine ⟨_, at_drop0 rfl, fun K hK => ?_⟩
        simp only [putS, List.foldl_cons, List.foldl_nil, Act.put, List.setIfInBounds_toArray, List.set_cons_zero, List.set_cons_succ]
        rw [if_pos (by rfl)]
        go_simp
        refine HD1.out.mono ?_
        rintro e' w2 ⟨y, rfl, hy, hyd, hyz, hb2⟩
        have HN : Hid (RaSt n0 W w' g (Dx.dn ⟨xs, xt, xo, ⟨mkp, mkc, mks, mrp, mrc, mrs⟩, xcp, xcc, xcs⟩) ds (.slice pa ds.length ca) #[.int .i64 (most : Nat), .slice pa ds.length ca, .slice pg gn.length cg, .int .u64 sum] 1 [f1] u (.agg (encDx y).toArray) s p a1 a2 w2) := by
          refine Or.inr ⟨Nat.le_refl _, y, w2, rfl, ⟨hy, hyd, hyz, hb2⟩, ?_, (fun h => by omega), (fun h => by omega), (fun h => by omega)⟩
          have h0 := pb_start (x := y) (T := 35) (f := 1) u s p (HRW.out w2 hb2).1 (HRW.out w2 hb2).2
          cases f1 with
          | false => exact h0
          | true =>
            obtain rfl := H4.out rfl
            exact (pb_load h0 (by decide)).2
        clear hy hyd hyz hb2
        obtain ⟨ys, yt, yo, ⟨nkp, nkc, nks, nrp, nrc, nrs⟩, ycp, ycc, ycs⟩ := y
        simp only [encDx, Mx.ksl, Mx.rsl, Dx.csl] at HN ⊢
        go_wp2_with fail
        exact hK.out _ _ ⟨u, _, s, p, a1, a2, rfl, HN.out⟩
      · obtain rfl : i' = 7 := by simpa using hk.symm
        obtain ⟨_, y, w1, rfl, hyy, hpb, hfe, ha1, ha2⟩ := hst.resolve_left fun h => by have := h.1; omega
        have HN : Hid (RaSt n0 W U g (Dx.dn ⟨xs, xt, xo, ⟨mkp, mkc, mks, mrp, mrc, mrs⟩, xcp, xcc, xcs⟩) ds (.slice pa ds.length ca) #[.int .i64 (most : Nat), .slice pa ds.length ca, .slice pg gn.length cg, .int .u64 sum] 2 [f1] u (.agg (encDx y).toArray) (.slice (some ⟨w'.heap.size, 0, none⟩) 1 1) p a1 a2 (w'.alloc (.cells (encDx y).toArray 35))) :=
          Or.inr ⟨by omega, y, w1, rfl, hyy, pb_box hpb, (fun h => by omega), (fun h => by omega), (fun h => by omega)⟩
        clear hst hrd hk hfl hyy hpb hfe ha1 ha2
        obtain ⟨ys, yt, yo, ⟨nkp, nkc, nks, nrp, nrc, nrs⟩, ycp, ycc, ycs⟩ := y
        simp only [encDx, Mx.ksl, Mx.rsl, Dx.csl] at HN ⊢
        refine ⟨_, at_drop0 rfl, fun K hK => ?_⟩
        simp only [putS, List.foldl_cons, List.foldl_nil, Act.put, List.setIfInBounds_toArray, List.set_cons_zero, List.set_cons_succ]
        rw [if_pos (by rfl)]
        go_simp
        go_wp2_with fail
        exact hK.out _ _ ⟨u, _, _, p, a1, a2, rfl, HN.out⟩
      · obtain rfl : i' = 8 := by simpa using hk.symm
        cases f1 with
        | false => exact (not_ready hrd (by kernel_rfl)).elim
        | true =>
        obtain ⟨_, y, w1, rfl, hyy, hpb, hfe, ha1, ha2⟩ := hst.resolve_left fun h => by have := h.1; omega
        obtain ⟨Z1, rfl, rfl, hbx, hrow⟩ := pb_row hpb
        refine ⟨_, at_drop0 rfl, fun K hK => ?_⟩
        simp only [putS, List.foldl_cons, List.foldl_nil, Act.put, List.setIfInBounds_toArray, List.set_cons_zero, List.set_cons_succ]
        rw [if_pos (by rfl)]
        refine wp_push KDx rfl _ _ 41 rfl i0 _ 96 Try.underlying41 HI0.out hz0 hz1 hz2 rfl n0 W (.slice pa ds.length ca) ds (by rfl) hrow y Z1 1 1 rfl (by rfl) 35 (0, 0) hbx (by unfold maxLen; omega) (by omega) ?_
        intro gg cc w3 h1 h2 h3
        exact hK.out _ _ ⟨_, _, _, _, a1, a2, rfl, Or.inr ⟨by omega, y, w1, rfl, hyy, pb_push hpb (fun b hb => (HVM.out b hb).2.2) h1 h2 h3, (fun _ => rfl), (fun h => by omega), (fun h => by omega)⟩⟩
      · obtain rfl : i' = 9 := by simpa using hk.symm
        obtain ⟨_, y, w1, rfl, hyy, hpb, hfe, ha1, ha2⟩ := hst.resolve_left fun h => by have := h.1; omega
        have HN : Hid (RaSt n0 W U g (Dx.dn ⟨xs, xt, xo, ⟨mkp, mkc, mks, mrp, mrc, mrs⟩, xcp, xcc, xcs⟩) ds (.slice pa ds.length ca) #[.int .i64 (most : Nat), .slice pa ds.length ca, .slice pg gn.length cg, .int .u64 sum] 4 [f1] u (.agg (encDx y).toArray) s p (.pointer (some ⟨g, 0, none⟩)) a2 w') :=
          Or.inr ⟨by omega, y, w1, rfl, hyy, pb_on hpb, (fun _ => hfe (by omega)), (fun _ => rfl), (fun h => by omega)⟩
        clear hst hrd hk hfl hyy hpb hfe ha1 ha2
        refine ⟨_, at_drop0 rfl, fun K hK => ?_⟩
        simp only [putS, List.foldl_cons, List.foldl_nil, Act.put, List.setIfInBounds_toArray, List.set_cons_zero, List.set_cons_succ]
        rw [if_pos (by rfl)]
        go_simp
        go_wp2_with fail
        exact hK.out _ _ ⟨u, _, s, p, _, a2, rfl, HN.out⟩
      · obtain rfl : i' = 10 := by simpa using hk.symm
        obtain ⟨_, y, w1, rfl, hyy, hpb, hfe, ha1, ha2⟩ := hst.resolve_left fun h => by have := h.1; omega
        obtain rfl := ha1 (by omega)
        have HN : Hid (RaSt n0 W U g (Dx.dn ⟨xs, xt, xo, ⟨mkp, mkc, mks, mrp, mrc, mrs⟩, xcp, xcc, xcs⟩) ds (.slice pa ds.length ca) #[.int .i64 (most : Nat), .slice pa ds.length ca, .slice pg gn.length cg, .int .u64 sum] 5 [f1] u (.agg (encDx y).toArray) s p (.pointer (some ⟨g, 0, none⟩)) (.pointer (some ⟨g, 1, none⟩)) w') :=
          Or.inr ⟨by omega, y, w1, rfl, hyy, hpb, (fun _ => hfe (by omega)), (fun _ => rfl), (fun _ => rfl)⟩
        clear hst hrd hk hfl hyy hpb hfe ha1 ha2
        refine ⟨_, at_drop0 rfl, fun K hK => ?_⟩
        simp only [putS, List.foldl_cons, List.foldl_nil, Act.put, List.setIfInBounds_toArray, List.set_cons_zero, List.set_cons_succ]
        rw [if_pos (by rfl)]
        go_simp
        go_wp2_with fail
        exact hK.out _ _ ⟨u, _, s, p, _, _, rfl, HN.out⟩
      · obtain rfl : i' = 11 := by simpa using hk.symm
        obtain ⟨_, y, w1, rfl, hyy, hpb, hfe, ha1, ha2⟩ := hst.resolve_left fun h => by have := h.1; omega
        obtain rfl := ha1 (by omega)
        obtain rfl := ha2 (by omega)
        have hgl : g < w1.heap.size := by have := hyy.2.2.2.size; omega
        obtain ⟨hb2, hst2⟩ := pb_store hpb hg0 (pb_off hpb (by decide) (fun b hb => (HVM.out b hb).2.2) hgl)
        obtain ⟨pp, cc, rfl⟩ := pb_shape hpb (by decide)
        have HN : Hid (RaSt n0 W U g (Dx.dn ⟨xs, xt, xo, ⟨mkp, mkc, mks, mrp, mrc, mrs⟩, xcp, xcc, xcs⟩) ds (.slice pa ds.length ca) #[.int .i64 (most : Nat), .slice pa ds.length ca, .slice pg gn.length cg, .int .u64 sum] 6 [f1] u (.agg (encDx y).toArray) s (.slice pp (ds.length + 1) cc) (.pointer (some ⟨g, 0, none⟩)) (.pointer (some ⟨g, 1, none⟩)) (w'.setCell ⟨g, 1, none⟩ (.slice pp (ds.length + 1) cc))) :=
          Or.inr ⟨by omega, y, w1, rfl, hyy, hst2, (fun _ => hfe (by omega)), (fun _ => rfl), (fun _ => rfl)⟩
        have c0 : w'.cell? ⟨g, 1, none⟩ = some (.slice pa ds.length ca) := by rw [Lib.cell_of_heap hb2]; rfl
        have z0 : w'.frozen? ⟨g, 1, none⟩ = false := Lib.frozen_of_heap hb2 1
        clear hst hrd hk hfl hyy hpb hfe ha1 ha2 hb2 hst2
        refine ⟨_, at_drop0 rfl, fun K hK => ?_⟩
        simp only [putS, List.foldl_cons, List.foldl_nil, Act.put, List.setIfInBounds_toArray, List.set_cons_zero, List.set_cons_succ]
        rw [if_pos (by rfl)]
        go_simp
        go_wp2_with fail
        exact hK.out _ _ ⟨u, _, s, _, _, _, rfl, HN.out⟩
      · simp at hk
    case halloc =>
      rintro j i' k fl a w' hj hk hfl hf ⟨u, e, s, p, a1, a2, rfl, hst⟩
      obtain ⟨f1, rfl⟩ : ∃ f1, fl = [f1] := by
        match fl, hfl with
        | [f1], _ => exact ⟨f1, rfl⟩
      rcases j with _ | j
      · obtain rfl : i' = 4 := by simpa using hj.symm
        obtain rfl : f1 = false := by simpa using hf
        have hN : w'.cell? ⟨g, 1, none⟩ = some (.slice pa ds.length ca) ∧ RaSt n0 W U g (Dx.dn ⟨xs, xt, xo, ⟨mkp, mkc, mks, mrp, mrc, mrs⟩, xcp, xcc, xcs⟩) ds (.slice pa ds.length ca) #[.int .i64 (most : Nat), .slice pa ds.length ca, .slice pg gn.length cg, .int .u64 sum] k [true] (.slice pa ds.length ca) e s p a1 a2 w' := by
          rcases hst with ⟨h1, h2, _⟩ | ⟨h1, y, w1, h2, hyy, hpb, hfe, ha1, ha2⟩
          · refine ⟨?_, Or.inl ⟨h1, h2, fun _ => rfl⟩⟩
            rw [h2, Lib.cell_of_heap (HRW.out U (Below.refl _ _)).2]; rfl
          · have hk3 : ¬ 3 ≤ k := fun h => by have := hfe h; cases this
            have hkq : kq13 k ≤ 2 := by
              have : k = 1 ∨ k = 2 := by omega
              rcases this with rfl | rfl <;> decide
            obtain ⟨q1, q2⟩ := pb_load hpb hkq
            exact ⟨by rw [Lib.cell_of_heap q1]; rfl, Or.inr ⟨h1, y, w1, h2, hyy, q2, (fun h => absurd h hk3), ha1, ha2⟩⟩
        have c0 := hN.1
        have HN := hid hN.2
        clear hst hf hj hk hfl hN
        refine ⟨_, at_drop0 rfl, fun K hK => ?_⟩
        simp only [putS, List.foldl_cons, List.foldl_nil, Act.put, List.setIfInBounds_toArray, List.set_cons_zero, List.set_cons_succ]
        rw [if_pos (by rfl)]
        go_simp
        go_wp2_with fail
        exact hK.out _ _ ⟨_, e, s, p, a1, a2, rfl, HN.out⟩
      · simp at hj
    case hend =>
      rintro a w3 ⟨u, e, s, p, a1, a2, rfl, hst⟩
      obtain ⟨_, y, w1, rfl, hyy, hpb, _, _, _⟩ := hst.resolve_left fun h => by have := h.1; simp at this
      obtain ⟨pp, cc, rfl⟩ := pb_shape hpb (by decide)
      obtain ⟨q1, q2, q3, q4⟩ := pb_end hpb
      have hf1 : Fr (fun b => b = g ∨ (Value.slice pa ds.length ca).ownBlock = some b) W w3 := ((Fr.of_below HU.out).then (Fr.of_below (P := fun _ => False) hyy.2.2.2) fun _ h => h.elim).then q3 fun k hk => Or.inl hk
      have hbs : W.heap.size ≤ U.heap.size := HU.out.size
      obtain ⟨hg3, he3⟩ := HR.out.mid hf1
      have hy3 : DOwn n0 w3 y := (hyy.1.frB q3 fun k hk e => by
        have h1 := (hyy.1.blk k hk).1
        rcases e with e | e
        · omega
        · have := HVM.out k e
          omega).weak (by omega)
      have he4 : ∀ d ∈ ds ++ [y], DOwn n0 w3 d ∧ SzD d.m d.cs ∧ (0 ≤ d.snap ∧ d.snap ≤ 18446744073709551615) ∧ 0 ≤ d.stamp ∧ d.stamp ≤ 18446744073709551615 := fun d hd => by
        rcases List.mem_append.1 hd with h | h
        · exact he3 d h
        · rw [List.mem_singleton.1 h]
          have e1 : y.snap = xs := congrArg Dn.snap hyy.2.1
          have e2 : y.stamp = xt := congrArg Dn.stamp hyy.2.1
          exact ⟨hy3, hyy.2.2.1, by rw [e1]; exact hsn, by rw [e2]; exact hst0⟩
      have hobj3 : w3.heap[g]? = some (.cells #[.int .i64 (most : Nat), .slice pp (ds.length + 1) cc, .slice pg gn.length cg, .int .u64 sum] 44 (0, 0)) := q2
      have hall3 : KDx.Own n0 w3 (.slice pp (ds.length + 1) cc) (ds ++ [y]) := q1.own
      have HG3 : Hid (RowSt KB13 n0 W (.slice pg gn.length cg) gn w3) := ⟨hg3, q1.bel, q1.base⟩
      have c2 : w3.cell? ⟨g, 2, none⟩ = some (.slice pg gn.length cg) := by rw [Lib.cell_of_heap hobj3]; rfl
      have hgl3 : g < w3.heap.size := (Array.getElem?_eq_some_iff.1 hobj3).1
      have HM9 : Hid (∀ (w8 : World) (g8 c8 : Nat), KB13.Own n0 w8 (.slice (some ⟨g8, 0, none⟩) (gn.length + 1) c8) (gn ++ [false]) → (w3.alloc (.cells #[.bool false] 4)).grownBy w8 (Value.slice pg gn.length cg).ownBlock → ((Value.slice pg gn.length cg).ownBlock = some g8 ∨ g8 = (w3.alloc (.cells #[.bool false] 4)).heap.size) →
          (w8.cell? ⟨g, 2, none⟩ = some (.slice pg gn.length cg) ∧ w8.frozen? ⟨g, 2, none⟩ = false) ∧ RefT n0 (w8.setCell ⟨g, 2, none⟩ (.slice (some ⟨g8, 0, none⟩) (gn.length + 1) c8)) g most (ds ++ [y]) (gn ++ [false]) sum (.slice pp (ds.length + 1) cc) (.slice (some ⟨g8, 0, none⟩) (gn.length + 1) c8) ∧ Fr (fun b => b = g ∨ (Value.slice pg gn.length cg).ownBlock = some b) w3 (w8.setCell ⟨g, 2, none⟩ (.slice (some ⟨g8, 0, none⟩) (gn.length + 1) c8))) := fun w8 g8 c8 ho hg hn => by
        have hal : Below w3.heap.size w3 (w3.alloc (.cells #[.bool false] 4)) := (Below.refl _ _).alloc (Nat.le_refl _) _
        have hoff : ¬ (Value.slice pg gn.length cg).ownBlock = some g := fun e => by
          obtain ⟨cs, q⟩ := own_type (show w3.ownsRow n0 4 KB13.k (.slice pg gn.length cg) gn.length (KB13.cells gn) from hg3) e
          exact typ_ne q hobj3 (by decide)
        have f8 : Fr (fun b => (Value.slice pg gn.length cg).ownBlock = some b) w3 w8 := (Fr.of_below hal).then (Fr.of_grown hg fun k hk => hk) fun k hk => Or.inl hk
        have ob8 := (f8.block g hgl3 hoff).trans hobj3
        have f9 : Fr (fun b => b = g ∨ (Value.slice pg gn.length cg).ownBlock = some b) w3 (w8.setCell ⟨g, 2, none⟩ (.slice (some ⟨g8, 0, none⟩) (gn.length + 1) c8)) := (f8.mono fun k hk => Or.inr hk).then (fr_set w8 g 2 _) fun k hk => Or.inl (Or.inl hk)
        refine ⟨⟨by rw [Lib.cell_of_heap ob8]; rfl, Lib.frozen_of_heap ob8 2⟩, ref_more hobj3 hg0 hall3 hg3 he4 f9 (heap_setCell_same _ g 2 _ _ _ ob8) ((fr_set w8 g 2 _).row (show w8.ownsRow n0 KB13.T KB13.k _ (gn ++ [false]).length (KB13.cells (gn ++ [false])) from ho) fun k hk e => ?_) (by rw [List.length_append, List.length_append, HR.out.len]; rfl), f9⟩
        subst e
        obtain ⟨cs, q⟩ := own_type (show w8.ownsRow n0 4 KB13.k _ (gn ++ [false]).length (KB13.cells (gn ++ [false])) from ho) hk
        exact typ_ne q ob8 (by decide)
      have HGNL : Hid (gn.length = ds.length) := HR.out.len
      have hgb : gn.length ≤ 1400000000000 := by rw [HGNL.out]; exact hl
      have HYD : Hid (y.dn = Dx.dn ⟨xs, xt, xo, ⟨mkp, mkc, mks, mrp, mrc, mrs⟩, xcp, xcc, xcs⟩) := hyy.2.1
      have HF1 : Hid (Fr (BlkT g ds (.slice pa ds.length ca) (.slice pg gn.length cg)) W w3) := hf1.mono fun k hk => hk.elim Or.inl fun h => Or.inr (Or.inl h)
      have HQ4 : Hid (∀ k, (Value.slice pp (ds.length + 1) cc).ownBlock = some k → (Value.slice pa ds.length ca).ownBlock = some k ∨ W.heap.size ≤ k) := fun k hk => (q4 k hk).imp id fun h => by have := hyy.2.2.2.size; omega
      have HYB : Hid (∀ k, BlkD13 y k → W.heap.size ≤ k) := fun k hk => Nat.le_trans hbs (hyy.1.blk k hk).1
      have hs3 : W.heap.size ≤ w3.heap.size := hf1.size
      clear hst hpb q1 q2 q3 q4 hf1 hg3 he3 hy3 he4 hobj3 hall3 hgl3 hyy HSS HRW HD1 HOU HOBJ HVM HU HB
      simp only [putS, List.foldl_cons, List.foldl_nil, Act.put, List.setIfInBounds_toArray, List.set_cons_zero, List.set_cons_succ]
      go_upto_region 5 with (at_builtin; refine wpList_push KB13 rfl _ _ 42 rfl i1 _ 1 Try.underlying42 HI1.out hy0 hy1 hy2 rfl n0 W (.slice pg gn.length cg) gn (by rfl) (HG3.out.on ((Below.refl _ _).alloc (Nat.le_refl _) _)) false _ _ _ rfl rfl _ _ (heap_alloc_new _ _) (by unfold maxLen; omega) (by omega) ?_; intro g8 c8 w8 hst8 hg8 hn8; obtain ⟨⟨d2, dz⟩, hR9, hF9⟩ := HM9.out w8 g8 c8 hst8.own hg8 hn8; have HR9 := hid hR9; have HF9 := hid hF9; have HN8 := hid hn8; clear hst8 hg8 hn8 hR9 hF9)
      obtain ⟨w9, hw9⟩ : ∃ w9, w8.setCell ⟨g, 2, none⟩ (.slice (some ⟨g8, 0, none⟩) (gn.length + 1) c8) = w9 := ⟨_, rfl⟩
      rw [hw9] at HR9 HF9 ⊢
      clear hw9 d2 dz c2 HM9 HG3
      obtain ⟨D, hD⟩ : ∃ D, ds ++ [y] = D := ⟨_, rfl⟩
      obtain ⟨GN, hGN⟩ : ∃ GN, gn ++ [false] = GN := ⟨_, rfl⟩
      have HDL2 : Hid (D.length = ds.length + 1) := by show _ = _; rw [← hD]; simp
      have HGL2 : Hid (GN.length = gn.length + 1) := by show _ = _; rw [← hGN]; simp
      rw [hD, hGN] at HR9
      have HD0 := hid hD
      have HGN := hid hGN
      clear hD hGN
      obtain ⟨K, hK⟩ : ∃ K, (keptG (ds.map Dx.dn) gn).length = K := ⟨_, rfl⟩
      have HDM : Hid (D.map Dx.dn = ds.map Dx.dn ++ [Dx.dn ⟨xs, xt, xo, ⟨mkp, mkc, mks, mrp, mrc, mrs⟩, xcp, xcc, xcs⟩]) := by
        show _ = _
        rw [← HD0.out, List.map_append, List.map_cons, List.map_nil, HYD.out]
      have hKl : (keptG (D.map Dx.dn) GN).length = K + 1 := by
        rw [HDM.out, ← HGN.out, keptG_snoc _ _ _ _ (by rw [List.length_map]; exact HGNL.out), List.length_append, hK]
        rfl
      have hKd : K ≤ ds.length := by rw [← hK]; have := keptG_le (ds.map Dx.dn) gn; rw [List.length_map] at this; exact this
      have HLE := hid (rlen13_any (HR9.out.on (Below.refl _ w9).drew) (by rw [HDL2.out]; omega))
      rw [hKl] at HLE
      have z0 : w9.drew.cell? ⟨g, 0, none⟩ = some (.int .i64 (most : Nat)) := by rw [Lib.cell_of_heap (HR9.out.on (Below.refl _ w9).drew).obj]; rfl
      have HZ0 : Hid (∀ w, Below w9.drew.heap.size w9.drew w → w.cell? ⟨g, 0, none⟩ = some (.int .i64 (most : Nat))) := fun w hw => by rw [Lib.cell_of_heap ((HR9.out.on (Below.refl _ w9).drew).on hw).obj]; rfl
      have HFIN : Hid (∀ (w' : World) (GN' : List Bool) (sum' : Int), RefT n0 w' g most D GN' sum' (.slice pp (ds.length + 1) cc) (.slice (some ⟨g8, 0, none⟩) (gn.length + 1) c8) → tkG most (D.map Dx.dn) GN' sum' = keepT (tkG most (ds.map Dx.dn) gn sum) (Dx.dn ⟨xs, xt, xo, ⟨mkp, mkc, mks, mrp, mrc, mrs⟩, xcp, xcc, xcs⟩) → Fr (fun b => b = g ∨ b = g8) w9 w' → RAddPost n0 W g most ds gn sum (.slice pa ds.length ca) (.slice pg gn.length cg) (Dx.dn ⟨xs, xt, xo, ⟨mkp, mkc, mks, mrp, mrc, mrs⟩, xcp, xcc, xcs⟩) (.returned (.int .i64 0)) w') := fun w' GN' sum' h1 h2 h3 => by
        have e : addT (tkG most (ds.map Dx.dn) gn sum) (Dx.dn ⟨xs, xt, xo, ⟨mkp, mkc, mks, mrp, mrc, mrs⟩, xcp, xcc, xcs⟩) = (0, keepT (tkG most (ds.map Dx.dn) gn sum) (Dx.dn ⟨xs, xt, xo, ⟨mkp, mkc, mks, mrp, mrc, mrs⟩, xcp, xcc, xcs⟩)) := by
          unfold addT
          rw [HOL.out]
          rfl
        have h8 : (Value.slice pg gn.length cg).ownBlock = some g8 ∨ W.heap.size ≤ g8 := HN8.out.imp id fun h => by rw [h]; simp; omega
        unfold RAddPost
        rw [e]
        refine ⟨rfl, D, GN', sum', _, _, h1, h2, by rw [HDL2.out]; exact Nat.le_refl _, ?_, fun k hk => ?_⟩
        · refine (HF1.out.then HF9.out fun k hk => Or.inl ?_).then h3 fun k hk => ?_
          · exact hk.elim Or.inl fun h => Or.inr (Or.inr (Or.inl h))
          · rcases hk with rfl | rfl
            · exact Or.inl (Or.inl rfl)
            · exact h8.imp (fun h => Or.inr (Or.inr (Or.inl h))) id
        · rcases hk with rfl | hk | hk | ⟨d, hd, hk⟩
          · exact Or.inl (Or.inl rfl)
          · exact (HQ4.out k hk).imp (fun h => Or.inr (Or.inl h)) id
          · have : k = g8 := by
              unfold Value.ownBlock at hk
              simp at hk
              omega
            subst this
            exact h8.imp (fun h => Or.inr (Or.inr (Or.inl h))) id
          · rw [← HD0.out] at hd
            rcases List.mem_append.1 hd with h | h
            · exact Or.inl (Or.inr (Or.inr (Or.inr ⟨d, h, hk⟩)))
            · rw [List.mem_singleton.1 h] at hk
              exact Or.inr (HYB.out k hk)
      have HKK := hid hK
      clear hK hKl
      refine wp_region_held_drew (S := fun w' => w'.cell? ⟨g, 0, none⟩ = some (.int .i64 (most : Nat))) (by kernel_rfl) z0 (fun hHeld => ?_)
      refine take_val (i := 0) (.pointer (some ⟨g, 0, none⟩)) rfl (by kernel_rfl) (by kernel_rfl) (by kernel_rfl) (fun _ _ _ h => h) (by rfl) (fun w hSw => by go_simp) hHeld ?_
      simp only [Act.put, List.setIfInBounds_toArray, List.set_cons_zero, List.set_cons_succ]
      refine take_val (i := 2) (.pointer (some ⟨g, 0, none⟩)) rfl (by kernel_rfl) (by kernel_rfl) (by kernel_rfl) (fun _ _ _ h => h) (by rfl) (fun w hSw => by go_simp) hHeld ?_
      simp only [Act.put, List.setIfInBounds_toArray, List.set_cons_zero, List.set_cons_succ]
      refine take_val (i := 3) (.pointer (some ⟨g, 0, none⟩)) rfl (by kernel_rfl) (by kernel_rfl) (by kernel_rfl) (fun _ _ _ h => h) (by rfl) (fun w hSw => by go_simp) hHeld ?_
      simp only [Act.put, List.setIfInBounds_toArray, List.set_cons_zero, List.set_cons_succ]
      refine take_val (i := 4) (.pointer (some ⟨g, 0, none⟩)) rfl (by kernel_rfl) (by kernel_rfl) (by kernel_rfl) (fun _ _ _ h => h) (by rfl) (fun w hSw => by go_simp) hHeld ?_
      simp only [Act.put, List.setIfInBounds_toArray, List.set_cons_zero, List.set_cons_succ]
      refine take_val (i := 5) (.int .i64 (most : Nat)) rfl (by kernel_rfl) (by kernel_rfl) (by kernel_rfl) (fun _ _ _ h => h) (by rfl) (fun w hSw => by go_simp) hHeld ?_
      simp only [Act.put, List.setIfInBounds_toArray, List.set_cons_zero, List.set_cons_succ]
      clear hHeld
      refine wpAnyH_ready (rs := [1]) (by kernel_rfl) (by simp) ?_
      refine AllReadyH.cons (at_drop0 rfl) (fun K hK => ?_) AllReadyH.nil
      rw [if_pos (by rfl)]
      go_simp
      refine HLE.out.mono ?_
      rintro e w10 ⟨rfl, hb10⟩
      have z2 := HZ0.out w10 hb10
      have hb9 : Below w9.heap.size w9 w10 := (Below.refl _ w9).drew.trans hb10
      have HR10 := hid (HR9.out.on hb9)
      have HF10 : Hid (Fr (fun b => b = g ∨ b = g8) w9 w10) := Fr.of_below hb9
      clear hb10 hb9 HLE HZ0
      go_wp2_with fail
      refine hK.out _ _ z2 (fun hHeld => ?_)
      clear hK K
      try simp only [Act.put, List.setIfInBounds_toArray, List.set_cons_zero, List.set_cons_succ]
      by_cases hfull : K < most
      · have hmz : ¬ (most : Int) < ((K : Int) + 1) := by omega
        refine take_val (i := 6) (.bool false) rfl (by kernel_rfl) (by kernel_rfl) (by kernel_rfl) (fun _ _ _ h => h) (by rfl) (fun w hSw => by go_simp) hHeld ?_
        simp only [Act.put, List.setIfInBounds_toArray, List.set_cons_zero, List.set_cons_succ]
        refine wpAnyH_done (by kernel_rfl) ?_ _
        clear hHeld z0 z2
        have HP : Hid (∀ w', Below w10.heap.size w10 w' → RAddPost n0 W g most ds gn sum (.slice pa ds.length ca) (.slice pg gn.length cg) (Dx.dn ⟨xs, xt, xo, ⟨mkp, mkc, mks, mrp, mrc, mrs⟩, xcp, xcc, xcs⟩) (.returned (.int .i64 0)) w') := fun w' hw => HFIN.out w' GN sum (HR10.out.on hw) (by
          rw [HDM.out, ← HGN.out]
          exact tkG_add (by rw [List.length_map]; exact HGNL.out) (by rw [HKK.out]; exact hfull)) (HF10.out.then (Fr.of_below (P := fun _ => False) hw) fun _ h => h.elim)
        go_wp2_with fail
        go_ret
        exact HP.out _ (Below.refl _ _)
      · have hmz : (most : Int) < ((K : Int) + 1) := by omega
        refine take_val (i := 6) (.bool true) rfl (by kernel_rfl) (by kernel_rfl) (by kernel_rfl) (fun _ _ _ h => h) (by rfl) (fun w hSw => by go_simp) hHeld ?_
        simp only [Act.put, List.setIfInBounds_toArray, List.set_cons_zero, List.set_cons_succ]
        refine wpAnyH_done (by kernel_rfl) ?_ _
        clear hHeld z0 z2
        have hRz := HR10.out
        have z0 : w10.cell? ⟨g, 2, none⟩ = some (.slice (some ⟨g8, 0, none⟩) (gn.length + 1) c8) := by rw [Lib.cell_of_heap hRz.obj]; rfl
        clear hRz
        go_wp2_with fail
        clear z0
        go_loopg [5] gn.length (fun gg vi wr => ∃ i : Nat, vi = .int .i64 i ∧ i ≤ gn.length ∧ gn.length - i ≤ gg ∧ Hid (Below w10.heap.size w10 wr ∧ ∀ j, j < i → GN[j]? = some true))
        case atStart => exact ⟨0, rfl, by omega, by omega, Below.refl _ _, fun j h => by omega⟩
        case round =>
          obtain ⟨i, rfl, hi, hgk, HS⟩ := hrel
          have hR := HR10.out.on HS.out.1
          have z0 : wr.cell? ⟨g, 2, none⟩ = some (.slice (some ⟨g8, 0, none⟩) (gn.length + 1) c8) := by rw [Lib.cell_of_heap hR.obj]; rfl
          have hiG : i < GN.length := by rw [HGL2.out]; omega
          have hiD : i < D.length := by rw [HDL2.out, ← HGNL.out]; omega
          have i1' : (0 : Int) ≤ (i : Int) := by omega
          have i2' : (i : Int) < (gn.length : Int) + 1 := by omega
          have z1 := kb13_at (Kind.own_at hR.gone) i hiG
          rw [Nat.zero_add] at z1
          cases hb : GN[i] with
          | true =>
            rw [hb] at z1
            have hin : i < gn.length := by
              rcases Nat.lt_or_ge i gn.length with h | h
              · exact h
              · exfalso
                have e : GN[i]? = some false := by
                  rw [← HGN.out, List.getElem?_append_right h, show i - gn.length = 0 by omega]
                  rfl
                rw [List.getElem?_eq_getElem hiG, hb] at e
                cases e
            have HJ : Hid (∀ j, j < i + 1 → GN[j]? = some true) := fun j hj => by
              by_cases e : j = i
              · rw [e, List.getElem?_eq_getElem hiG, hb]
              · exact HS.out.2 j (by omega)
            clear hb hR
            go_wp2_with fail
            go_roundg (gn.length - (i + 1))
            case measure => omega
            exact ⟨i + 1, by go_num, by omega, by omega, HS.out.1, HJ.out⟩
          | false =>
            rw [hb] at z1
            obtain ⟨g', he, _, _, _, ff⟩ := Kind.own_form hR.gone (by omega)
            injection he with he
            injection he with he _ _
            subst he
            have zf := ff i
            have hput := hR.put HGL2.out hiG
            have HT : Hid (∀ sum', sum' = max sum (D[i]).stamp → tkG most (D.map Dx.dn) (GN.set i true) sum' = keepT (tkG most (ds.map Dx.dn) gn sum) (Dx.dn ⟨xs, xt, xo, ⟨mkp, mkc, mks, mrp, mrc, mrs⟩, xcp, xcc, xcs⟩)) := fun sum' hs' => by
              have hl2 : i < (ds.map Dx.dn ++ [(Dx.dn ⟨xs, xt, xo, ⟨mkp, mkc, mks, mrp, mrc, mrs⟩, xcp, xcc, xcs⟩)]).length := by rw [← HDM.out, List.length_map]; exact hiD
              have h1 := tkG_full (most := most) (sum := sum) (show gn.length = (ds.map Dx.dn).length by rw [List.length_map]; exact HGNL.out) (by rw [HKK.out]; exact hfull) hl2 (by rw [HGN.out, List.getElem?_eq_getElem hiG, hb]) (fun j hj => by rw [HGN.out]; exact HS.out.2 j hj)
              have h2 : ((ds.map Dx.dn ++ [(Dx.dn ⟨xs, xt, xo, ⟨mkp, mkc, mks, mrp, mrc, mrs⟩, xcp, xcc, xcs⟩)])[i]).stamp = (D[i]).stamp := by
                simp only [← HDM.out, List.getElem_map]
                rfl
              rw [h2, HGN.out] at h1
              rw [HDM.out, hs']
              exact h1
            obtain ⟨w11, hw11⟩ : ∃ w11, wr.setCell ⟨g8, i, none⟩ (.bool true) = w11 := ⟨_, rfl⟩
            rw [hw11] at hput
            have HF11 : Hid (Fr (fun b => b = g ∨ b = g8) w9 w11) := by
              rw [← hw11]
              exact (HF10.out.then (Fr.of_below (P := fun _ => False) HS.out.1) fun _ h => h.elim).then (fr_set wr g8 i _) fun k hk => Or.inl (Or.inr hk)
            have y1 : w11.cell? ⟨g, 1, none⟩ = some (.slice pp (ds.length + 1) cc) := by rw [Lib.cell_of_heap hput.obj]; rfl
            have y3 : w11.cell? ⟨g, 3, none⟩ = some (.int .u64 sum) := by rw [Lib.cell_of_heap hput.obj]; rfl
            have yf : w11.frozen? ⟨g, 3, none⟩ = false := Lib.frozen_of_heap hput.obj 3
            obtain ⟨g1, rfl, _, _, k1, _⟩ := Kind.own_form hput.all (by omega)
            have c1 := (kdx_at k1 i hiD).2.1
            rw [Nat.zero_add] at c1
            have i3' : (i : Int) < (ds.length : Int) + 1 := by have := HDL2.out; omega
            have HPUT := hid hput
            generalize hst9 : (D[i]).stamp = S9 at *
            clear hb hR k1 hput ff hst9
            go_upto_region 10 with fail
            try rw [hw11]
            clear z0 z1 zf hw11
            by_cases hsm : sum < S9
            · have HE : Hid (∀ n, RAddPost n0 W g most ds gn sum (.slice pa ds.length ca) (.slice pg gn.length cg) (Dx.dn ⟨xs, xt, xo, ⟨mkp, mkc, mks, mrp, mrc, mrs⟩, xcp, xcc, xcs⟩) (.returned (.int .i64 0)) ((w11.drewN n).setCell ⟨g, 3, none⟩ (.int .u64 S9))) := fun n =>
                HFIN.out _ (GN.set i true) S9 ((HPUT.out.on (bel_drewN (Below.refl _ _) n)).sums) (HT.out S9 (by omega)) ((HF11.out.then (Fr.of_below (P := fun _ => False) (bel_drewN (Below.refl _ w11) n)) fun _ h => h.elim).then (fr_set _ g 3 _) fun k hk => Or.inl (Or.inl hk))
              go_quiet (fail)
              go_wp2_with fail
              go_ret
              exact HE.out _
            · have HE : Hid (∀ n, RAddPost n0 W g most ds gn sum (.slice pa ds.length ca) (.slice pg gn.length cg) (Dx.dn ⟨xs, xt, xo, ⟨mkp, mkc, mks, mrp, mrc, mrs⟩, xcp, xcc, xcs⟩) (.returned (.int .i64 0)) (w11.drewN n)) := fun n =>
                HFIN.out _ (GN.set i true) sum (HPUT.out.on (bel_drewN (Below.refl _ _) n)) (HT.out sum (by omega)) (HF11.out.then (Fr.of_below (P := fun _ => False) (bel_drewN (Below.refl _ w11) n)) fun _ h => h.elim)
              go_quiet (fail)
              go_wp2_with fail
              go_ret
              exact HE.out _

end Go.Proofs.Ytmihddbnddgfhaa

/-
  The program's tracker and the document's, side by side (stage 13).
-/
namespace Go.Proofs.Ytmihddbnddgfhaa
open Go.RowKit

/-- Both trackers, from V on: only C's blocks and new ones have turned; at most n were ever added. -/
def TwoT (S : TrackApi) (n0 : Nat) (V : World) (C : Nat → Prop) (g h : Nat) (t t' : Tk) (n : Nat) (W : World) : Prop :=
  ∃ B most ds gn sum va vg, S.Prg n0 W B g t ∧ RefT n0 W h most ds gn sum va vg ∧ tkG most (ds.map Dx.dn) gn sum = t' ∧ ds.length ≤ n ∧ (∀ k, B k → ¬ BlkT h ds va vg k) ∧ Fr C V W ∧ ∀ k, (B k ∨ BlkT h ds va vg k) → C k ∨ V.heap.size ≤ k

section
variable {S : TrackApi} {n0 : Nat} {V : World} {C : Nat → Prop} {g h : Nat} {t t' : Tk} {n : Nat} {W : World}

theorem TwoT.on {W' : World} (x : TwoT S n0 V C g h t t' n W) (hb : Below W.heap.size W W') : TwoT S n0 V C g h t t' n W' := by
  obtain ⟨B, most, ds, gn, sum, va, vg, h1, h2, h3, h4, h5, h6, h7⟩ := x
  exact ⟨B, most, ds, gn, sum, va, vg, TrackApi.on h1 hb, h2.on hb, h3, h4, h5, Fr.then h6 (Fr.of_below (P := fun _ => False) hb) fun _ h => h.elim, h7⟩
theorem TwoT.size (x : TwoT S n0 V C g h t t' n W) : V.heap.size ≤ W.heap.size := by
  obtain ⟨B, most, ds, gn, sum, va, vg, h1, h2, h3, h4, h5, h6, h7⟩ := x
  exact h6.size
theorem TwoT.below (x : TwoT S n0 V C g h t t' n W) {N : Nat} (hN : N ≤ V.heap.size) (hC : ∀ k, C k → N ≤ k) : Below N V W := by
  obtain ⟨B, most, ds, gn, sum, va, vg, h1, h2, h3, h4, h5, h6, h7⟩ := x
  exact h6.below hN hC
theorem TwoT.base (x : TwoT S n0 V C g h t t' n W) : n0 ≤ W.heap.size := by
  obtain ⟨B, most, ds, gn, sum, va, vg, h1, h2, h3, h4, h5, h6, h7⟩ := x
  have := h2.low
  have := h2.lt
  omega
theorem TwoT.mono {m : Nat} (x : TwoT S n0 V C g h t t' n W) (hm : n ≤ m) : TwoT S n0 V C g h t t' m W := by
  obtain ⟨B, most, ds, gn, sum, va, vg, h1, h2, h3, h4, h5, h6, h7⟩ := x
  exact ⟨B, most, ds, gn, sum, va, vg, h1, h2, h3, by omega, h5, h6, h7⟩
/-- The document's summary, read. -/
theorem TwoT.rsum (x : TwoT S n0 V C g h t t' n W) : W.cell? ⟨h, 3, none⟩ = some (.int .u64 t'.sum) := by
  obtain ⟨B, most, ds, gn, sum, va, vg, h1, h2, rfl, h4, h5, h6, h7⟩ := x
  rw [Lib.cell_of_heap h2.obj]
  rfl

theorem TwoT.turn_p {B : Nat → Prop} {most : Nat} {ds : List Dx} {gn : List Bool} {sum : Int} {va vg : Value} {t1 : Tk} {w' : World} (hr : RefT n0 W h most ds gn sum va vg) (hL : tkG most (ds.map Dx.dn) gn sum = t') (hn : ds.length ≤ n) (hd : ∀ k, B k → ¬ BlkT h ds va vg k) (f : Fr C V W) (hB : ∀ k, (B k ∨ BlkT h ds va vg k) → C k ∨ V.heap.size ≤ k)
    (ht : YTurn S.Prg n0 W B g t1 w') : TwoT S n0 V C g h t1 t' n w' := by
  obtain ⟨B', h1, h2, h3⟩ := ht
  refine ⟨B', most, ds, gn, sum, va, vg, h1, hr.fr h2 fun k hk hb => hd k hb hk, hL, hn, fun k hk hb => ?_, f.then h2 fun k hk => hB k (Or.inl hk), fun k hk => ?_⟩
  · rcases h3 k hk with h4 | h4
    · exact hd k h4 hb
    · have := (hr.blk k hb).2
      omega
  · rcases hk with hk | hk
    · exact (h3 k hk).elim (fun h => hB k (Or.inl h)) fun h => Or.inr (Nat.le_trans f.size h)
    · exact hB k (Or.inr hk)

section
variable (x : TwoT S n0 V C g h t t' n W)
include x
theorem tt_check (s : Int) (m : Mx) (v : Value) (cs : List Cx) (h0 : 0 ≤ s) (hs : s ≤ 18446744073709551615) (hm : MIn W m) (hc : ChgIn W v cs) (hz : SzD m cs) :
    Calls Try.prog 20 #[.pointer (some ⟨g, 0, none⟩), .int .u64 s, .agg (encMx m).toArray, v] W fun e w' => e = .returned (.tuple #[.bool (checkT t s m.mk' (cs.map Cx.ch)).1, .int .i64 (checkT t s m.mk' (cs.map Cx.ch)).2]) ∧ Below W.heap.size W w' := by
  obtain ⟨B, most, ds, gn, sum, va, vg, h1, _⟩ := x
  exact S.check h1 s m v cs h0 hs hm hc hz
theorem tt_rcheck (hn : n ≤ 1400000000000) (s : Int) (m : Mx) (v : Value) (cs : List Cx) (hm : MIn W m) (hc : ChgIn W v cs) (hz : SzD m cs) :
    Calls Try.prog 27 #[.pointer (some ⟨h, 0, none⟩), .int .u64 s, .agg (encMx m).toArray, v] W fun e w' => e = .returned (.tuple #[.bool (checkT t' s m.mk' (cs.map Cx.ch)).1, .int .i64 (checkT t' s m.mk' (cs.map Cx.ch)).2]) ∧ Below W.heap.size W w' := by
  obtain ⟨B, most, ds, gn, sum, va, vg, h1, h2, rfl, h4, _⟩ := x
  exact rcheck13_any h2 (by omega) s m v cs hm hz.len hc (by have := hz.chg; omega)
theorem tt_add (d : Dx) (hd : DIn W d) :
    Calls Try.prog 22 #[.pointer (some ⟨g, 0, none⟩), .agg (encDx d).toArray] W fun e w' => e = .returned (.int .i64 (addT t d.dn).1) ∧ TwoT S n0 V C g h (addT t d.dn).2 t' n w' := by
  have hn := x.base
  obtain ⟨B, most, ds, gn, sum, va, vg, h1, h2, h3, h4, h5, h6, h7⟩ := x
  exact (S.add h1 hn d hd).mono fun e w' q => ⟨q.1, TwoT.turn_p h2 h3 h4 h5 h6 h7 q.2⟩
theorem tt_radd (hn1 : n ≤ 1400000000000) (d : Dx) (hd : DIn W d) :
    Calls Try.prog 25 #[.pointer (some ⟨h, 0, none⟩), .agg (encDx d).toArray] W fun e w' => e = .returned (.int .i64 (addT t' d.dn).1) ∧ TwoT S n0 V C g h t (addT t' d.dn).2 (n + 1) w' := by
  have hn := x.base
  obtain ⟨B, most, ds, gn, sum, va, vg, h1, h2, rfl, h4, h5, h6, h7⟩ := x
  refine (radd13_any h2 hn (by omega) d hd hd.sz.few).mono fun e w' q => ⟨q.1, ?_⟩
  obtain ⟨_, ds', gn', sum', va', vg', q1, q2, q3, q4, q5⟩ := q
  refine ⟨B, most, ds', gn', sum', va', vg', S.fr h1 q4 fun k hk e => h5 k hk e, q1, q2, by omega, fun k hk hb => ?_, h6.then q4 fun k hk => h7 k (Or.inr hk), fun k hk => ?_⟩
  · rcases q5 k hb with h8 | h8
    · exact h5 k hk h8
    · have := (S.blk h1 k hk).2
      omega
  · rcases hk with hk | hk
    · exact h7 k (Or.inl hk)
    · exact (q5 k hk).elim (fun h => h7 k (Or.inr h)) fun h => Or.inr (Nat.le_trans h6.size h)
theorem tt_drop (s : Int) (h0 : 0 ≤ s) (hs : s ≤ 18446744073709551615) :
    Calls Try.prog 21 #[.pointer (some ⟨g, 0, none⟩), .int .u64 s] W fun e w' => e = .returned (.int .i64 ((t.kept.length : Int) - ((dropT t s).kept.length : Int))) ∧ TwoT S n0 V C g h (dropT t s) t' n w' := by
  have hn := x.base
  obtain ⟨B, most, ds, gn, sum, va, vg, h1, h2, h3, h4, h5, h6, h7⟩ := x
  exact (S.drop h1 hn s h0 hs).mono fun e w' q => ⟨q.1, TwoT.turn_p h2 h3 h4 h5 h6 h7 q.2⟩
theorem tt_rdrop (hn1 : n ≤ 1400000000000) (s : Int) :
    Calls Try.prog 28 #[.pointer (some ⟨h, 0, none⟩), .int .u64 s] W fun e w' => e = .returned (.int .i64 ((t'.kept.length : Int) - ((dropT t' s).kept.length : Int))) ∧ TwoT S n0 V C g h t (dropT t' s) n w' := by
  obtain ⟨B, most, ds, gn, sum, va, vg, h1, h2, rfl, h4, h5, h6, h7⟩ := x
  refine (rdrop13_any h2 (by omega) s).mono fun e w' q => ⟨?_, ?_⟩
  · rw [q.1, ← tkG_drop]
    rfl
  · obtain ⟨_, q1, q2⟩ := q
    exact ⟨B, most, ds, _, sum, va, vg, S.fr h1 q2 fun k hk e => h5 k hk (Or.inr (Or.inr (Or.inl e))), q1, tkG_drop _ _ _ _ _, h4, h5, h6.then q2 fun k hk => h7 k (Or.inr (Or.inr (Or.inr (Or.inl hk)))), h7⟩
theorem tt_len : Calls Try.prog 13 #[.pointer (some ⟨g, 0, none⟩)] W fun e w' => e = .returned (.int .i64 (t.kept.length : Nat)) ∧ Below W.heap.size W w' := by
  obtain ⟨B, most, ds, gn, sum, va, vg, h1, _⟩ := x
  exact S.len h1
theorem tt_rlen (hn1 : n ≤ 1400000000000) : Calls Try.prog 14 #[.pointer (some ⟨h, 0, none⟩)] W fun e w' => e = .returned (.int .i64 (t'.kept.length : Nat)) ∧ Below W.heap.size W w' := by
  obtain ⟨B, most, ds, gn, sum, va, vg, h1, h2, rfl, h4, _⟩ := x
  exact rlen13_any h2 (by omega)
theorem tt_sum : Calls Try.prog 15 #[.pointer (some ⟨g, 0, none⟩)] W fun e w' => e = .returned (.int .u64 t.sum) ∧ Below W.heap.size W w' := by
  obtain ⟨B, most, ds, gn, sum, va, vg, h1, _⟩ := x
  exact S.sum h1
theorem tt_list : Calls Try.prog 17 #[.pointer (some ⟨g, 0, none⟩)] W fun e w' => ListPost W t.kept e w' := by
  obtain ⟨B, most, ds, gn, sum, va, vg, h1, _⟩ := x
  exact S.list h1
/-- The document's list: a row of its own; what it tells lies in the tracker. -/
theorem tt_rlist (hn1 : n ≤ 1400000000000) : Calls Try.prog 18 #[.pointer (some ⟨h, 0, none⟩)] W fun e w' => (∃ p c es, e = .returned (.slice p es.length c) ∧ KDx.Is w' (.slice p es.length c) es ∧ (∀ d ∈ es, DRd w' d) ∧ es.map Dx.dn = t'.kept) ∧ Below W.heap.size W w' := by
  obtain ⟨B, most, ds, gn, sum, va, vg, h1, h2, rfl, h4, _⟩ := x
  refine (rlist13_any h2 (by omega)).mono fun e w' q => ?_
  obtain ⟨p, c, es, q1, q2, q3, q4, q5⟩ := q
  exact ⟨⟨p, c, es, q1, Kind.own_is q2, fun d hd => (h2.rd d (q3 d hd)).on q5, q4⟩, q5⟩
end
end

/-- What List of the program answers can be read. -/
theorem list_rd {W : World} {l : List Dn} {e : Ending} {w' : World} (h : ListPost W l e w') : (∃ p c ds, e = .returned (.slice p ds.length c) ∧ KDx.Is w' (.slice p ds.length c) ds ∧ (∀ d ∈ ds, DRd w' d) ∧ ds.map Dx.dn = l) ∧ Below W.heap.size W w' := by
  obtain ⟨u, ds, rfl, h1, h2, _, h3, h4⟩ := h
  obtain ⟨p, c, rfl⟩ := Kind.own_shape h1
  exact ⟨⟨p, c, ds, rfl, Kind.own_is h1, fun d hd => ⟨(h2 d hd).1.inn.1, (h2 d hd).1.inn.2, (h2 d hd).2.len, by have := (h2 d hd).2.chg; omega⟩, h3⟩, h4⟩

end Go.Proofs.Ytmihddbnddgfhaa

/-
  One operation of both trackers (stage 13).
-/
namespace Go.Proofs.Ytmihddbnddgfhaa
open Go.RowKit

section
variable {S : TrackApi} {n0 : Nat} {V : World} {C : Nat → Prop} {g h : Nat} {t t' : Tk} {n : Nat} {W : World}
theorem TwoT.block (x : TwoT S n0 V C g h t t' n W) {b : Nat} (hb : b < V.heap.size) (hC : ¬ C b) : W.heap[b]? = V.heap[b]? := by
  obtain ⟨B, most, ds, gn, sum, va, vg, h1, h2, h3, h4, h5, h6, h7⟩ := x
  exact h6.block b hb hC
theorem TwoT.kept (x : TwoT S n0 V C g h t t' n W) : t'.kept.length ≤ n := by
  obtain ⟨B, most, ds, gn, sum, va, vg, h1, h2, rfl, h4, h5, h6, h7⟩ := x
  have := keptG_le (ds.map Dx.dn) gn
  rw [List.length_map] at this
  exact Nat.le_trans this h4
/-- Seen from a world a little on. -/
theorem TwoT.from {W1 : World} (x : TwoT S n0 V C g h t t' n W) (hb : Below W.heap.size W W1) : ∃ C', TwoT S n0 W1 C' g h t t' n W1 ∧ (∀ k, C' k → n0 ≤ k ∧ k < W.heap.size) ∧ (∀ k, C' k → C k ∨ V.heap.size ≤ k) ∧ Fr C V W1 := by
  obtain ⟨B, most, ds, gn, sum, va, vg, h1, h2, h3, h4, h5, h6, h7⟩ := x
  refine ⟨fun k => B k ∨ BlkT h ds va vg k, ⟨B, most, ds, gn, sum, va, vg, TrackApi.on h1 hb, h2.on hb, h3, h4, h5, Fr.refl _ _, fun k hk => Or.inl hk⟩, fun k hk => hk.elim (S.blk h1 k) (h2.blk k), h7, Fr.then h6 (Fr.of_below (P := fun _ => False) hb) fun _ h => h.elim⟩
/-- .. and back. -/
theorem TwoT.back {W1 w' : World} {C' : Nat → Prop} (x : TwoT S n0 W1 C' g h t t' n w') (hC : ∀ k, C' k → C k ∨ V.heap.size ≤ k) (f : Fr C V W1) : TwoT S n0 V C g h t t' n w' := by
  obtain ⟨B, most, ds, gn, sum, va, vg, h1, h2, h3, h4, h5, h6, h7⟩ := x
  exact ⟨B, most, ds, gn, sum, va, vg, h1, h2, h3, h4, h5, f.then h6 hC, fun k hk => (h7 k hk).elim (hC k) fun h => Or.inr (Nat.le_trans f.size h)⟩
end

/-- What step is given: both trackers say the same; the operation lies where no tracker's block is. -/
structure StIn (S : TrackApi) (n0 : Nat) (U V : World) (C : Nat → Prop) (g h : Nat) (t : Tk) (n : Nat) (o : Oy13) (W : World) : Prop where
  two : TwoT S n0 V C g h t t n W
  bel : Below n0 U W
  inn : ∀ W', Below n0 U W' → DIn W' o.d
  few : n ≤ 1353245080300
/-- What it leaves. -/
def StPost (S : TrackApi) (n0 : Nat) (U V : World) (C : Nat → Prop) (g h : Nat) (n : Nat) (e : Ending) (w' : World) : Prop := e = .returned (.bool true) ∧ (∃ t, TwoT S n0 V C g h t t (n + 1) w') ∧ Below n0 U w'

/-- The operation in its box, and both trackers from there on. -/
theorem st_start {S : TrackApi} {n0 : Nat} {U V : World} {C : Nat → Prop} {g h : Nat} {t : Tk} {n : Nat} {o : Oy13} {W W1 : World} (H : StIn S n0 U V C g h t n o W) (hW1 : W.alloc (.cells (encOt o).toArray 37) = W1) :
    ∃ C', TwoT S n0 W1 C' g h t t n W1 ∧ (∀ w' t1 t2 m, TwoT S n0 W1 C' g h t1 t2 m w' → w'.heap[W.heap.size]? = some (.cells (encOt o).toArray 37 (0, 0)) ∧ DIn w' o.d) ∧ ∀ w' t1 m, m ≤ n + 1 → TwoT S n0 W1 C' g h t1 t1 m w' → StPost S n0 U V C g h n (.returned (.bool true)) w' := by
  have hb : Below W.heap.size W W1 := by rw [← hW1]; exact (Below.refl _ _).alloc (Nat.le_refl _) _
  have hn : W1.heap[W.heap.size]? = some (.cells (encOt o).toArray 37 (0, 0)) := by rw [← hW1]; exact heap_alloc_new W _
  have hlt : W.heap.size < W1.heap.size := (Array.getElem?_eq_some_iff.1 hn).1
  have hbase := H.two.base
  obtain ⟨C', x1, hC1, hC2, f⟩ := H.two.from hb
  have hbU : Below n0 U W1 := H.bel.trans (hb.mono hbase)
  have hall : ∀ w' t1 t2 m, TwoT S n0 W1 C' g h t1 t2 m w' → Below n0 U w' := fun w' t1 t2 m x => hbU.trans (x.below (by omega) fun k hk => (hC1 k hk).1)
  refine ⟨C', x1, fun w' t1 t2 m x => ⟨(x.block hlt fun hk => by have := (hC1 _ hk).2; omega).trans hn, H.inn w' (hall w' t1 t2 m x)⟩, fun w' t1 m hm x => ⟨rfl, ⟨t1, (x.mono hm).back hC2 f⟩, hall w' _ _ _ x⟩⟩

set_option linter.unusedSimpArgs false in
set_option maxHeartbeats 8000000 in
set_option maxRecDepth 100000 in
theorem step13_check {S : TrackApi} {n0 : Nat} {U V : World} {C : Nat → Prop} {g h : Nat} {t : Tk} {n : Nat} {o : Oy13} {W : World} (H : StIn S n0 U V C g h t n o W) (hk : o.kind = 1) :
    Calls Try.prog 12 #[.pointer (some ⟨g, 0, none⟩), .pointer (some ⟨h, 0, none⟩), .agg (encOt o).toArray] W fun e w' => StPost S n0 U V C g h n e w' := by
  obtain ⟨W1, hW1⟩ : ∃ W1, W.alloc (.cells (encOt o).toArray 37) = W1 := ⟨_, rfl⟩
  obtain ⟨M, hM⟩ : ∃ M, W.heap.size = M := ⟨_, rfl⟩
  obtain ⟨C', x1, hbx, hend⟩ := st_start H hW1
  rw [hM] at hbx
  have hfew : n ≤ 1400000000000 := by have := H.few; omega
  have X1 := hid x1
  have HEND := hid hend
  have HDI : Hid (∀ w' t1 t2 m, TwoT S n0 W1 C' g h t1 t2 m w' → DIn w' o.d) := fun w' t1 t2 m x => (hbx w' t1 t2 m x).2
  have HBX : Hid (∀ w' t1 t2 m, TwoT S n0 W1 C' g h t1 t2 m w' → w'.heap[M]? = some (.cells (encOt o).toArray 37 (0, 0))) := fun w' t1 t2 m x => (hbx w' t1 t2 m x).1
  clear H hend hbx x1
  obtain ⟨kd, sn, st, ou, ⟨kp, kc, ks, rp, rc, rs⟩, cp, cc, cs⟩ := o
  have HCE : Hid (∀ w' t1 t2 m, TwoT S n0 W1 C' g h t1 t2 m w' → w'.cell? ⟨M, 0, none⟩ = some (.int .i64 kd) ∧ w'.cell? ⟨M, 1, none⟩ = some (.int .u64 sn) ∧ w'.cell? ⟨M, 2, none⟩ = some (.int .u64 st) ∧ w'.cell? ⟨M, 3, none⟩ = some (.bool ou) ∧ w'.cell? ⟨M, 4, none⟩ = some (.slice kp ks.length kc) ∧ w'.cell? ⟨M, 5, none⟩ = some (.slice rp rs.length rc) ∧ w'.cell? ⟨M, 6, none⟩ = some (.slice cp cs.length cc)) := fun w' t1 t2 m x => by
    have e1 := HBX.out w' t1 t2 m x
    exact ⟨by rw [Lib.cell_of_heap e1]; rfl, by rw [Lib.cell_of_heap e1]; rfl, by rw [Lib.cell_of_heap e1]; rfl, by rw [Lib.cell_of_heap e1]; rfl, by rw [Lib.cell_of_heap e1]; rfl, by rw [Lib.cell_of_heap e1]; rfl, by rw [Lib.cell_of_heap e1]; rfl⟩
  have HDI' : Hid (∀ w' t1 t2 m, TwoT S n0 W1 C' g h t1 t2 m w' → DIn w' ⟨sn, st, ou, ⟨kp, kc, ks, rp, rc, rs⟩, cp, cc, cs⟩) := HDI.out
  obtain ⟨a0, a1, a2, a3, a4, a5, a6⟩ := HCE.out W1 _ _ _ X1.out
  clear HBX HDI
  have hdi := HDI'.out W1 _ _ _ X1.out
  have hsz := hdi.sz
  have HC1 := hid (tt_check X1.out sn ⟨kp, kc, ks, rp, rc, rs⟩ (.slice cp cs.length cc) cs hdi.snap.1 hdi.snap.2 hdi.mrk hdi.chg hsz)
  have HC2 : Hid (∀ w', TwoT S n0 W1 C' g h t t n w' → Calls Try.prog 27 #[.pointer (some ⟨h, 0, none⟩), .int .u64 sn, .agg (encMx ⟨kp, kc, ks, rp, rc, rs⟩).toArray, .slice cp cs.length cc] w' fun e w2 => e = .returned (.tuple #[.bool (checkT t sn (⟨kp, kc, ks, rp, rc, rs⟩ : Mx).mk' (cs.map Cx.ch)).1, .int .i64 (checkT t sn (⟨kp, kc, ks, rp, rc, rs⟩ : Mx).mk' (cs.map Cx.ch)).2]) ∧ Below w'.heap.size w' w2) := fun w' x => tt_rcheck x hfew sn ⟨kp, kc, ks, rp, rc, rs⟩ (.slice cp cs.length cc) cs (HDI'.out w' _ _ _ x).mrk (HDI'.out w' _ _ _ x).chg hsz
  generalize (checkT t sn (⟨kp, kc, ks, rp, rc, rs⟩ : Mx).mk' (cs.map Cx.ch)).1 = R1 at *
  generalize (checkT t sn (⟨kp, kc, ks, rp, rc, rs⟩ : Mx).mk' (cs.map Cx.ch)).2 = R2 at *
  clear hdi hsz
  simp only at hk
  subst hk
  simp only [encMx] at HC1 HC2
  simp only [encOt, encDx, Mx.ksl, Mx.rsl, Dx.csl] at *
  go_enter Try.func12, Try.ntmps12
  go_wp2_with fail
  try rw [hW1]
  try rw [hM]
  refine HC1.out.mono ?_
  rintro e w1 ⟨rfl, hb1⟩
  have X2 := hid (X1.out.on hb1)
  obtain ⟨a0, a1, a2, a3, a4, a5, a6⟩ := HCE.out w1 _ _ _ X2.out
  have HC3 := hid (HC2.out w1 X2.out)
  clear hb1 HC1 HC2
  go_wp2_with fail
  refine HC3.out.mono ?_
  rintro e w2 ⟨rfl, hb2⟩
  have X3 := hid (X2.out.on hb2)
  obtain ⟨a0, a1, a2, a3, a4, a5, a6⟩ := HCE.out w2 _ _ _ X3.out
  clear hb2 HC3
  cases R1 with
  | true =>
    go_wp2_with fail
    go_ret
    exact HEND.out w2 _ n (by omega) X3.out
  | false =>
    go_wp2_with fail
    go_ret
    exact HEND.out w2 _ n (by omega) X3.out

set_option linter.unusedSimpArgs false in
set_option maxHeartbeats 8000000 in
set_option maxRecDepth 100000 in
theorem step13_add {S : TrackApi} {n0 : Nat} {U V : World} {C : Nat → Prop} {g h : Nat} {t : Tk} {n : Nat} {o : Oy13} {W : World} (H : StIn S n0 U V C g h t n o W) (hk : o.kind = 2) :
    Calls Try.prog 12 #[.pointer (some ⟨g, 0, none⟩), .pointer (some ⟨h, 0, none⟩), .agg (encOt o).toArray] W fun e w' => StPost S n0 U V C g h n e w' := by
  obtain ⟨W1, hW1⟩ : ∃ W1, W.alloc (.cells (encOt o).toArray 37) = W1 := ⟨_, rfl⟩
  obtain ⟨M, hM⟩ : ∃ M, W.heap.size = M := ⟨_, rfl⟩
  obtain ⟨C', x1, hbx, hend⟩ := st_start H hW1
  rw [hM] at hbx
  have hfew : n ≤ 1400000000000 := by have := H.few; omega
  have X1 := hid x1
  have HEND := hid hend
  have HDI : Hid (∀ w' t1 t2 m, TwoT S n0 W1 C' g h t1 t2 m w' → DIn w' o.d) := fun w' t1 t2 m x => (hbx w' t1 t2 m x).2
  have HBX : Hid (∀ w' t1 t2 m, TwoT S n0 W1 C' g h t1 t2 m w' → w'.heap[M]? = some (.cells (encOt o).toArray 37 (0, 0))) := fun w' t1 t2 m x => (hbx w' t1 t2 m x).1
  clear H hend hbx x1
  obtain ⟨kd, sn, st, ou, ⟨kp, kc, ks, rp, rc, rs⟩, cp, cc, cs⟩ := o
  have HCE : Hid (∀ w' t1 t2 m, TwoT S n0 W1 C' g h t1 t2 m w' → w'.cell? ⟨M, 0, none⟩ = some (.int .i64 kd) ∧ w'.cell? ⟨M, 1, none⟩ = some (.int .u64 sn) ∧ w'.cell? ⟨M, 2, none⟩ = some (.int .u64 st) ∧ w'.cell? ⟨M, 3, none⟩ = some (.bool ou) ∧ w'.cell? ⟨M, 4, none⟩ = some (.slice kp ks.length kc) ∧ w'.cell? ⟨M, 5, none⟩ = some (.slice rp rs.length rc) ∧ w'.cell? ⟨M, 6, none⟩ = some (.slice cp cs.length cc)) := fun w' t1 t2 m x => by
    have e1 := HBX.out w' t1 t2 m x
    exact ⟨by rw [Lib.cell_of_heap e1]; rfl, by rw [Lib.cell_of_heap e1]; rfl, by rw [Lib.cell_of_heap e1]; rfl, by rw [Lib.cell_of_heap e1]; rfl, by rw [Lib.cell_of_heap e1]; rfl, by rw [Lib.cell_of_heap e1]; rfl, by rw [Lib.cell_of_heap e1]; rfl⟩
  have HDI' : Hid (∀ w' t1 t2 m, TwoT S n0 W1 C' g h t1 t2 m w' → DIn w' ⟨sn, st, ou, ⟨kp, kc, ks, rp, rc, rs⟩, cp, cc, cs⟩) := HDI.out
  obtain ⟨a0, a1, a2, a3, a4, a5, a6⟩ := HCE.out W1 _ _ _ X1.out
  clear HBX HDI
  have HCD : Hid (∀ w' t1 t2 m, TwoT S n0 W1 C' g h t1 t2 m w' → Calls Try.prog 24 #[.agg (encDx ⟨sn, st, ou, ⟨kp, kc, ks, rp, rc, rs⟩, cp, cc, cs⟩).toArray] w' fun e w2 => DnPost w' ⟨sn, st, ou, ⟨kp, kc, ks, rp, rc, rs⟩, cp, cc, cs⟩ e w2) := fun w' t1 t2 m x => done13_any _ w' (HDI'.out w' _ _ _ x) (HDI'.out w' _ _ _ x).sz.few
  have HCR : Hid (∀ w' t1, TwoT S n0 W1 C' g h t1 t n w' → Calls Try.prog 25 #[.pointer (some ⟨h, 0, none⟩), .agg (encDx ⟨sn, st, ou, ⟨kp, kc, ks, rp, rc, rs⟩, cp, cc, cs⟩).toArray] w' fun e w2 => e = .returned (.int .i64 (addT t (⟨sn, st, ou, ⟨kp, kc, ks, rp, rc, rs⟩, cp, cc, cs⟩ : Dx).dn).1) ∧ TwoT S n0 W1 C' g h t1 (addT t (⟨sn, st, ou, ⟨kp, kc, ks, rp, rc, rs⟩, cp, cc, cs⟩ : Dx).dn).2 (n + 1) w2) := fun w' t1 x => tt_radd x hfew _ (HDI'.out w' _ _ _ x)
  have hrng := HDI'.out W1 _ _ _ X1.out
  have HRN : Hid ((0 ≤ sn ∧ sn ≤ 18446744073709551615) ∧ 0 ≤ st ∧ st ≤ 18446744073709551615) := ⟨hrng.snap, hrng.stamp⟩
  clear hrng
  obtain ⟨dn, hdn⟩ : ∃ dn, (⟨sn, st, ou, ⟨kp, kc, ks, rp, rc, rs⟩, cp, cc, cs⟩ : Dx).dn = dn := ⟨_, rfl⟩
  rw [hdn] at HCR
  have HDN := hid hdn
  generalize haR : (addT t dn).1 = R1 at *
  clear hdn
  simp only at hk
  subst hk
  simp only [encOt, encDx, Mx.ksl, Mx.rsl, Dx.csl] at *
  have a := And.intro a0 (And.intro a1 (And.intro a2 (And.intro a3 (And.intro a4 (And.intro a5 a6)))))
  have HA0 := hid a
  clear a
  go_enter Try.func12, Try.ntmps12
  go_upto_region 7 with fail
  try rw [hW1]
  try rw [hM]
  clear a0 a1 a2 a3 a4 a5 a6 hW1
  have X1d := hid (X1.out.on (bel_drewN (Below.refl _ _) 1))
  refine wp_region_held_drew (S := fun w' => w'.cell? ⟨M, 0, none⟩ = some (.int .i64 2) ∧ w'.cell? ⟨M, 1, none⟩ = some (.int .u64 sn) ∧ w'.cell? ⟨M, 2, none⟩ = some (.int .u64 st) ∧ w'.cell? ⟨M, 3, none⟩ = some (.bool ou) ∧ w'.cell? ⟨M, 4, none⟩ = some (.slice kp ks.length kc) ∧ w'.cell? ⟨M, 5, none⟩ = some (.slice rp rs.length rc) ∧ w'.cell? ⟨M, 6, none⟩ = some (.slice cp cs.length cc)) (by kernel_rfl) (HCE.out W1.drew _ _ _ X1d.out) (fun hHeld => ?_)
  refine take_val (i := 0) (.pointer (some ⟨g, 0, none⟩)) rfl (by kernel_rfl) (by kernel_rfl) (by kernel_rfl) (fun _ _ _ h => h) (by rfl) (fun w hSw => by go_simp) hHeld ?_
  simp only [Act.put, List.setIfInBounds_toArray, List.set_cons_zero, List.set_cons_succ]
  refine take_val (i := 1) (.pointer (some ⟨M, 1, none⟩)) rfl (by kernel_rfl) (by kernel_rfl) (by kernel_rfl) (fun _ _ _ h => h) (by rfl) (fun w hSw => by go_simp) hHeld ?_
  simp only [Act.put, List.setIfInBounds_toArray, List.set_cons_zero, List.set_cons_succ]
  refine take_val (i := 2) (.agg #[.int .u64 sn, .int .u64 st, .bool ou, .slice kp ks.length kc, .slice rp rs.length rc, .slice cp cs.length cc]) rfl (by kernel_rfl) (by kernel_rfl) (by kernel_rfl) (fun _ _ _ h => h) (by rfl) (fun w hSw => by go_simp) hHeld ?_
  simp only [Act.put, List.setIfInBounds_toArray, List.set_cons_zero, List.set_cons_succ]
  refine take_val (i := 5) (.pointer (some ⟨h, 0, none⟩)) rfl (by kernel_rfl) (by kernel_rfl) (by kernel_rfl) (fun _ _ _ h => h) (by rfl) (fun w hSw => by go_simp) hHeld ?_
  simp only [Act.put, List.setIfInBounds_toArray, List.set_cons_zero, List.set_cons_succ]
  refine take_val (i := 6) (.pointer (some ⟨M, 1, none⟩)) rfl (by kernel_rfl) (by kernel_rfl) (by kernel_rfl) (fun _ _ _ h => h) (by rfl) (fun w hSw => by go_simp) hHeld ?_
  simp only [Act.put, List.setIfInBounds_toArray, List.set_cons_zero, List.set_cons_succ]
  refine take_val (i := 7) (.agg #[.int .u64 sn, .int .u64 st, .bool ou, .slice kp ks.length kc, .slice rp rs.length rc, .slice cp cs.length cc]) rfl (by kernel_rfl) (by kernel_rfl) (by kernel_rfl) (fun _ _ _ h => h) (by rfl) (fun w hSw => by go_simp) hHeld ?_
  simp only [Act.put, List.setIfInBounds_toArray, List.set_cons_zero, List.set_cons_succ]
  clear hHeld
  have HC1 := hid (HCD.out W1.drew _ _ _ X1d.out)
  try simp only [encDx, Mx.ksl, Mx.rsl, Dx.csl] at HC1
  refine wpAnyH_ready (rs := [3]) (by kernel_rfl) (by simp) ?_
  refine AllReadyH.cons (at_drop0 rfl) (fun K hK => ?_) AllReadyH.nil
  rw [if_pos (by rfl)]
  go_simp
  refine HC1.out.mono ?_
  rintro e w1 ⟨y, rfl, hy1, hy2, hy3, hb1⟩
  have X2 := hid (X1d.out.on hb1)
  have hyi : DIn w1 y := ⟨hy1.inn.1, hy1.inn.2, hy3, by have := congrArg Dn.snap hy2; have h2 := HRN.out.1; change y.snap = sn at this; rw [this]; exact h2, by have := congrArg Dn.stamp hy2; have h2 := HRN.out.2; change y.stamp = st at this; rw [this]; exact h2⟩
  have hC2 := tt_add X2.out y hyi
  rw [hy2, HDN.out, haR] at hC2
  have HC2 := hid hC2
  clear hy1 hy2 hy3 hb1 hyi hC2 HC1
  obtain ⟨ysn, yst, you, ⟨ykp, ykc, yks, yrp, yrc, yrs⟩, ycp, ycc, ycs⟩ := y
  simp only [encDx, Mx.ksl, Mx.rsl, Dx.csl] at HC2 ⊢
  go_wp2_with fail
  refine hK.out _ _ ((HCE.out w1 _ _ _ X2.out)) (fun hHeld => ?_)
  clear hK K
  try simp only [Act.put, List.setIfInBounds_toArray, List.set_cons_zero, List.set_cons_succ]
  clear hHeld
  refine wpAnyH_ready (rs := [4]) (by kernel_rfl) (by simp) ?_
  refine AllReadyH.cons (at_drop0 rfl) (fun K hK => ?_) AllReadyH.nil
  rw [if_pos (by rfl)]
  go_simp
  refine HC2.out.mono ?_
  rintro e w2 ⟨rfl, x3⟩
  have X3 := hid x3
  have HC3 := hid (HCR.out w2 _ x3)
  try simp only [encDx, Mx.ksl, Mx.rsl, Dx.csl] at HC3
  clear x3 HC2
  go_wp2_with fail
  refine hK.out _ _ ((HCE.out w2 _ _ _ X3.out)) (fun hHeld => ?_)
  clear hK K
  try simp only [Act.put, List.setIfInBounds_toArray, List.set_cons_zero, List.set_cons_succ]
  clear hHeld
  refine wpAnyH_ready (rs := [8]) (by kernel_rfl) (by simp) ?_
  refine AllReadyH.cons (at_drop0 rfl) (fun K hK => ?_) AllReadyH.nil
  rw [if_pos (by rfl)]
  go_simp
  refine HC3.out.mono ?_
  rintro e w3 ⟨rfl, x4⟩
  have X4 := hid x4
  clear x4 HC3
  go_wp2_with fail
  refine hK.out _ _ ((HCE.out w3 _ _ _ X4.out)) (fun hHeld => ?_)
  clear hK K
  try simp only [Act.put, List.setIfInBounds_toArray, List.set_cons_zero, List.set_cons_succ]
  refine take_val (i := 9) (.bool true) rfl (by kernel_rfl) (by kernel_rfl) (by kernel_rfl) (fun _ _ _ h => h) (by rfl) (fun w hSw => by go_simp) hHeld ?_
  simp only [Act.put, List.setIfInBounds_toArray, List.set_cons_zero, List.set_cons_succ]
  refine take_val (i := 10) (.bool true) rfl (by kernel_rfl) (by kernel_rfl) (by kernel_rfl) (fun _ _ _ h => h) (by rfl) (fun w hSw => by go_simp) hHeld ?_
  simp only [Act.put, List.setIfInBounds_toArray, List.set_cons_zero, List.set_cons_succ]
  refine wpAnyH_done (by kernel_rfl) ?_ _
  clear hHeld
  go_wp2_with fail
  go_ret
  exact HEND.out w3 _ (n + 1) (by omega) X4.out

set_option linter.unusedSimpArgs false in
set_option maxHeartbeats 8000000 in
set_option maxRecDepth 100000 in
theorem step13_drop {S : TrackApi} {n0 : Nat} {U V : World} {C : Nat → Prop} {g h : Nat} {t : Tk} {n : Nat} {o : Oy13} {W : World} (H : StIn S n0 U V C g h t n o W) (hk : o.kind = 3) :
    Calls Try.prog 12 #[.pointer (some ⟨g, 0, none⟩), .pointer (some ⟨h, 0, none⟩), .agg (encOt o).toArray] W fun e w' => StPost S n0 U V C g h n e w' := by
  obtain ⟨W1, hW1⟩ : ∃ W1, W.alloc (.cells (encOt o).toArray 37) = W1 := ⟨_, rfl⟩
  obtain ⟨M, hM⟩ : ∃ M, W.heap.size = M := ⟨_, rfl⟩
  obtain ⟨C', x1, hbx, hend⟩ := st_start H hW1
  rw [hM] at hbx
  have hfew : n ≤ 1400000000000 := by have := H.few; omega
  have X1 := hid x1
  have HEND := hid hend
  have HDI : Hid (∀ w' t1 t2 m, TwoT S n0 W1 C' g h t1 t2 m w' → DIn w' o.d) := fun w' t1 t2 m x => (hbx w' t1 t2 m x).2
  have HBX : Hid (∀ w' t1 t2 m, TwoT S n0 W1 C' g h t1 t2 m w' → w'.heap[M]? = some (.cells (encOt o).toArray 37 (0, 0))) := fun w' t1 t2 m x => (hbx w' t1 t2 m x).1
  clear H hend hbx x1
  obtain ⟨kd, sn, st, ou, ⟨kp, kc, ks, rp, rc, rs⟩, cp, cc, cs⟩ := o
  have HCE : Hid (∀ w' t1 t2 m, TwoT S n0 W1 C' g h t1 t2 m w' → w'.cell? ⟨M, 0, none⟩ = some (.int .i64 kd) ∧ w'.cell? ⟨M, 1, none⟩ = some (.int .u64 sn) ∧ w'.cell? ⟨M, 2, none⟩ = some (.int .u64 st) ∧ w'.cell? ⟨M, 3, none⟩ = some (.bool ou) ∧ w'.cell? ⟨M, 4, none⟩ = some (.slice kp ks.length kc) ∧ w'.cell? ⟨M, 5, none⟩ = some (.slice rp rs.length rc) ∧ w'.cell? ⟨M, 6, none⟩ = some (.slice cp cs.length cc)) := fun w' t1 t2 m x => by
    have e1 := HBX.out w' t1 t2 m x
    exact ⟨by rw [Lib.cell_of_heap e1]; rfl, by rw [Lib.cell_of_heap e1]; rfl, by rw [Lib.cell_of_heap e1]; rfl, by rw [Lib.cell_of_heap e1]; rfl, by rw [Lib.cell_of_heap e1]; rfl, by rw [Lib.cell_of_heap e1]; rfl, by rw [Lib.cell_of_heap e1]; rfl⟩
  have HDI' : Hid (∀ w' t1 t2 m, TwoT S n0 W1 C' g h t1 t2 m w' → DIn w' ⟨sn, st, ou, ⟨kp, kc, ks, rp, rc, rs⟩, cp, cc, cs⟩) := HDI.out
  obtain ⟨a0, a1, a2, a3, a4, a5, a6⟩ := HCE.out W1 _ _ _ X1.out
  clear HBX HDI
  have hrng := HDI'.out W1 _ _ _ X1.out
  have HCP : Hid (∀ w', TwoT S n0 W1 C' g h t t n w' → Calls Try.prog 21 #[.pointer (some ⟨g, 0, none⟩), .int .u64 st] w' fun e w2 => e = .returned (.int .i64 ((t.kept.length : Int) - ((dropT t st).kept.length : Int))) ∧ TwoT S n0 W1 C' g h (dropT t st) t n w2) := fun w' x => tt_drop x st hrng.stamp.1 hrng.stamp.2
  have HCR : Hid (∀ w' t1, TwoT S n0 W1 C' g h t1 t n w' → Calls Try.prog 28 #[.pointer (some ⟨h, 0, none⟩), .int .u64 st] w' fun e w2 => e = .returned (.int .i64 ((t.kept.length : Int) - ((dropT t st).kept.length : Int))) ∧ TwoT S n0 W1 C' g h t1 (dropT t st) n w2) := fun w' t1 x => tt_rdrop x hfew st
  generalize (t.kept.length : Int) - ((dropT t st).kept.length : Int) = R1 at *
  clear hrng
  simp only at hk
  subst hk
  simp only [encOt, encDx, Mx.ksl, Mx.rsl, Dx.csl] at *
  go_enter Try.func12, Try.ntmps12
  go_upto_region 9 with fail
  try rw [hW1]
  try rw [hM]
  clear a0 a1 a2 a3 a4 a5 a6 hW1
  have X1d := hid (X1.out.on (bel_drewN (Below.refl _ _) 1))
  refine wp_region_held_drew (S := fun w' => w'.cell? ⟨M, 0, none⟩ = some (.int .i64 3) ∧ w'.cell? ⟨M, 1, none⟩ = some (.int .u64 sn) ∧ w'.cell? ⟨M, 2, none⟩ = some (.int .u64 st) ∧ w'.cell? ⟨M, 3, none⟩ = some (.bool ou) ∧ w'.cell? ⟨M, 4, none⟩ = some (.slice kp ks.length kc) ∧ w'.cell? ⟨M, 5, none⟩ = some (.slice rp rs.length rc) ∧ w'.cell? ⟨M, 6, none⟩ = some (.slice cp cs.length cc)) (by kernel_rfl) (HCE.out W1.drew _ _ _ X1d.out) (fun hHeld => ?_)
  refine take_val (i := 0) (.pointer (some ⟨g, 0, none⟩)) rfl (by kernel_rfl) (by kernel_rfl) (by kernel_rfl) (fun _ _ _ h => h) (by rfl) (fun w hSw => by go_simp) hHeld ?_
  simp only [Act.put, List.setIfInBounds_toArray, List.set_cons_zero, List.set_cons_succ]
  refine take_val (i := 1) (.pointer (some ⟨M, 1, none⟩)) rfl (by kernel_rfl) (by kernel_rfl) (by kernel_rfl) (fun _ _ _ h => h) (by rfl) (fun w hSw => by go_simp) hHeld ?_
  simp only [Act.put, List.setIfInBounds_toArray, List.set_cons_zero, List.set_cons_succ]
  refine take_val (i := 2) (.pointer (some ⟨M, 2, none⟩)) rfl (by kernel_rfl) (by kernel_rfl) (by kernel_rfl) (fun _ _ _ h => h) (by rfl) (fun w hSw => by go_simp) hHeld ?_
  simp only [Act.put, List.setIfInBounds_toArray, List.set_cons_zero, List.set_cons_succ]
  refine take_val (i := 3) (.int .u64 st) rfl (by kernel_rfl) (by kernel_rfl) (by kernel_rfl) (fun _ _ _ h => h) (by rfl) (fun w hSw => by go_simp) hHeld ?_
  simp only [Act.put, List.setIfInBounds_toArray, List.set_cons_zero, List.set_cons_succ]
  refine take_val (i := 5) (.pointer (some ⟨h, 0, none⟩)) rfl (by kernel_rfl) (by kernel_rfl) (by kernel_rfl) (fun _ _ _ h => h) (by rfl) (fun w hSw => by go_simp) hHeld ?_
  simp only [Act.put, List.setIfInBounds_toArray, List.set_cons_zero, List.set_cons_succ]
  refine take_val (i := 6) (.pointer (some ⟨M, 1, none⟩)) rfl (by kernel_rfl) (by kernel_rfl) (by kernel_rfl) (fun _ _ _ h => h) (by rfl) (fun w hSw => by go_simp) hHeld ?_
  simp only [Act.put, List.setIfInBounds_toArray, List.set_cons_zero, List.set_cons_succ]
  refine take_val (i := 7) (.pointer (some ⟨M, 2, none⟩)) rfl (by kernel_rfl) (by kernel_rfl) (by kernel_rfl) (fun _ _ _ h => h) (by rfl) (fun w hSw => by go_simp) hHeld ?_
  simp only [Act.put, List.setIfInBounds_toArray, List.set_cons_zero, List.set_cons_succ]
  refine take_val (i := 8) (.int .u64 st) rfl (by kernel_rfl) (by kernel_rfl) (by kernel_rfl) (fun _ _ _ h => h) (by rfl) (fun w hSw => by go_simp) hHeld ?_
  simp only [Act.put, List.setIfInBounds_toArray, List.set_cons_zero, List.set_cons_succ]
  clear hHeld
  have HC1 := hid (HCP.out W1.drew X1d.out)
  refine wpAnyH_ready (rs := [4]) (by kernel_rfl) (by simp) ?_
  refine AllReadyH.cons (at_drop0 rfl) (fun K hK => ?_) AllReadyH.nil
  rw [if_pos (by rfl)]
  go_simp
  refine HC1.out.mono ?_
  rintro e w1 ⟨rfl, x2⟩
  have X2 := hid x2
  have HC2 := hid (HCR.out w1 _ x2)
  clear x2 HC1
  go_wp2_with fail
  refine hK.out _ _ ((HCE.out w1 _ _ _ X2.out)) (fun hHeld => ?_)
  clear hK K
  try simp only [Act.put, List.setIfInBounds_toArray, List.set_cons_zero, List.set_cons_succ]
  clear hHeld
  refine wpAnyH_ready (rs := [9]) (by kernel_rfl) (by simp) ?_
  refine AllReadyH.cons (at_drop0 rfl) (fun K hK => ?_) AllReadyH.nil
  rw [if_pos (by rfl)]
  go_simp
  refine HC2.out.mono ?_
  rintro e w2 ⟨rfl, x3⟩
  have X3 := hid x3
  clear x3 HC2
  go_wp2_with fail
  refine hK.out _ _ ((HCE.out w2 _ _ _ X3.out)) (fun hHeld => ?_)
  clear hK K
  try simp only [Act.put, List.setIfInBounds_toArray, List.set_cons_zero, List.set_cons_succ]
  refine take_val (i := 10) (.bool true) rfl (by kernel_rfl) (by kernel_rfl) (by kernel_rfl) (fun _ _ _ h => h) (by rfl) (fun w hSw => by go_simp) hHeld ?_
  simp only [Act.put, List.setIfInBounds_toArray, List.set_cons_zero, List.set_cons_succ]
  refine take_val (i := 11) (.bool true) rfl (by kernel_rfl) (by kernel_rfl) (by kernel_rfl) (fun _ _ _ h => h) (by rfl) (fun w hSw => by go_simp) hHeld ?_
  simp only [Act.put, List.setIfInBounds_toArray, List.set_cons_zero, List.set_cons_succ]
  refine wpAnyH_done (by kernel_rfl) ?_ _
  clear hHeld
  go_wp2_with fail
  go_ret
  exact HEND.out w2 _ n (by omega) X3.out

set_option linter.unusedSimpArgs false in
set_option maxHeartbeats 8000000 in
set_option maxRecDepth 100000 in
theorem step13_len {S : TrackApi} {n0 : Nat} {U V : World} {C : Nat → Prop} {g h : Nat} {t : Tk} {n : Nat} {o : Oy13} {W : World} (H : StIn S n0 U V C g h t n o W) (hk : o.kind = 4) :
    Calls Try.prog 12 #[.pointer (some ⟨g, 0, none⟩), .pointer (some ⟨h, 0, none⟩), .agg (encOt o).toArray] W fun e w' => StPost S n0 U V C g h n e w' := by
  obtain ⟨W1, hW1⟩ : ∃ W1, W.alloc (.cells (encOt o).toArray 37) = W1 := ⟨_, rfl⟩
  obtain ⟨M, hM⟩ : ∃ M, W.heap.size = M := ⟨_, rfl⟩
  obtain ⟨C', x1, hbx, hend⟩ := st_start H hW1
  rw [hM] at hbx
  have hfew : n ≤ 1400000000000 := by have := H.few; omega
  have X1 := hid x1
  have HEND := hid hend
  have HDI : Hid (∀ w' t1 t2 m, TwoT S n0 W1 C' g h t1 t2 m w' → DIn w' o.d) := fun w' t1 t2 m x => (hbx w' t1 t2 m x).2
  have HBX : Hid (∀ w' t1 t2 m, TwoT S n0 W1 C' g h t1 t2 m w' → w'.heap[M]? = some (.cells (encOt o).toArray 37 (0, 0))) := fun w' t1 t2 m x => (hbx w' t1 t2 m x).1
  clear H hend hbx x1
  obtain ⟨kd, sn, st, ou, ⟨kp, kc, ks, rp, rc, rs⟩, cp, cc, cs⟩ := o
  have HCE : Hid (∀ w' t1 t2 m, TwoT S n0 W1 C' g h t1 t2 m w' → w'.cell? ⟨M, 0, none⟩ = some (.int .i64 kd) ∧ w'.cell? ⟨M, 1, none⟩ = some (.int .u64 sn) ∧ w'.cell? ⟨M, 2, none⟩ = some (.int .u64 st) ∧ w'.cell? ⟨M, 3, none⟩ = some (.bool ou) ∧ w'.cell? ⟨M, 4, none⟩ = some (.slice kp ks.length kc) ∧ w'.cell? ⟨M, 5, none⟩ = some (.slice rp rs.length rc) ∧ w'.cell? ⟨M, 6, none⟩ = some (.slice cp cs.length cc)) := fun w' t1 t2 m x => by
    have e1 := HBX.out w' t1 t2 m x
    exact ⟨by rw [Lib.cell_of_heap e1]; rfl, by rw [Lib.cell_of_heap e1]; rfl, by rw [Lib.cell_of_heap e1]; rfl, by rw [Lib.cell_of_heap e1]; rfl, by rw [Lib.cell_of_heap e1]; rfl, by rw [Lib.cell_of_heap e1]; rfl, by rw [Lib.cell_of_heap e1]; rfl⟩
  have HDI' : Hid (∀ w' t1 t2 m, TwoT S n0 W1 C' g h t1 t2 m w' → DIn w' ⟨sn, st, ou, ⟨kp, kc, ks, rp, rc, rs⟩, cp, cc, cs⟩) := HDI.out
  obtain ⟨a0, a1, a2, a3, a4, a5, a6⟩ := HCE.out W1 _ _ _ X1.out
  clear HBX HDI
  have HC1 := hid (tt_len X1.out)
  have HC2 : Hid (∀ w', TwoT S n0 W1 C' g h t t n w' → Calls Try.prog 14 #[.pointer (some ⟨h, 0, none⟩)] w' fun e w2 => e = .returned (.int .i64 (t.kept.length : Nat)) ∧ Below w'.heap.size w' w2) := fun w' x => tt_rlen x hfew
  generalize t.kept.length = R1 at *
  simp only at hk
  subst hk
  simp only [encOt, encDx, Mx.ksl, Mx.rsl, Dx.csl] at *
  go_enter Try.func12, Try.ntmps12
  go_wp2_with fail
  try rw [hW1]
  try rw [hM]
  refine HC1.out.mono ?_
  rintro e w1 ⟨rfl, hb1⟩
  have X2 := hid (X1.out.on hb1)
  have HC3 := hid (HC2.out w1 X2.out)
  clear hb1 HC1 HC2
  go_wp2_with fail
  refine HC3.out.mono ?_
  rintro e w2 ⟨rfl, hb2⟩
  have X3 := hid (X2.out.on hb2)
  clear hb2 HC3
  go_wp2_with fail
  go_ret
  exact HEND.out w2 _ n (by omega) X3.out

set_option linter.unusedSimpArgs false in
set_option maxHeartbeats 8000000 in
set_option maxRecDepth 100000 in
theorem step13_sum {S : TrackApi} {n0 : Nat} {U V : World} {C : Nat → Prop} {g h : Nat} {t : Tk} {n : Nat} {o : Oy13} {W : World} (H : StIn S n0 U V C g h t n o W) (hk : o.kind = 5) :
    Calls Try.prog 12 #[.pointer (some ⟨g, 0, none⟩), .pointer (some ⟨h, 0, none⟩), .agg (encOt o).toArray] W fun e w' => StPost S n0 U V C g h n e w' := by
  obtain ⟨W1, hW1⟩ : ∃ W1, W.alloc (.cells (encOt o).toArray 37) = W1 := ⟨_, rfl⟩
  obtain ⟨M, hM⟩ : ∃ M, W.heap.size = M := ⟨_, rfl⟩
  obtain ⟨C', x1, hbx, hend⟩ := st_start H hW1
  rw [hM] at hbx
  have hfew : n ≤ 1400000000000 := by have := H.few; omega
  have X1 := hid x1
  have HEND := hid hend
  have HDI : Hid (∀ w' t1 t2 m, TwoT S n0 W1 C' g h t1 t2 m w' → DIn w' o.d) := fun w' t1 t2 m x => (hbx w' t1 t2 m x).2
  have HBX : Hid (∀ w' t1 t2 m, TwoT S n0 W1 C' g h t1 t2 m w' → w'.heap[M]? = some (.cells (encOt o).toArray 37 (0, 0))) := fun w' t1 t2 m x => (hbx w' t1 t2 m x).1
  clear H hend hbx x1
  obtain ⟨kd, sn, st, ou, ⟨kp, kc, ks, rp, rc, rs⟩, cp, cc, cs⟩ := o
  have HCE : Hid (∀ w' t1 t2 m, TwoT S n0 W1 C' g h t1 t2 m w' → w'.cell? ⟨M, 0, none⟩ = some (.int .i64 kd) ∧ w'.cell? ⟨M, 1, none⟩ = some (.int .u64 sn) ∧ w'.cell? ⟨M, 2, none⟩ = some (.int .u64 st) ∧ w'.cell? ⟨M, 3, none⟩ = some (.bool ou) ∧ w'.cell? ⟨M, 4, none⟩ = some (.slice kp ks.length kc) ∧ w'.cell? ⟨M, 5, none⟩ = some (.slice rp rs.length rc) ∧ w'.cell? ⟨M, 6, none⟩ = some (.slice cp cs.length cc)) := fun w' t1 t2 m x => by
    have e1 := HBX.out w' t1 t2 m x
    exact ⟨by rw [Lib.cell_of_heap e1]; rfl, by rw [Lib.cell_of_heap e1]; rfl, by rw [Lib.cell_of_heap e1]; rfl, by rw [Lib.cell_of_heap e1]; rfl, by rw [Lib.cell_of_heap e1]; rfl, by rw [Lib.cell_of_heap e1]; rfl, by rw [Lib.cell_of_heap e1]; rfl⟩
  have HDI' : Hid (∀ w' t1 t2 m, TwoT S n0 W1 C' g h t1 t2 m w' → DIn w' ⟨sn, st, ou, ⟨kp, kc, ks, rp, rc, rs⟩, cp, cc, cs⟩) := HDI.out
  obtain ⟨a0, a1, a2, a3, a4, a5, a6⟩ := HCE.out W1 _ _ _ X1.out
  clear HBX HDI
  have HC1 : Hid (∀ w', TwoT S n0 W1 C' g h t t n w' → Calls Try.prog 15 #[.pointer (some ⟨g, 0, none⟩)] w' fun e w2 => e = .returned (.int .u64 t.sum) ∧ Below w'.heap.size w' w2) := fun w' x => tt_sum x
  have HSU : Hid (∀ w', TwoT S n0 W1 C' g h t t n w' → w'.cell? ⟨h, 3, none⟩ = some (.int .u64 t.sum)) := fun w' x => x.rsum
  generalize t.sum = R1 at *
  simp only at hk
  subst hk
  simp only [encOt, encDx, Mx.ksl, Mx.rsl, Dx.csl] at *
  go_enter Try.func12, Try.ntmps12
  go_upto_region 13 with fail
  try rw [hW1]
  try rw [hM]
  clear a0 a1 a2 a3 a4 a5 a6 hW1
  have X1d := hid (X1.out.on (bel_drewN (Below.refl _ _) 1))
  refine wp_region_held_drew (S := fun w' => w'.cell? ⟨h, 3, none⟩ = some (.int .u64 R1)) (by kernel_rfl) (HSU.out W1.drew X1d.out) (fun hHeld => ?_)
  refine take_val (i := 0) (.pointer (some ⟨g, 0, none⟩)) rfl (by kernel_rfl) (by kernel_rfl) (by kernel_rfl) (fun _ _ _ h => h) (by rfl) (fun w hSw => by go_simp) hHeld ?_
  simp only [Act.put, List.setIfInBounds_toArray, List.set_cons_zero, List.set_cons_succ]
  refine take_val (i := 2) (.pointer (some ⟨h, 0, none⟩)) rfl (by kernel_rfl) (by kernel_rfl) (by kernel_rfl) (fun _ _ _ h => h) (by rfl) (fun w hSw => by go_simp) hHeld ?_
  simp only [Act.put, List.setIfInBounds_toArray, List.set_cons_zero, List.set_cons_succ]
  refine take_val (i := 3) (.pointer (some ⟨h, 0, none⟩)) rfl (by kernel_rfl) (by kernel_rfl) (by kernel_rfl) (fun _ _ _ h => h) (by rfl) (fun w hSw => by go_simp) hHeld ?_
  simp only [Act.put, List.setIfInBounds_toArray, List.set_cons_zero, List.set_cons_succ]
  refine take_val (i := 4) (.pointer (some ⟨h, 3, none⟩)) rfl (by kernel_rfl) (by kernel_rfl) (by kernel_rfl) (fun _ _ _ h => h) (by rfl) (fun w hSw => by go_simp) hHeld ?_
  simp only [Act.put, List.setIfInBounds_toArray, List.set_cons_zero, List.set_cons_succ]
  refine take_val (i := 5) (.int .u64 R1) rfl (by kernel_rfl) (by kernel_rfl) (by kernel_rfl) (fun _ _ _ h => h) (by rfl) (fun w hSw => by go_simp) hHeld ?_
  simp only [Act.put, List.setIfInBounds_toArray, List.set_cons_zero, List.set_cons_succ]
  clear hHeld
  have HC2 := hid (HC1.out W1.drew X1d.out)
  refine wpAnyH_ready (rs := [1]) (by kernel_rfl) (by simp) ?_
  refine AllReadyH.cons (at_drop0 rfl) (fun K hK => ?_) AllReadyH.nil
  rw [if_pos (by rfl)]
  go_simp
  refine HC2.out.mono ?_
  rintro e w1 ⟨rfl, hb1⟩
  have X2 := hid (X1d.out.on hb1)
  clear hb1 HC1 HC2
  go_wp2_with fail
  refine hK.out _ _ ((HSU.out w1 X2.out)) (fun hHeld => ?_)
  clear hK K
  try simp only [Act.put, List.setIfInBounds_toArray, List.set_cons_zero, List.set_cons_succ]
  refine take_val (i := 6) (.bool true) rfl (by kernel_rfl) (by kernel_rfl) (by kernel_rfl) (fun _ _ _ h => h) (by rfl) (fun w hSw => by go_simp) hHeld ?_
  simp only [Act.put, List.setIfInBounds_toArray, List.set_cons_zero, List.set_cons_succ]
  refine take_val (i := 7) (.bool true) rfl (by kernel_rfl) (by kernel_rfl) (by kernel_rfl) (fun _ _ _ h => h) (by rfl) (fun w hSw => by go_simp) hHeld ?_
  simp only [Act.put, List.setIfInBounds_toArray, List.set_cons_zero, List.set_cons_succ]
  refine wpAnyH_done (by kernel_rfl) ?_ _
  clear hHeld
  go_wp2_with fail
  go_ret
  exact HEND.out w1 _ n (by omega) X2.out

set_option linter.unusedSimpArgs false in
set_option maxHeartbeats 8000000 in
set_option maxRecDepth 100000 in
theorem step13_list {S : TrackApi} {n0 : Nat} {U V : World} {C : Nat → Prop} {g h : Nat} {t : Tk} {n : Nat} {o : Oy13} {W : World} (H : StIn S n0 U V C g h t n o W) (hk : o.kind = 6) :
    Calls Try.prog 12 #[.pointer (some ⟨g, 0, none⟩), .pointer (some ⟨h, 0, none⟩), .agg (encOt o).toArray] W fun e w' => StPost S n0 U V C g h n e w' := by
  obtain ⟨W1, hW1⟩ : ∃ W1, W.alloc (.cells (encOt o).toArray 37) = W1 := ⟨_, rfl⟩
  obtain ⟨M, hM⟩ : ∃ M, W.heap.size = M := ⟨_, rfl⟩
  obtain ⟨C', x1, hbx, hend⟩ := st_start H hW1
  rw [hM] at hbx
  have hfew : n ≤ 1400000000000 := by have := H.few; omega
  have X1 := hid x1
  have HEND := hid hend
  have HDI : Hid (∀ w' t1 t2 m, TwoT S n0 W1 C' g h t1 t2 m w' → DIn w' o.d) := fun w' t1 t2 m x => (hbx w' t1 t2 m x).2
  have HBX : Hid (∀ w' t1 t2 m, TwoT S n0 W1 C' g h t1 t2 m w' → w'.heap[M]? = some (.cells (encOt o).toArray 37 (0, 0))) := fun w' t1 t2 m x => (hbx w' t1 t2 m x).1
  clear H hend hbx x1
  obtain ⟨kd, sn, st, ou, ⟨kp, kc, ks, rp, rc, rs⟩, cp, cc, cs⟩ := o
  have HCE : Hid (∀ w' t1 t2 m, TwoT S n0 W1 C' g h t1 t2 m w' → w'.cell? ⟨M, 0, none⟩ = some (.int .i64 kd) ∧ w'.cell? ⟨M, 1, none⟩ = some (.int .u64 sn) ∧ w'.cell? ⟨M, 2, none⟩ = some (.int .u64 st) ∧ w'.cell? ⟨M, 3, none⟩ = some (.bool ou) ∧ w'.cell? ⟨M, 4, none⟩ = some (.slice kp ks.length kc) ∧ w'.cell? ⟨M, 5, none⟩ = some (.slice rp rs.length rc) ∧ w'.cell? ⟨M, 6, none⟩ = some (.slice cp cs.length cc)) := fun w' t1 t2 m x => by
    have e1 := HBX.out w' t1 t2 m x
    exact ⟨by rw [Lib.cell_of_heap e1]; rfl, by rw [Lib.cell_of_heap e1]; rfl, by rw [Lib.cell_of_heap e1]; rfl, by rw [Lib.cell_of_heap e1]; rfl, by rw [Lib.cell_of_heap e1]; rfl, by rw [Lib.cell_of_heap e1]; rfl, by rw [Lib.cell_of_heap e1]; rfl⟩
  have HDI' : Hid (∀ w' t1 t2 m, TwoT S n0 W1 C' g h t1 t2 m w' → DIn w' ⟨sn, st, ou, ⟨kp, kc, ks, rp, rc, rs⟩, cp, cc, cs⟩) := HDI.out
  obtain ⟨a0, a1, a2, a3, a4, a5, a6⟩ := HCE.out W1 _ _ _ X1.out
  clear HBX HDI
  have HC1 := hid (tt_list X1.out)
  have HC2 : Hid (∀ w', TwoT S n0 W1 C' g h t t n w' → Calls Try.prog 18 #[.pointer (some ⟨h, 0, none⟩)] w' fun e w2 => (∃ p c es, e = .returned (.slice p es.length c) ∧ KDx.Is w2 (.slice p es.length c) es ∧ (∀ d ∈ es, DRd w2 d) ∧ es.map Dx.dn = t.kept) ∧ Below w'.heap.size w' w2) := fun w' x => tt_rlist x hfew
  simp only at hk
  subst hk
  simp only [encOt, encDx, Mx.ksl, Mx.rsl, Dx.csl] at *
  go_enter Try.func12, Try.ntmps12
  go_wp2_with fail
  try rw [hW1]
  try rw [hM]
  refine HC1.out.mono ?_
  rintro e w1 hp1
  obtain ⟨⟨p1, c1, ds1, rfl, hi1, hr1, hm1⟩, hb1⟩ := list_rd hp1
  have X2 := hid (X1.out.on hb1)
  have HC3 := hid (HC2.out w1 X2.out)
  have HI1 := hid hi1
  have HR1 := hid hr1
  have HM1 := hid hm1
  clear hb1 HC1 HC2 hi1 hr1 hm1 hp1
  go_wp2_with fail
  refine HC3.out.mono ?_
  rintro e w2 ⟨⟨p2, c2, ds2, rfl, hi2, hr2, hm2⟩, hb2⟩
  have X3 := hid (X2.out.on hb2)
  have hfl : ds1.length ≤ 9000000000000000000 := by
    have h1 := congrArg List.length (HM1.out.trans hm2.symm)
    rw [List.length_map, List.length_map] at h1
    have h2 := congrArg List.length hm2
    rw [List.length_map] at h2
    have h3 := X1.out.kept
    omega
  have HC4 := hid (same13_yes (.slice p1 ds1.length c1) (.slice p2 ds2.length c2) ds1 ds2 w2 (Kind.is_kept HI1.out hb2) hi2 (fun x hx => (HR1.out x hx).on hb2) hr2 hfl (HM1.out.trans hm2.symm))
  clear hb2 HC3 hi2 hr2 hm2 hfl
  go_wp2_with fail
  refine HC4.out.mono ?_
  rintro e w3 ⟨rfl, hb3⟩
  have X4 := hid (X3.out.on hb3)
  clear hb3 HC4
  go_wp2_with fail
  go_ret
  exact HEND.out w3 _ n (by omega) X4.out

set_option linter.unusedSimpArgs false in
set_option maxHeartbeats 8000000 in
set_option maxRecDepth 100000 in
theorem step13_else {S : TrackApi} {n0 : Nat} {U V : World} {C : Nat → Prop} {g h : Nat} {t : Tk} {n : Nat} {o : Oy13} {W : World} (H : StIn S n0 U V C g h t n o W) (hk : ¬ (1 ≤ o.kind ∧ o.kind ≤ 6)) :
    Calls Try.prog 12 #[.pointer (some ⟨g, 0, none⟩), .pointer (some ⟨h, 0, none⟩), .agg (encOt o).toArray] W fun e w' => StPost S n0 U V C g h n e w' := by
  obtain ⟨W1, hW1⟩ : ∃ W1, W.alloc (.cells (encOt o).toArray 37) = W1 := ⟨_, rfl⟩
  obtain ⟨M, hM⟩ : ∃ M, W.heap.size = M := ⟨_, rfl⟩
  obtain ⟨C', x1, hbx, hend⟩ := st_start H hW1
  rw [hM] at hbx
  have hfew : n ≤ 1400000000000 := by have := H.few; omega
  have X1 := hid x1
  have HEND := hid hend
  have HDI : Hid (∀ w' t1 t2 m, TwoT S n0 W1 C' g h t1 t2 m w' → DIn w' o.d) := fun w' t1 t2 m x => (hbx w' t1 t2 m x).2
  have HBX : Hid (∀ w' t1 t2 m, TwoT S n0 W1 C' g h t1 t2 m w' → w'.heap[M]? = some (.cells (encOt o).toArray 37 (0, 0))) := fun w' t1 t2 m x => (hbx w' t1 t2 m x).1
  clear H hend hbx x1
  obtain ⟨kd, sn, st, ou, ⟨kp, kc, ks, rp, rc, rs⟩, cp, cc, cs⟩ := o
  have HCE : Hid (∀ w' t1 t2 m, TwoT S n0 W1 C' g h t1 t2 m w' → w'.cell? ⟨M, 0, none⟩ = some (.int .i64 kd) ∧ w'.cell? ⟨M, 1, none⟩ = some (.int .u64 sn) ∧ w'.cell? ⟨M, 2, none⟩ = some (.int .u64 st) ∧ w'.cell? ⟨M, 3, none⟩ = some (.bool ou) ∧ w'.cell? ⟨M, 4, none⟩ = some (.slice kp ks.length kc) ∧ w'.cell? ⟨M, 5, none⟩ = some (.slice rp rs.length rc) ∧ w'.cell? ⟨M, 6, none⟩ = some (.slice cp cs.length cc)) := fun w' t1 t2 m x => by
    have e1 := HBX.out w' t1 t2 m x
    exact ⟨by rw [Lib.cell_of_heap e1]; rfl, by rw [Lib.cell_of_heap e1]; rfl, by rw [Lib.cell_of_heap e1]; rfl, by rw [Lib.cell_of_heap e1]; rfl, by rw [Lib.cell_of_heap e1]; rfl, by rw [Lib.cell_of_heap e1]; rfl, by rw [Lib.cell_of_heap e1]; rfl⟩
  have HDI' : Hid (∀ w' t1 t2 m, TwoT S n0 W1 C' g h t1 t2 m w' → DIn w' ⟨sn, st, ou, ⟨kp, kc, ks, rp, rc, rs⟩, cp, cc, cs⟩) := HDI.out
  obtain ⟨a0, a1, a2, a3, a4, a5, a6⟩ := HCE.out W1 _ _ _ X1.out
  clear HBX HDI
  have k1 : (kd == 1) = false := by simp; simp only at hk; omega
  have k2 : (kd == 2) = false := by simp; simp only at hk; omega
  have k3 : (kd == 3) = false := by simp; simp only at hk; omega
  have k4 : (kd == 4) = false := by simp; simp only at hk; omega
  have k5 : (kd == 5) = false := by simp; simp only at hk; omega
  have k6 : (kd == 6) = false := by simp; simp only at hk; omega
  clear hk
  simp only [encOt, encDx, Mx.ksl, Mx.rsl, Dx.csl] at *
  go_enter Try.func12, Try.ntmps12
  go_wp2_with fail
  try rw [hW1]
  go_ret
  exact HEND.out W1 _ n (by omega) X1.out

theorem step13_any {S : TrackApi} {n0 : Nat} {U V : World} {C : Nat → Prop} {g h : Nat} {t : Tk} {n : Nat} {o : Oy13} {W : World} (H : StIn S n0 U V C g h t n o W) :
    Calls Try.prog 12 #[.pointer (some ⟨g, 0, none⟩), .pointer (some ⟨h, 0, none⟩), .agg (encOt o).toArray] W fun e w' => StPost S n0 U V C g h n e w' := by
  by_cases hk : 1 ≤ o.kind ∧ o.kind ≤ 6
  · rcases (by omega : o.kind = 1 ∨ o.kind = 2 ∨ o.kind = 3 ∨ o.kind = 4 ∨ o.kind = 5 ∨ o.kind = 6) with h | h | h | h | h | h
    · exact step13_check H h
    · exact step13_add H h
    · exact step13_drop H h
    · exact step13_len H h
    · exact step13_sum H h
    · exact step13_list H h
  · exact step13_else H hk

end Go.Proofs.Ytmihddbnddgfhaa

/-
  TrackKeeps (stage 13): a done one that is being wiped: only its own blocks turn. No walk.
-/
namespace Go.Proofs.Ytmihddbnddgfhaa
open Go.RowKit

/-- Some row of n elements of k cells each lies there. -/
def RowE (N : Nat) (w : World) (T : TypeId) (k : Nat) (v : Value) (n : Nat) : Prop := ∃ xs, w.ownsRow N T k v n xs

theorem RowE.set {N : Nat} {w : World} {T : TypeId} {k n : Nat} {v : Value} (h : RowE N w T k v n) (a t : Nat) (x : Value) : RowE N (w.setCell ⟨a, t, none⟩ x) T k v n := by
  obtain ⟨xs, hl, h⟩ := h
  rcases h with ⟨h1, h2⟩ | ⟨g, cap, cur, hv, hb, hg, h1, h2, hc, ht⟩
  · exact ⟨xs, hl, Or.inl ⟨h1, h2⟩⟩
  · by_cases e : g = a
    · subst e
      have hs : (w.setCell ⟨g, t, none⟩ x).heap[g]? = some (.cells (cur.setIfInBounds t x) T (0, 0)) := heap_setCell_same w g t _ _ _ hg
      refine ⟨((cur.setIfInBounds t x).toList.take (n * k)), ?_, Or.inr ⟨g, cap, _, hv, hb, hs, h1, h2, by rw [Array.size_setIfInBounds]; exact hc, rfl⟩⟩
      rw [List.length_take, Array.length_toList, Array.size_setIfInBounds, hc]
      exact Nat.min_eq_left (Nat.mul_le_mul_right _ h1)
    · exact ⟨xs, hl, Or.inr ⟨g, cap, cur, hv, hb, (heap_setCell_other w _ g _ e).trans hg, h1, h2, hc, ht⟩⟩
theorem RowE.on {N : Nat} {w w' : World} {T : TypeId} {k n : Nat} {v : Value} (h : RowE N w T k v n) (hb : Below w.heap.size w w') : RowE N w' T k v n := by
  obtain ⟨xs, h⟩ := h
  exact ⟨xs, own_on h hb⟩
theorem RowE.of {α : Type} {K : Kind α} {N : Nat} {w : World} {v : Value} {l : List α} (h : K.Own N w v l) : RowE N w K.T K.k v l.length := ⟨_, h⟩
/-- Where it lies, and that it can be read and written. -/
theorem RowE.form {N : Nat} {w : World} {T : TypeId} {k n c : Nat} {p : Option Addr} (h : RowE N w T k (.slice p n c) n) (hn : 0 < n) : ∃ g cs, p = some ⟨g, 0, none⟩ ∧ w.heap[g]? = some (.cells cs T (0, 0)) ∧ N ≤ g ∧ (∀ t, t < n * k → ∃ z, w.cell? ⟨g, t, none⟩ = some z) ∧ ∀ t, w.frozen? ⟨g, t, none⟩ = false := by
  obtain ⟨xs, hl, h⟩ := h
  rcases h with ⟨h1, h2⟩ | ⟨g, cap, cur, hv, hb, hg, h1, h2, hc, ht⟩
  · omega
  · injection hv with e1 e2 e3
    refine ⟨g, cur, e1, hg, hb, fun t htt => ?_, fun t => Lib.frozen_of_heap hg t⟩
    have hlt : t < cur.size := by rw [hc]; exact Nat.lt_of_lt_of_le htt (Nat.mul_le_mul_right _ h1)
    exact ⟨cur[t], by rw [Lib.cell_of_heap hg]; exact Array.getElem?_eq_getElem hlt⟩
theorem RowE.blk {N : Nat} {w : World} {T : TypeId} {k n : Nat} {v : Value} (h : RowE N w T k v n) (b : Nat) (hb : v.ownBlock = some b) : ∃ cs, w.heap[b]? = some (.cells cs T (0, 0)) := by
  obtain ⟨xs, h⟩ := h
  exact own_type h hb

/-- The cell t of the slice at p holds v. -/
def SlotAt (w : World) (p : Option Addr) (t : Nat) (v : Value) : Prop := ∃ g, p = some ⟨g, 0, none⟩ ∧ w.cell? ⟨g, t, none⟩ = some v

/-- A done one that is being wiped, from Wr on; of its changes those from k on are as they were. -/
structure WpD (d : Dx) (Wr : World) (n O k : Nat) (w : World) : Prop where
  fr : Fr (BlkD13 d) Wr w
  low : Wr.heap.size ≤ O
  box : w.heap[O]? = some (.cells (encDx d).toArray 35 (0, 0))
  keys : RowE n w 67 2 d.m.ksl d.m.ks.length
  rng : RowE n w 85 2 d.m.rsl d.m.rs.length
  trm : ∀ r ∈ d.m.rs, RowE n w 87 3 r.sl r.tm.length
  chg : RowE n w 70 6 d.csl d.cs.length
  fld : ∀ c ∈ d.cs, RowE n w 90 2 (.slice c.ip c.io.length c.ic) c.io.length
  rsl : ∀ i (h : i < d.m.rs.length), SlotAt w d.m.rp (i * 2 + 1) (d.m.rs[i]).sl
  isl : ∀ j (h : j < d.cs.length), k ≤ j → SlotAt w d.cp (j * 6 + 5) (.slice (d.cs[j]).ip (d.cs[j]).io.length (d.cs[j]).ic)

section
variable {d : Dx} {Wr : World} {n O k : Nat} {w : World}
theorem WpD.mono {k' : Nat} (h : WpD d Wr n O k w) (hk : k ≤ k') : WpD d Wr n O k' w := ⟨h.fr, h.low, h.box, h.keys, h.rng, h.trm, h.chg, h.fld, h.rsl, fun j hj hk' => h.isl j hj (by omega)⟩
theorem WpD.start (h : DOwn n Wr d) (hw : Below Wr.heap.size Wr w) (hl : Wr.heap.size ≤ O) (hb : w.heap[O]? = some (.cells (encDx d).toArray 35 (0, 0))) : WpD d Wr n O 0 w := by
  refine ⟨Fr.of_below hw, hl, hb, (RowE.of h.mrk.keys).on hw, (RowE.of h.mrk.rows).on hw, fun r hr => (RowE.of (h.mrk.each r hr).1).on hw, (RowE.of h.row).on hw, fun c hc => RowE.on ⟨_, (h.each c hc).is.1.1⟩ hw, fun i hi => ?_, fun j hj _ => ?_⟩
  · obtain ⟨p, c, e, hd⟩ := Kind.is_kept (Kind.own_is h.mrk.rows) hw
    injection e with e1 _ _
    rcases hd with hd | ⟨g, off, e2, hat⟩
    · rw [hd] at hi; simp at hi
    · obtain ⟨g', _, e3, _⟩ := RowE.form (c := d.m.rc) (RowE.of h.mrk.rows) (show 0 < d.m.rs.length by omega)
      have e4 : d.m.rp = some ⟨g, off, none⟩ := e1.trans e2
      rw [e3] at e4
      injection e4 with e4
      injection e4 with e5 e6 _
      subst e5 e6
      refine ⟨g', e3, ?_⟩
      have := (krx_at hat i hi).2
      rwa [Nat.zero_add] at this
  · obtain ⟨p, c, e, hd⟩ := Kind.is_kept (Kind.own_is h.row) hw
    injection e with e1 _ _
    rcases hd with hd | ⟨g, off, e2, hat⟩
    · rw [hd] at hj; simp at hj
    · obtain ⟨g', _, e3, _⟩ := RowE.form (c := d.cc) (RowE.of h.row) (show 0 < d.cs.length by omega)
      have e4 : d.cp = some ⟨g, off, none⟩ := e1.trans e2
      rw [e3] at e4
      injection e4 with e4
      injection e4 with e5 e6 _
      subst e5 e6
      refine ⟨g', e3, ?_⟩
      have := (kcx_at hat j hj).2.2.2.2.2
      rwa [Nat.zero_add] at this

theorem slot_set {p : Option Addr} {t : Nat} {v : Value} (h : SlotAt w p t v) (a t' : Nat) (x : Value) (hne : ∀ g, p = some ⟨g, 0, none⟩ → ¬ (g = a ∧ t = t')) : SlotAt (w.setCell ⟨a, t', none⟩ x) p t v := by
  obtain ⟨g, hp, hc⟩ := h
  refine ⟨g, hp, ?_⟩
  rw [World.cell?_setCell_other]
  · exact hc
  · intro e
    injection e with e1 e2 _
    exact hne g hp ⟨e1.symm, e2.symm⟩

/-- One cell written over. -/
theorem WpD.set (h : WpD d Wr n O k w) {a : Nat} {cs : Array Value} {T : TypeId} (ha : w.heap[a]? = some (.cells cs T (0, 0))) (hblk : BlkD13 d a) (hT : T ≠ 35) (t : Nat) (x : Value) (h1 : T = 85 → t % 2 = 0) (h2 : T = 70 → t < k * 6) : WpD d Wr n O k (w.setCell ⟨a, t, none⟩ x) := by
  have f : Fr (fun b => b = a) w (w.setCell ⟨a, t, none⟩ x) := ⟨rfl, rfl, rfl, by simp, fun k _ hn => heap_setCell_other _ _ k _ hn⟩
  have hty : ∀ {g : Nat} {c' : Array Value} {T' : TypeId}, w.heap[g]? = some (.cells c' T' (0, 0)) → g = a → T' = T := fun {g c' T'} hg e => by
    subst e
    rw [ha] at hg
    injection hg with hg
    injection hg with _ hg
    exact hg.symm
  refine ⟨h.fr.then f fun k hk => Or.inl (by rw [hk]; exact hblk), h.low, (f.block O (Array.getElem?_eq_some_iff.1 h.box).1 fun e => hT (hty h.box e).symm).trans h.box, h.keys.set a t x, h.rng.set a t x, fun r hr => (h.trm r hr).set a t x, h.chg.set a t x, fun c hc => (h.fld c hc).set a t x, fun i hi => slot_set (h.rsl i hi) a t x fun g hp e => ?_, fun j hj hk => slot_set (h.isl j hj hk) a t x fun g hp e => ?_⟩
  · obtain ⟨c', hc'⟩ := h.rng.blk g (by show Value.ownBlock (.slice d.m.rp _ _) = _; rw [hp]; rfl)
    have := h1 (hty hc' e.1).symm
    have := e.2
    omega
  · obtain ⟨c', hc'⟩ := h.chg.blk g (by show Value.ownBlock (.slice d.cp _ _) = _; rw [hp]; rfl)
    have := h2 (hty hc' e.1).symm
    have := e.2
    omega

/-- Cells written over, one behind the other. -/
def setsD (w : World) (a : Nat) : Nat → List Value → World
  | _, [] => w
  | t, x :: xs => setsD (w.setCell ⟨a, t, none⟩ x) a (t + 1) xs
theorem WpD.sets {a : Nat} {T : TypeId} (hblk : BlkD13 d a) (hT : T ≠ 35) (hR : T ≠ 85) : ∀ (xs : List Value) (t : Nat) (w : World) (cs : Array Value), WpD d Wr n O k w → w.heap[a]? = some (.cells cs T (0, 0)) → (T = 70 → t + xs.length ≤ k * 6) → WpD d Wr n O k (setsD w a t xs)
  | [], _, _, _, h, _, _ => h
  | x :: xs, t, w, cs, h, ha, h2 => by
    have h3 : T = 70 → t + (xs.length + 1) ≤ k * 6 := h2
    refine WpD.sets hblk hT hR xs (t + 1) _ _ (h.set ha hblk hT t x (fun e => absurd e hR) fun e => by have := h3 e; omega) (heap_setCell_same w a t _ _ _ ha) fun e => by have := h3 e; omega
theorem WpD.cells (h : WpD d Wr n O k w) : w.cell? ⟨O, 3, none⟩ = some d.m.ksl ∧ w.cell? ⟨O, 4, none⟩ = some d.m.rsl ∧ w.cell? ⟨O, 5, none⟩ = some d.csl := ⟨by rw [Lib.cell_of_heap h.box]; rfl, by rw [Lib.cell_of_heap h.box]; rfl, by rw [Lib.cell_of_heap h.box]; rfl⟩

/-- Where a key lies, and what is left when it is written over. -/
theorem WpD.kform (h : WpD d Wr n O k w) (i : Nat) (hi : i < d.m.ks.length) : ∃ g, d.m.kp = some ⟨g, 0, none⟩ ∧ ((∃ z, w.cell? ⟨g, i * 2, none⟩ = some z) ∧ (∃ z, w.cell? ⟨g, i * 2 + 1, none⟩ = some z)) ∧ (w.frozen? ⟨g, i * 2, none⟩ = false ∧ w.frozen? ⟨g, i * 2 + 1, none⟩ = false) ∧ ∀ x y, WpD d Wr n O k ((w.setCell ⟨g, i * 2, none⟩ x).setCell ⟨g, i * 2 + 1, none⟩ y) := by
  obtain ⟨g, cs, e, hg, _, hc, hf⟩ := RowE.form (p := d.m.kp) (n := d.m.ks.length) (c := d.m.kc) h.keys (by omega)
  exact ⟨g, e, ⟨hc _ (by omega), hc _ (by omega)⟩, ⟨hf _, hf _⟩, fun x y => WpD.sets (Or.inl (by show Value.ownBlock (.slice d.m.kp _ _) = _; rw [e]; rfl)) (by decide) (by decide) [x, y] (i * 2) w cs h hg fun e => absurd e (by decide)⟩
/-- Where a range lies. -/
theorem WpD.rform (h : WpD d Wr n O k w) (i : Nat) (hi : i < d.m.rs.length) : ∃ g, d.m.rp = some ⟨g, 0, none⟩ ∧ (∃ z, w.cell? ⟨g, i * 2, none⟩ = some z) ∧ w.cell? ⟨g, i * 2 + 1, none⟩ = some (d.m.rs[i]).sl ∧ w.frozen? ⟨g, i * 2, none⟩ = false ∧ ∀ x, WpD d Wr n O k (w.setCell ⟨g, i * 2, none⟩ x) := by
  obtain ⟨g, cs, e, hg, _, hc, hf⟩ := RowE.form (p := d.m.rp) (n := d.m.rs.length) (c := d.m.rc) h.rng (by omega)
  obtain ⟨g', e', hs⟩ := h.rsl i hi
  obtain rfl : g' = g := by rw [e] at e'; injection e' with e'; injection e' with e' _ _; exact e'.symm
  exact ⟨g', e, hc _ (by omega), hs, hf _, fun x => h.set hg (Or.inr (Or.inl (by show Value.ownBlock (.slice d.m.rp _ _) = _; rw [e]; rfl))) (by decide) (i * 2) x (fun _ => by omega) fun e => absurd e (by decide)⟩
/-- Where a term lies. -/
theorem WpD.tform (h : WpD d Wr n O k w) (i : Nat) (hi : i < d.m.rs.length) (j : Nat) (hj : j < (d.m.rs[i]).tm.length) : ∃ g, (d.m.rs[i]).p = some ⟨g, 0, none⟩ ∧ ((∃ z, w.cell? ⟨g, j * 3, none⟩ = some z) ∧ (∃ z, w.cell? ⟨g, j * 3 + 1, none⟩ = some z) ∧ (∃ z, w.cell? ⟨g, j * 3 + 2, none⟩ = some z)) ∧ (w.frozen? ⟨g, j * 3, none⟩ = false ∧ w.frozen? ⟨g, j * 3 + 1, none⟩ = false ∧ w.frozen? ⟨g, j * 3 + 2, none⟩ = false) ∧ ∀ x y z, WpD d Wr n O k (((w.setCell ⟨g, j * 3, none⟩ x).setCell ⟨g, j * 3 + 1, none⟩ y).setCell ⟨g, j * 3 + 2, none⟩ z) := by
  have hm : d.m.rs[i] ∈ d.m.rs := List.getElem_mem hi
  obtain ⟨g, cs, e, hg, _, hc, hf⟩ := RowE.form (p := (d.m.rs[i]).p) (n := (d.m.rs[i]).tm.length) (c := (d.m.rs[i]).cap) (h.trm _ hm) (by omega)
  exact ⟨g, e, ⟨hc _ (by omega), hc _ (by omega), hc _ (by omega)⟩, ⟨hf _, hf _, hf _⟩, fun x y z => WpD.sets (Or.inr (Or.inr (Or.inl ⟨_, hm, by show Value.ownBlock (.slice (d.m.rs[i]).p _ _) = _; rw [e]; rfl⟩))) (by decide) (by decide) [x, y, z] (j * 3) w cs h hg fun e => absurd e (by decide)⟩
/-- Where a change lies. -/
theorem WpD.cform (h : WpD d Wr n O k w) (i : Nat) (hi : i < d.cs.length) (hk : k ≤ i) : ∃ g, d.cp = some ⟨g, 0, none⟩ ∧ w.cell? ⟨g, i * 6 + 5, none⟩ = some (.slice (d.cs[i]).ip (d.cs[i]).io.length (d.cs[i]).ic) ∧ ((∃ z, w.cell? ⟨g, i * 6, none⟩ = some z) ∧ (∃ z, w.cell? ⟨g, i * 6 + 1, none⟩ = some z) ∧ (∃ z, w.cell? ⟨g, i * 6 + 2, none⟩ = some z) ∧ (∃ z, w.cell? ⟨g, i * 6 + 3, none⟩ = some z) ∧ (∃ z, w.cell? ⟨g, i * 6 + 4, none⟩ = some z)) ∧ (∀ t, w.frozen? ⟨g, t, none⟩ = false) ∧ ∀ x0 x1 x2 x3 x4 x5, WpD d Wr n O (i + 1) ((((((w.setCell ⟨g, i * 6, none⟩ x0).setCell ⟨g, i * 6 + 1, none⟩ x1).setCell ⟨g, i * 6 + 2, none⟩ x2).setCell ⟨g, i * 6 + 3, none⟩ x3).setCell ⟨g, i * 6 + 4, none⟩ x4).setCell ⟨g, i * 6 + 5, none⟩ x5) := by
  obtain ⟨g, cs, e, hg, _, hc, hf⟩ := RowE.form (p := d.cp) (n := d.cs.length) (c := d.cc) h.chg (by omega)
  obtain ⟨g', e', hs⟩ := h.isl i hi hk
  obtain rfl : g' = g := by rw [e] at e'; injection e' with e'; injection e' with e' _ _; exact e'.symm
  exact ⟨g', e, hs, ⟨hc _ (by omega), hc _ (by omega), hc _ (by omega), hc _ (by omega), hc _ (by omega)⟩, hf, fun x0 x1 x2 x3 x4 x5 => WpD.sets (k := i + 1) (Or.inr (Or.inr (Or.inr (Or.inl (by show Value.ownBlock (.slice d.cp _ _) = _; rw [e]; rfl))))) (by decide) (by decide) [x0, x1, x2, x3, x4, x5] (i * 6) w cs (h.mono (by omega)) hg fun _ => by show i * 6 + 6 ≤ _; omega⟩
/-- Where a field lies. -/
theorem WpD.fform (h : WpD d Wr n O k w) (i : Nat) (hi : i < d.cs.length) (j : Nat) (hj : j < (d.cs[i]).io.length) : ∃ g, (d.cs[i]).ip = some ⟨g, 0, none⟩ ∧ ((∃ z, w.cell? ⟨g, j * 2, none⟩ = some z) ∧ (∃ z, w.cell? ⟨g, j * 2 + 1, none⟩ = some z)) ∧ (w.frozen? ⟨g, j * 2, none⟩ = false ∧ w.frozen? ⟨g, j * 2 + 1, none⟩ = false) ∧ ∀ x y, WpD d Wr n O k ((w.setCell ⟨g, j * 2, none⟩ x).setCell ⟨g, j * 2 + 1, none⟩ y) := by
  have hm : d.cs[i] ∈ d.cs := List.getElem_mem hi
  obtain ⟨g, cs, e, hg, _, hc, hf⟩ := RowE.form (p := (d.cs[i]).ip) (n := (d.cs[i]).io.length) (c := (d.cs[i]).ic) (h.fld _ hm) (by omega)
  exact ⟨g, e, ⟨hc _ (by omega), hc _ (by omega)⟩, ⟨hf _, hf _⟩, fun x y => WpD.sets (Or.inr (Or.inr (Or.inr (Or.inr ⟨_, hm, Or.inr (Or.inl (by show Value.ownBlock (.slice (d.cs[i]).ip _ _) = _; rw [e]; rfl))⟩)))) (by decide) (by decide) [x, y] (j * 2) w cs h hg fun e => absurd e (by decide)⟩
end

end Go.Proofs.Ytmihddbnddgfhaa

/-
  TrackKeeps (stage 13): wipe.
-/
namespace Go.Proofs.Ytmihddbnddgfhaa
open Go.RowKit

set_option linter.unusedSimpArgs false in
set_option maxHeartbeats 16000000 in
set_option maxRecDepth 100000 in
theorem wipe13_any (d : Dx) (n : Nat) (Wr : World) (hd : DOwn n Wr d) (hz : SzD d.m d.cs) :
    Calls Try.prog 26 #[.agg (encDx d).toArray] Wr fun e w' => e = .returned (.tuple #[]) ∧ Fr (BlkD13 d) Wr w' := by
  obtain ⟨V, hV⟩ : ∃ V, Wr.alloc (.cells (encDx d).toArray 35) = V := ⟨_, rfl⟩
  obtain ⟨O, hO⟩ : ∃ O, Wr.heap.size = O := ⟨_, rfl⟩
  have hbV : Below Wr.heap.size Wr V := by rw [← hV]; exact (Below.refl _ _).alloc (Nat.le_refl _) _
  have hVo : V.heap[O]? = some (.cells (encDx d).toArray 35 (0, 0)) := by rw [← hV, ← hO]; exact heap_alloc_new Wr _
  have HW0 : Hid (WpD d Wr n O 0 V) := WpD.start hd hbV (Nat.le_of_eq hO) hVo
  have z1 := hz.keys
  have z2 := hz.rows
  have HZT : Hid (∀ r ∈ d.m.rs, r.tm.length ≤ 3518437208780) := hz.terms
  have z3 := hz.chg
  have HZC : Hid (∀ c ∈ d.cs, c.io.length ≤ 3518437208883) := fun c hc => by have := (hz.copy c hc).2.1; omega
  clear hd hz hbV hVo
  obtain ⟨sn, st, ou, ⟨kp, kc, ks, rp, rc, rs⟩, cp, cc, cs⟩ := d
  obtain ⟨c3, c4, c5⟩ := HW0.out.cells
  simp only [encDx, Mx.ksl, Mx.rsl, Dx.csl] at *
  go_enter Try.func26, Try.ntmps26
  go_wp2_with fail
  try rw [hV]
  try rw [hO]
  clear hV hO c3 c4 c5
  go_loopg [11] ks.length (fun gg vi wr => ∃ i : Nat, vi = .int .i64 i ∧ i ≤ ks.length ∧ ks.length - i ≤ gg ∧ Hid (WpD ⟨sn, st, ou, ⟨kp, kc, ks, rp, rc, rs⟩, cp, cc, cs⟩ Wr n O 0 wr))
  case atStart => exact ⟨0, rfl, by omega, by omega, HW0.out⟩
  case round =>
    clear HW0
    obtain ⟨i, rfl, hi, hgi, HI⟩ := hrel
    obtain ⟨c3, c4, c5⟩ := HI.out.cells
    simp only [Mx.ksl, Mx.rsl, Dx.csl] at c3 c4 c5
    by_cases hlt : i < ks.length
    · have hiz : (i : Int) < (ks.length : Int) := by omega
      have hi0 : (0 : Int) ≤ i := by omega
      obtain ⟨g, hg, ⟨⟨zz0, k0⟩, ⟨zz1, k1⟩⟩, ⟨l0, l1⟩, hset⟩ := HI.out.kform i hlt
      simp only at hg
      subst hg
      have HK := hid (hset (.string ⟨#[119, 105, 112, 101, 100]⟩) (.string ⟨#[]⟩))
      clear HI hset
      go_wp2_with fail
      go_roundg (ks.length - (i + 1))
      case measure => omega
      exact ⟨i + 1, by go_num, by omega, by omega, HK.out⟩
    · have hiz : ¬ (i : Int) < (ks.length : Int) := by omega
      have HW2 := hid HI.out
      clear HI
      go_wp2_with fail
      clear c3 c4 c5 hiz hlt hi hgi
      go_loopg [25] rs.length (fun gg vi wr => ∃ i : Nat, vi = .int .i64 i ∧ i ≤ rs.length ∧ rs.length - i ≤ gg ∧ Hid (WpD ⟨sn, st, ou, ⟨kp, kc, ks, rp, rc, rs⟩, cp, cc, cs⟩ Wr n O 0 wr))
      case atStart => exact ⟨0, rfl, by omega, by omega, HW2.out⟩
      case round =>
        clear HW2
        obtain ⟨i, rfl, hi, hgi, HI⟩ := hrel
        obtain ⟨c3, c4, c5⟩ := HI.out.cells
        simp only [Mx.ksl, Mx.rsl, Dx.csl] at c3 c4 c5
        by_cases hlt : i < rs.length
        · have hiz : (i : Int) < (rs.length : Int) := by omega
          have hi0 : (0 : Int) ≤ i := by omega
          obtain ⟨g, hg, ⟨zz0, k0⟩, k1, l0, _⟩ := HI.out.rform i hlt
          simp only at hg
          subst hg
          have hzt := HZT.out _ (List.getElem_mem hlt)
          have HTF : Hid (∀ w', WpD ⟨sn, st, ou, ⟨kp, kc, ks, some ⟨g, 0, none⟩, rc, rs⟩, cp, cc, cs⟩ Wr n O 0 w' → (w'.cell? ⟨g, i * 2 + 1, none⟩ = some (rs[i]).sl ∧ (∃ z, w'.cell? ⟨g, i * 2, none⟩ = some z) ∧ w'.frozen? ⟨g, i * 2, none⟩ = false ∧ ∀ x, WpD ⟨sn, st, ou, ⟨kp, kc, ks, some ⟨g, 0, none⟩, rc, rs⟩, cp, cc, cs⟩ Wr n O 0 (w'.setCell ⟨g, i * 2, none⟩ x)) ∧ ∀ j (hj : j < (rs[i]).tm.length), ∃ g2, (rs[i]).p = some ⟨g2, 0, none⟩ ∧ ((∃ z, w'.cell? ⟨g2, j * 3, none⟩ = some z) ∧ (∃ z, w'.cell? ⟨g2, j * 3 + 1, none⟩ = some z) ∧ (∃ z, w'.cell? ⟨g2, j * 3 + 2, none⟩ = some z)) ∧ (w'.frozen? ⟨g2, j * 3, none⟩ = false ∧ w'.frozen? ⟨g2, j * 3 + 1, none⟩ = false ∧ w'.frozen? ⟨g2, j * 3 + 2, none⟩ = false) ∧ ∀ x y z, WpD ⟨sn, st, ou, ⟨kp, kc, ks, some ⟨g, 0, none⟩, rc, rs⟩, cp, cc, cs⟩ Wr n O 0 (((w'.setCell ⟨g2, j * 3, none⟩ x).setCell ⟨g2, j * 3 + 1, none⟩ y).setCell ⟨g2, j * 3 + 2, none⟩ z)) := fun w' h => by
            refine ⟨?_, fun j hj => h.tform i hlt j hj⟩
            obtain ⟨g', hg', q0, q1, q2, q3⟩ := h.rform i hlt
            simp only at hg'
            injection hg' with hg'
            injection hg' with hg' _ _
            subst hg'
            exact ⟨q1, q0, q2, q3⟩
          generalize rs[i] = r at *
          obtain ⟨rt, tp, tc, tm⟩ := r
          simp only [Rx.sl] at *
          have HW3 := hid HI.out
          clear HI
          go_wp2_with fail
          clear c3 c4 c5 zz0 k0 k1 l0
          go_loopg [36] tm.length (fun gg vj wr => ∃ j : Nat, vj = .int .i64 j ∧ j ≤ tm.length ∧ tm.length - j ≤ gg ∧ Hid (WpD ⟨sn, st, ou, ⟨kp, kc, ks, some ⟨g, 0, none⟩, rc, rs⟩, cp, cc, cs⟩ Wr n O 0 wr))
          case atStart => exact ⟨0, rfl, by omega, by omega, HW3.out⟩
          case round =>
            clear HW3
            obtain ⟨j, rfl, hj, hgj, HJ⟩ := hrel
            obtain ⟨c3, c4, c5⟩ := HJ.out.cells
            simp only [Mx.ksl, Mx.rsl, Dx.csl] at c3 c4 c5
            obtain ⟨⟨k1, ⟨zz0, k0⟩, l0, hset⟩, htf⟩ := HTF.out wr HJ.out
            have HSET := hid hset
            clear hset
            by_cases hjt : j < tm.length
            · have hjz : (j : Int) < (tm.length : Int) := by omega
              have hj0 : (0 : Int) ≤ j := by omega
              obtain ⟨g2, hg2, ⟨⟨y0, t0⟩, ⟨y1, t1⟩, ⟨y2, t2⟩⟩, ⟨m0, m1, m2⟩, hst⟩ := htf j hjt
              subst hg2
              have HK := hid (hst (.string ⟨#[]⟩) (.int .i64 0) (.string ⟨#[]⟩))
              clear HJ hst htf HSET HTF
              go_wp2_with fail
              go_roundg (tm.length - (j + 1))
              case measure => omega
              exact ⟨j + 1, by go_num, by omega, by omega, HK.out⟩
            · have hjz : ¬ (j : Int) < (tm.length : Int) := by omega
              have HK := hid (HSET.out (.string ⟨#[119, 105, 112, 101, 100]⟩))
              clear HJ htf HSET HTF
              go_wp2_with fail
              go_roundg (rs.length - (i + 1))
              case measure => omega
              exact ⟨i + 1, by go_num, by omega, by omega, HK.out⟩
        · have hiz : ¬ (i : Int) < (rs.length : Int) := by omega
          have HW4 := hid HI.out
          clear HI
          go_wp2_with fail
          clear c3 c4 c5 hiz hlt hi hgi
          go_loopg [60] cs.length (fun gg vi wr => ∃ i : Nat, vi = .int .i64 i ∧ i ≤ cs.length ∧ cs.length - i ≤ gg ∧ Hid (WpD ⟨sn, st, ou, ⟨kp, kc, ks, rp, rc, rs⟩, cp, cc, cs⟩ Wr n O i wr))
          case atStart => exact ⟨0, rfl, by omega, by omega, HW4.out⟩
          case round =>
            clear HW4
            obtain ⟨i, rfl, hi, hgi, HI⟩ := hrel
            obtain ⟨c3, c4, c5⟩ := HI.out.cells
            simp only [Mx.ksl, Mx.rsl, Dx.csl] at c3 c4 c5
            by_cases hlt : i < cs.length
            · have hiz : (i : Int) < (cs.length : Int) := by omega
              have hi0 : (0 : Int) ≤ i := by omega
              obtain ⟨g, hg, k5, _, _, _⟩ := HI.out.cform i hlt (Nat.le_refl _)
              simp only at hg
              subst hg
              have hzt := HZC.out _ (List.getElem_mem hlt)
              have HTF : Hid (∀ w', WpD ⟨sn, st, ou, ⟨kp, kc, ks, rp, rc, rs⟩, some ⟨g, 0, none⟩, cc, cs⟩ Wr n O i w' → (w'.cell? ⟨g, i * 6 + 5, none⟩ = some (.slice (cs[i]).ip (cs[i]).io.length (cs[i]).ic) ∧ ((∃ z, w'.cell? ⟨g, i * 6, none⟩ = some z) ∧ (∃ z, w'.cell? ⟨g, i * 6 + 1, none⟩ = some z) ∧ (∃ z, w'.cell? ⟨g, i * 6 + 2, none⟩ = some z) ∧ (∃ z, w'.cell? ⟨g, i * 6 + 3, none⟩ = some z) ∧ (∃ z, w'.cell? ⟨g, i * 6 + 4, none⟩ = some z)) ∧ (∀ t, w'.frozen? ⟨g, t, none⟩ = false) ∧ ∀ x0 x1 x2 x3 x4 x5, WpD ⟨sn, st, ou, ⟨kp, kc, ks, rp, rc, rs⟩, some ⟨g, 0, none⟩, cc, cs⟩ Wr n O (i + 1) ((((((w'.setCell ⟨g, i * 6, none⟩ x0).setCell ⟨g, i * 6 + 1, none⟩ x1).setCell ⟨g, i * 6 + 2, none⟩ x2).setCell ⟨g, i * 6 + 3, none⟩ x3).setCell ⟨g, i * 6 + 4, none⟩ x4).setCell ⟨g, i * 6 + 5, none⟩ x5)) ∧ ∀ j (hj : j < (cs[i]).io.length), ∃ g2, (cs[i]).ip = some ⟨g2, 0, none⟩ ∧ ((∃ z, w'.cell? ⟨g2, j * 2, none⟩ = some z) ∧ (∃ z, w'.cell? ⟨g2, j * 2 + 1, none⟩ = some z)) ∧ (w'.frozen? ⟨g2, j * 2, none⟩ = false ∧ w'.frozen? ⟨g2, j * 2 + 1, none⟩ = false) ∧ ∀ x y, WpD ⟨sn, st, ou, ⟨kp, kc, ks, rp, rc, rs⟩, some ⟨g, 0, none⟩, cc, cs⟩ Wr n O i ((w'.setCell ⟨g2, j * 2, none⟩ x).setCell ⟨g2, j * 2 + 1, none⟩ y)) := fun w' h => by
                refine ⟨?_, fun j hj => h.fform i hlt j hj⟩
                obtain ⟨g', hg', q0, q1, q2, q3⟩ := h.cform i hlt (Nat.le_refl _)
                simp only at hg'
                injection hg' with hg'
                injection hg' with hg' _ _
                subst hg'
                exact ⟨q0, q1, q2, q3⟩
              generalize cs[i] = x at *
              obtain ⟨xa, xb, xwl, xwp, xwc, xwo, xil, xip, xic, xio⟩ := x
              simp only at *
              have HW3 := hid HI.out
              clear HI
              go_wp2_with fail
              clear c3 c4 c5 k5
              go_loopg [70] xio.length (fun gg vj wr => ∃ j : Nat, vj = .int .i64 j ∧ j ≤ xio.length ∧ xio.length - j ≤ gg ∧ Hid (WpD ⟨sn, st, ou, ⟨kp, kc, ks, rp, rc, rs⟩, some ⟨g, 0, none⟩, cc, cs⟩ Wr n O i wr))
              case atStart => exact ⟨0, rfl, by omega, by omega, HW3.out⟩
              case round =>
                clear HW3
                obtain ⟨j, rfl, hj, hgj, HJ⟩ := hrel
                obtain ⟨c3, c4, c5⟩ := HJ.out.cells
                simp only [Mx.ksl, Mx.rsl, Dx.csl] at c3 c4 c5
                obtain ⟨⟨k5, ⟨⟨y0, k0⟩, ⟨y1, k1⟩, ⟨y2, k2⟩, ⟨y3, k3⟩, ⟨y4, k4⟩⟩, hfz, hset⟩, htf⟩ := HTF.out wr HJ.out
                have HSET := hid hset
                clear hset
                by_cases hjt : j < xio.length
                · have hjz : (j : Int) < (xio.length : Int) := by omega
                  have hj0 : (0 : Int) ≤ j := by omega
                  obtain ⟨g2, hg2, ⟨⟨x0, t0⟩, ⟨x1, t1⟩⟩, ⟨m0, m1⟩, hst⟩ := htf j hjt
                  subst hg2
                  have HK := hid (hst (.string ⟨#[119, 105, 112, 101, 100]⟩) (.slice none 0 0))
                  clear HJ hst htf HSET HTF
                  go_wp2_with fail
                  go_roundg (xio.length - (j + 1))
                  case measure => omega
                  exact ⟨j + 1, by go_num, by omega, by omega, HK.out⟩
                · have hjz : ¬ (j : Int) < (xio.length : Int) := by omega
                  have HK := hid (HSET.out (.string ⟨#[]⟩) (.string ⟨#[]⟩) (.bool false) (.slice none 0 0) (.bool false) (.slice none 0 0))
                  have f0 := hfz (i * 6)
                  have f1 := hfz (i * 6 + 1)
                  have f2 := hfz (i * 6 + 2)
                  have f3 := hfz (i * 6 + 3)
                  have f4 := hfz (i * 6 + 4)
                  have f5 := hfz (i * 6 + 5)
                  clear HJ htf HSET HTF hfz
                  go_wp2_with fail
                  go_roundg (cs.length - (i + 1))
                  case measure => omega
                  exact ⟨i + 1, by go_num, by omega, by omega, HK.out⟩
            · have hiz : ¬ (i : Int) < (cs.length : Int) := by omega
              go_wp2_with fail
              go_end0
              exact ⟨rfl, HI.out.fr⟩

end Go.Proofs.Ytmihddbnddgfhaa

/-
  TrackPlays (stage 13) answers true.
-/
namespace Go.Proofs.Ytmihddbnddgfhaa
open Go.RowKit

theorem tt_new (S : TrackApi) (n0 : Nat) (W : World) (hn : n0 ≤ W.heap.size) (most : Int) : Calls Try.prog 10 #[.int .i64 most] W fun e w' => ∃ g, e = .returned (.pointer (some ⟨g, 0, none⟩)) ∧ (∃ B, S.Prg n0 w' B g (newT most) ∧ ∀ k, B k → W.heap.size ≤ k) ∧ Below W.heap.size W w' :=
  (S.new n0 W most hn).mono fun _ _ ⟨B, g, he, hp, hb, hB⟩ => ⟨g, he, ⟨B, hp, hB⟩, hb⟩

theorem two_new {S : TrackApi} {n0 : Nat} {W W1 W2 : World} {g : Nat} {most : Int} (h1 : ∃ B, S.Prg n0 W1 B g (newT most) ∧ ∀ k, B k → W.heap.size ≤ k) (hb1 : Below W.heap.size W W1) (h2 : RefT n0 W2 W1.heap.size (roomT most) [] [] 0 (.slice none 0 0) (.slice none 0 0)) (hb2 : Below W1.heap.size W1 W2) :
    TwoT S n0 W (fun _ => False) g W1.heap.size (newT most) (newT most) 0 W2 := by
  obtain ⟨B, hp, hB⟩ := h1
  refine ⟨B, roomT most, [], [], 0, _, _, TrackApi.on hp hb2, h2, rfl, Nat.le_refl _, fun k hk hb => ?_, Fr.of_below (bel_then hb1 hb1.size hb2), fun k hk => Or.inr ?_⟩
  · have h3 := (S.blk hp k hk).2
    rcases hb with rfl | hb | hb | ⟨x, hx, _⟩
    · omega
    · cases hb
    · cases hb
    · cases hx
  · rcases hk with hk | hk
    · exact hB k hk
    · rcases hk with rfl | hb | hb | ⟨x, hx, _⟩
      · exact hb1.size
      · cases hb
      · cases hb
      · cases hx

set_option linter.unusedSimpArgs false in
set_option maxHeartbeats 8000000 in
set_option maxRecDepth 100000 in
theorem tplays13_any (S : TrackApi) (hF : Fixed13) (most : Int) (v : Value) (ops : List Oy13) (w : World) (hv : KOt.Is w v ops) (hx : ∀ x ∈ ops, DIn w x.d) (hl : ops.length ≤ 1353245080300) :
    Calls Try.prog 3 #[.int .i64 most, v] w fun e w' => e = .returned (.bool true) ∧ Below w.heap.size w w' := by
  obtain ⟨p, cap, rfl, hd⟩ := hv
  have HF := hid (hF w)
  have HD := hid hd
  have HX := hid hx
  clear hd hx hF
  go_enter Try.func3, Try.ntmps3
  go_wp2_with fail
  refine HF.out.mono ?_
  rintro e W ⟨rfl, hbW⟩
  have HBW := hid hbW
  have HN := hid (tt_new S W.heap.size W (Nat.le_refl _) most)
  have HAT : Hid (∀ W', Below W.heap.size W W' → (∀ i (h : i < ops.length), ∃ b off, p = some ⟨b, off, none⟩ ∧ KOt.At W' b off ops) ∧ ∀ x ∈ ops, DIn W' x.d) := fun W' hW => by
    have hb := bel_then hbW hbW.size hW
    refine ⟨fun i h => ?_, fun x hx => (HX.out x hx).on hb⟩
    rcases HD.out with h0 | ⟨b, off, e, h1⟩
    · rw [h0] at h; simp at h
    · exact ⟨b, off, e, Kind.at_kept h1 hb⟩
  clear hbW HF
  go_wp2_with fail
  refine HN.out.mono ?_
  rintro e W1 ⟨g, rfl, hp1, hb1⟩
  have HP1 := hid hp1
  have HB1 := hid hb1
  have HR := hid (rnew13_any W.heap.size W1 hb1.size most)
  clear hp1 hb1 HN
  go_wp2_with fail
  refine HR.out.mono ?_
  rintro e W2 ⟨rfl, hr2, hb2⟩
  have HT0 := hid (two_new HP1.out HB1.out hr2 hb2)
  obtain ⟨h, hh⟩ : ∃ h, W1.heap.size = h := ⟨_, rfl⟩
  rw [hh] at HT0
  clear hr2 hb2 HR HP1
  go_wp2_with fail
  try rw [hh]
  clear hh
  go_loopg [17] ops.length (fun gg vi wr => ∃ i : Nat, vi = .int .i64 i ∧ i ≤ ops.length ∧ ops.length - i ≤ gg ∧ Hid (∃ t, TwoT S W.heap.size W (fun _ => False) g h t t i wr))
  case atStart => exact ⟨0, rfl, by omega, by omega, _, HT0.out⟩
  case round =>
    clear HT0
    obtain ⟨i, rfl, hi, hgk, HS⟩ := hrel
    obtain ⟨t, ht⟩ := HS.out
    have hbw : Below W.heap.size W wr := ht.below (Nat.le_refl _) fun k hk => hk.elim
    clear HS
    by_cases hlt : i < ops.length
    · have hltz : (i : Int) < (ops.length : Int) := by omega
      have hiz : (0 : Int) ≤ i := by omega
      obtain ⟨b1, o1, rfl, k1⟩ := (HAT.out wr hbw).1 i hlt
      obtain ⟨y0, y1, y2, y3, y4, y5, y6⟩ := kot_at k1 i hlt
      obtain ⟨V1, hV1⟩ : ∃ V1, wr.alloc (.cells (encOt ops[i]).toArray 37) = V1 := ⟨_, rfl⟩
      obtain ⟨Q, hQ⟩ : ∃ Q, wr.heap.size = Q := ⟨_, rfl⟩
      have hbV : Below wr.heap.size wr V1 := by rw [← hV1]; exact (Below.refl _ _).alloc (Nat.le_refl _) _
      have hn1 : V1.heap[Q]? = some (.cells (encOt ops[i]).toArray 37 (0, 0)) := by rw [← hV1, ← hQ]; exact heap_alloc_new wr _
      have HST := hid (step13_any (S := S) (n0 := W.heap.size) (U := W) (V := W) (C := fun _ => False) (g := g) (h := h) (t := t) (n := i) (o := ops[i]) (W := V1) ⟨ht.on hbV, bel_then hbw hbw.size hbV, fun W' hW => (HAT.out W' hW).2 _ (List.getElem_mem hlt), by omega⟩)
      generalize ops[i] = o at *
      obtain ⟨kd, sn, st, ou, ⟨kp, kc, ks, rp, rc, rs⟩, cp, cc, cs⟩ := o
      simp only [encOt, encDx, Mx.ksl, Mx.rsl, Dx.csl] at *
      have d0 : V1.cell? ⟨Q, 0, none⟩ = some (.int .i64 kd) := by rw [Lib.cell_of_heap hn1]; rfl
      have d1 : V1.cell? ⟨Q, 1, none⟩ = some (.int .u64 sn) := by rw [Lib.cell_of_heap hn1]; rfl
      have d2 : V1.cell? ⟨Q, 2, none⟩ = some (.int .u64 st) := by rw [Lib.cell_of_heap hn1]; rfl
      have d3 : V1.cell? ⟨Q, 3, none⟩ = some (.bool ou) := by rw [Lib.cell_of_heap hn1]; rfl
      have d4 : V1.cell? ⟨Q, 4, none⟩ = some (.slice kp ks.length kc) := by rw [Lib.cell_of_heap hn1]; rfl
      have d5 : V1.cell? ⟨Q, 5, none⟩ = some (.slice rp rs.length rc) := by rw [Lib.cell_of_heap hn1]; rfl
      have d6 : V1.cell? ⟨Q, 6, none⟩ = some (.slice cp cs.length cc) := by rw [Lib.cell_of_heap hn1]; rfl
      clear k1 hbw ht hbV hn1
      go_upto_region 7 with fail
      try rw [hQ]
      try rw [hV1]
      clear hV1 hQ y0 y1 y2 y3 y4 y5 y6
      go_wp2_with fail
      refine HST.out.mono ?_
      rintro e w3 ⟨rfl, ht3, _⟩
      have HT3 := hid ht3
      clear ht3 HST d0 d1 d2 d3 d4 d5 d6
      go_wp2_with fail
      go_roundg (ops.length - (i + 1))
      case measure => omega
      exact ⟨i + 1, by go_num, by omega, by omega, HT3.out⟩
    · have hltz : ¬ (i : Int) < (ops.length : Int) := by omega
      have hfew : i ≤ 1400000000000 := by omega
      have HT := hid ht
      have HK := hid ht.kept
      clear hbw ht
      go_upto_region 10 with fail
      have Td := hid (HT.out.on (bel_drewN (Below.refl _ _) 1))
      have HC1 := hid (tt_len Td.out)
      have HC2 : Hid (∀ w', TwoT S W.heap.size W (fun _ => False) g h t t i w' → Calls Try.prog 14 #[.pointer (some ⟨h, 0, none⟩)] w' fun e w2 => e = .returned (.int .i64 (t.kept.length : Nat)) ∧ Below w'.heap.size w' w2) := fun w' x => tt_rlen x hfew
      have HC3 : Hid (∀ w', TwoT S W.heap.size W (fun _ => False) g h t t i w' → Calls Try.prog 15 #[.pointer (some ⟨g, 0, none⟩)] w' fun e w2 => e = .returned (.int .u64 t.sum) ∧ Below w'.heap.size w' w2) := fun w' x => tt_sum x
      have HC4 : Hid (∀ w', TwoT S W.heap.size W (fun _ => False) g h t t i w' → Calls Try.prog 17 #[.pointer (some ⟨g, 0, none⟩)] w' fun e w2 => ListPost w' t.kept e w2) := fun w' x => tt_list x
      have HC5 : Hid (∀ w', TwoT S W.heap.size W (fun _ => False) g h t t i w' → Calls Try.prog 18 #[.pointer (some ⟨h, 0, none⟩)] w' fun e w2 => (∃ p c es, e = .returned (.slice p es.length c) ∧ KDx.Is w2 (.slice p es.length c) es ∧ (∀ d ∈ es, DRd w2 d) ∧ es.map Dx.dn = t.kept) ∧ Below w'.heap.size w' w2) := fun w' x => tt_rlist x hfew
      have HSU : Hid (∀ w', TwoT S W.heap.size W (fun _ => False) g h t t i w' → w'.cell? ⟨h, 3, none⟩ = some (.int .u64 t.sum)) := fun w' x => x.rsum
      generalize t.kept.length = KL at HC1 HC2 HK
      generalize t.sum = SU at HC3 HSU
      refine wp_region_held_drew (S := fun w' => w'.cell? ⟨h, 3, none⟩ = some (.int .u64 SU)) (by kernel_rfl) (HSU.out _ Td.out) (fun hHeld => ?_)
      refine take_val (i := 0) (.pointer (some ⟨g, 0, none⟩)) rfl (by kernel_rfl) (by kernel_rfl) (by kernel_rfl) (fun _ _ _ h => h) (by rfl) (fun w hSw => by go_simp) hHeld ?_
      simp only [Act.put, List.setIfInBounds_toArray, List.set_cons_zero, List.set_cons_succ]
      refine take_val (i := 2) (.pointer (some ⟨h, 0, none⟩)) rfl (by kernel_rfl) (by kernel_rfl) (by kernel_rfl) (fun _ _ _ h => h) (by rfl) (fun w hSw => by go_simp) hHeld ?_
      simp only [Act.put, List.setIfInBounds_toArray, List.set_cons_zero, List.set_cons_succ]
      clear hHeld
      refine wpAnyH_ready (rs := [1]) (by kernel_rfl) (by simp) ?_
      refine AllReadyH.cons (at_drop0 rfl) (fun K hK => ?_) AllReadyH.nil
      rw [if_pos (by rfl)]
      go_simp
      refine HC1.out.mono ?_
      rintro e w1 ⟨rfl, hb1⟩
      have T1 := hid (Td.out.on hb1)
      have HD1 := hid (HC2.out w1 T1.out)
      clear hb1 HC1 HC2
      go_wp2_with fail
      refine hK.out _ _ ((HSU.out w1 T1.out)) (fun hHeld => ?_)
      clear hK K
      try simp only [Act.put, List.setIfInBounds_toArray, List.set_cons_zero, List.set_cons_succ]
      clear hHeld
      refine wpAnyH_ready (rs := [3]) (by kernel_rfl) (by simp) ?_
      refine AllReadyH.cons (at_drop0 rfl) (fun K hK => ?_) AllReadyH.nil
      rw [if_pos (by rfl)]
      go_simp
      refine HD1.out.mono ?_
      rintro e w2 ⟨rfl, hb2⟩
      have T2 := hid (T1.out.on hb2)
      have HD2 := hid (HC3.out w2 T2.out)
      clear hb2 HD1 HC3
      go_wp2_with fail
      refine hK.out _ _ ((HSU.out w2 T2.out)) (fun hHeld => ?_)
      clear hK K
      try simp only [Act.put, List.setIfInBounds_toArray, List.set_cons_zero, List.set_cons_succ]
      refine take_val (i := 4) (.bool true) rfl (by kernel_rfl) (by kernel_rfl) (by kernel_rfl) (fun _ _ _ h => h) (by rfl) (fun w hSw => by go_simp) hHeld ?_
      simp only [Act.put, List.setIfInBounds_toArray, List.set_cons_zero, List.set_cons_succ]
      refine take_val (i := 5) (.bool true) rfl (by kernel_rfl) (by kernel_rfl) (by kernel_rfl) (fun _ _ _ h => h) (by rfl) (fun w hSw => by go_simp) hHeld ?_
      simp only [Act.put, List.setIfInBounds_toArray, List.set_cons_zero, List.set_cons_succ]
      refine take_val (i := 6) (.pointer (some ⟨g, 0, none⟩)) rfl (by kernel_rfl) (by kernel_rfl) (by kernel_rfl) (fun _ _ _ h => h) (by rfl) (fun w hSw => by go_simp) hHeld ?_
      simp only [Act.put, List.setIfInBounds_toArray, List.set_cons_zero, List.set_cons_succ]
      refine take_val (i := 8) (.pointer (some ⟨h, 0, none⟩)) rfl (by kernel_rfl) (by kernel_rfl) (by kernel_rfl) (fun _ _ _ h => h) (by rfl) (fun w hSw => by go_simp) hHeld ?_
      simp only [Act.put, List.setIfInBounds_toArray, List.set_cons_zero, List.set_cons_succ]
      refine take_val (i := 9) (.pointer (some ⟨h, 0, none⟩)) rfl (by kernel_rfl) (by kernel_rfl) (by kernel_rfl) (fun _ _ _ h => h) (by rfl) (fun w hSw => by go_simp) hHeld ?_
      simp only [Act.put, List.setIfInBounds_toArray, List.set_cons_zero, List.set_cons_succ]
      refine take_val (i := 10) (.pointer (some ⟨h, 3, none⟩)) rfl (by kernel_rfl) (by kernel_rfl) (by kernel_rfl) (fun _ _ _ h => h) (by rfl) (fun w hSw => by go_simp) hHeld ?_
      simp only [Act.put, List.setIfInBounds_toArray, List.set_cons_zero, List.set_cons_succ]
      refine take_val (i := 11) (.int .u64 SU) rfl (by kernel_rfl) (by kernel_rfl) (by kernel_rfl) (fun _ _ _ h => h) (by rfl) (fun w hSw => by go_simp) hHeld ?_
      simp only [Act.put, List.setIfInBounds_toArray, List.set_cons_zero, List.set_cons_succ]
      clear hHeld
      refine wpAnyH_ready (rs := [7]) (by kernel_rfl) (by simp) ?_
      refine AllReadyH.cons (at_drop0 rfl) (fun K hK => ?_) AllReadyH.nil
      rw [if_pos (by rfl)]
      go_simp
      refine HD2.out.mono ?_
      rintro e w3 ⟨rfl, hb3⟩
      have T3 := hid (T2.out.on hb3)
      have HD3 := hid (HC4.out w3 T3.out)
      clear hb3 HD2 HC4
      go_wp2_with fail
      refine hK.out _ _ ((HSU.out w3 T3.out)) (fun hHeld => ?_)
      clear hK K
      try simp only [Act.put, List.setIfInBounds_toArray, List.set_cons_zero, List.set_cons_succ]
      refine take_val (i := 12) (.bool true) rfl (by kernel_rfl) (by kernel_rfl) (by kernel_rfl) (fun _ _ _ h => h) (by rfl) (fun w hSw => by go_simp) hHeld ?_
      simp only [Act.put, List.setIfInBounds_toArray, List.set_cons_zero, List.set_cons_succ]
      refine take_val (i := 13) (.bool true) rfl (by kernel_rfl) (by kernel_rfl) (by kernel_rfl) (fun _ _ _ h => h) (by rfl) (fun w hSw => by go_simp) hHeld ?_
      simp only [Act.put, List.setIfInBounds_toArray, List.set_cons_zero, List.set_cons_succ]
      refine take_val (i := 14) (.bool true) rfl (by kernel_rfl) (by kernel_rfl) (by kernel_rfl) (fun _ _ _ h => h) (by rfl) (fun w hSw => by go_simp) hHeld ?_
      simp only [Act.put, List.setIfInBounds_toArray, List.set_cons_zero, List.set_cons_succ]
      refine take_val (i := 15) (.pointer (some ⟨g, 0, none⟩)) rfl (by kernel_rfl) (by kernel_rfl) (by kernel_rfl) (fun _ _ _ h => h) (by rfl) (fun w hSw => by go_simp) hHeld ?_
      simp only [Act.put, List.setIfInBounds_toArray, List.set_cons_zero, List.set_cons_succ]
      refine take_val (i := 17) (.pointer (some ⟨h, 0, none⟩)) rfl (by kernel_rfl) (by kernel_rfl) (by kernel_rfl) (fun _ _ _ h => h) (by rfl) (fun w hSw => by go_simp) hHeld ?_
      simp only [Act.put, List.setIfInBounds_toArray, List.set_cons_zero, List.set_cons_succ]
      clear hHeld
      refine wpAnyH_ready (rs := [16]) (by kernel_rfl) (by simp) ?_
      refine AllReadyH.cons (at_drop0 rfl) (fun K hK => ?_) AllReadyH.nil
      rw [if_pos (by rfl)]
      go_simp
      refine HD3.out.mono ?_
      rintro e w4 hp4
      obtain ⟨⟨p1, c1, ds1, rfl, hi1, hr1, hm1⟩, hb4⟩ := list_rd hp4
      have T4 := hid (T3.out.on hb4)
      have HD4 := hid (HC5.out w4 T4.out)
      have HI1 := hid hi1
      have HR1 := hid hr1
      have HM1 := hid hm1
      clear hb4 HD3 HC5 hi1 hr1 hm1 hp4
      go_wp2_with fail
      refine hK.out _ _ ((HSU.out w4 T4.out)) (fun hHeld => ?_)
      clear hK K
      try simp only [Act.put, List.setIfInBounds_toArray, List.set_cons_zero, List.set_cons_succ]
      clear hHeld
      refine wpAnyH_ready (rs := [18]) (by kernel_rfl) (by simp) ?_
      refine AllReadyH.cons (at_drop0 rfl) (fun K hK => ?_) AllReadyH.nil
      rw [if_pos (by rfl)]
      go_simp
      refine HD4.out.mono ?_
      rintro e w5 ⟨⟨p2, c2, ds2, rfl, hi2, hr2, hm2⟩, hb5⟩
      have T5 := hid (T4.out.on hb5)
      have hfl : ds1.length ≤ 9000000000000000000 := by
        have h1 := congrArg List.length HM1.out
        rw [List.length_map] at h1
        have h3 := T5.out.kept
        omega
      have HD5 := hid (same13_yes (.slice p1 ds1.length c1) (.slice p2 ds2.length c2) ds1 ds2 w5 (Kind.is_kept HI1.out hb5) hi2 (fun x hx => (HR1.out x hx).on hb5) hr2 hfl (HM1.out.trans hm2.symm))
      clear hb5 HD4 hi2 hr2 hm2 hfl
      go_wp2_with fail
      refine hK.out _ _ ((HSU.out w5 T5.out)) (fun hHeld => ?_)
      clear hK K
      try simp only [Act.put, List.setIfInBounds_toArray, List.set_cons_zero, List.set_cons_succ]
      clear hHeld
      refine wpAnyH_ready (rs := [19]) (by kernel_rfl) (by simp) ?_
      refine AllReadyH.cons (at_drop0 rfl) (fun K hK => ?_) AllReadyH.nil
      rw [if_pos (by rfl)]
      go_simp
      refine HD5.out.mono ?_
      rintro e w6 ⟨rfl, hb6⟩
      have T6 := hid (T5.out.on hb6)
      clear hb6 HD5
      go_wp2_with fail
      refine hK.out _ _ ((HSU.out w6 T6.out)) (fun hHeld => ?_)
      clear hK K
      try simp only [Act.put, List.setIfInBounds_toArray, List.set_cons_zero, List.set_cons_succ]
      refine take_val (i := 20) (.bool true) rfl (by kernel_rfl) (by kernel_rfl) (by kernel_rfl) (fun _ _ _ h => h) (by rfl) (fun w hSw => by go_simp) hHeld ?_
      simp only [Act.put, List.setIfInBounds_toArray, List.set_cons_zero, List.set_cons_succ]
      refine take_val (i := 21) (.bool true) rfl (by kernel_rfl) (by kernel_rfl) (by kernel_rfl) (fun _ _ _ h => h) (by rfl) (fun w hSw => by go_simp) hHeld ?_
      simp only [Act.put, List.setIfInBounds_toArray, List.set_cons_zero, List.set_cons_succ]
      refine wpAnyH_done (by kernel_rfl) ?_ _
      clear hHeld
      go_wp2_with fail
      go_ret
      exact ⟨rfl, bel_then HBW.out HBW.out.size (T6.out.below (Nat.le_refl _) fun k hk => hk.elim)⟩

end Go.Proofs.Ytmihddbnddgfhaa

/-
  TrackKeeps (stage 13) answers true.
-/
namespace Go.Proofs.Ytmihddbnddgfhaa
open Go.RowKit

/-- Both trackers stand while other blocks are wiped. -/
theorem TwoT.wiped {S : TrackApi} {n0 : Nat} {V V0 : World} {C C0 P : Nat → Prop} {g h : Nat} {t t' : Tk} {n : Nat} {W w' : World} (x : TwoT S n0 V C g h t t' n W) (f : Fr P W w') (hP : ∀ k, P k → ¬ C k ∧ k < V.heap.size ∧ V0.heap.size ≤ k) (hC : ∀ k, C k → C0 k ∨ V0.heap.size ≤ k) (f0 : Fr C0 V0 V) : TwoT S n0 V0 C0 g h t t' n w' := by
  obtain ⟨B, most, ds, gn, sum, va, vg, h1, h2, h3, h4, h5, h6, h7⟩ := x
  have hno : ∀ k, (B k ∨ BlkT h ds va vg k) → ¬ P k := fun k hk hp => by
    obtain ⟨q1, q2, _⟩ := hP k hp
    rcases h7 k hk with h8 | h8
    · exact q1 h8
    · omega
  exact ⟨B, most, ds, gn, sum, va, vg, S.fr h1 f fun k hk => hno k (Or.inl hk), h2.fr f fun k hk => hno k (Or.inr hk), h3, h4, h5, (f0.then h6 hC).then f fun k hk => Or.inr (hP k hk).2.2, fun k hk => (h7 k hk).elim (hC k) fun h => Or.inr (Nat.le_trans f0.size h)⟩

theorem kdx_one {w : World} {b : Nat} {y : Dx} (h : w.heap[b]? = some (.cells (encDx y).toArray 35 (0, 0))) : KDx.Is w (.slice (some ⟨b, 0, none⟩) 1 1) [y] := by
  refine ⟨_, _, rfl, Or.inr ⟨_, _, rfl, fun i hi j u hu => ?_⟩⟩
  have hi' : i = 0 := by simpa using hi
  subst hi'
  rw [Lib.cell_of_heap h]
  show (encDx y).toArray[0 + 0 * 6 + j]? = some u
  rw [Nat.zero_mul, Nat.zero_add]
  have hu' : (encDx y)[j]? = some u := hu
  simpa using hu'

/-- The two copies held against each other, under way. -/
structure KpSt (S : TrackApi) (n0 : Nat) (V2 : World) (C' : Nat → Prop) (g h : Nat) (t : Tk) (m : Nat) (y o : Dx) (k : Nat) (fl : List Bool) (t41 t44 t45 t46 t47 : Value) (w : World) : Prop where
  two : TwoT S n0 V2 C' g h t t m w
  s41 : fl[0]? = some true → ∃ b, t41 = .slice (some ⟨b, 0, none⟩) 1 1 ∧ w.heap[b]? = some (.cells (encDx y).toArray 35 (0, 0))
  s44 : fl[1]? = some true → ∃ b, t44 = .slice (some ⟨b, 0, none⟩) 1 1 ∧ w.heap[b]? = some (.cells (encDx o).toArray 35 (0, 0))
  r45 : 1 ≤ k → t45 = .bool true
  r46 : 2 ≤ k → t46 = .bool false
  r47 : 3 ≤ k → t47 = .bool false
section
variable {S : TrackApi} {n0 : Nat} {V2 : World} {C' : Nat → Prop} {g h : Nat} {t : Tk} {m : Nat} {y o : Dx} {k : Nat} {fl : List Bool} {f1 f2 : Bool} {t41 t44 t45 t46 t47 : Value} {w w' : World}
theorem blk_kept {b : Nat} {o : Obj} (h : w.heap[b]? = some o) (hb : Below w.heap.size w w') : w'.heap[b]? = some o := (hb.block b (Array.getElem?_eq_some_iff.1 h).1).trans h
theorem KpSt.on (x : KpSt S n0 V2 C' g h t m y o k fl t41 t44 t45 t46 t47 w) (hb : Below w.heap.size w w') : KpSt S n0 V2 C' g h t m y o k fl t41 t44 t45 t46 t47 w' :=
  ⟨x.two.on hb, fun hf => by obtain ⟨b, h1, h2⟩ := x.s41 hf; exact ⟨b, h1, blk_kept h2 hb⟩, fun hf => by obtain ⟨b, h1, h2⟩ := x.s44 hf; exact ⟨b, h1, blk_kept h2 hb⟩, x.r45, x.r46, x.r47⟩
theorem kp_start (x : TwoT S n0 V2 C' g h t t m w) (y o : Dx) (t41 t44 t45 t46 t47 : Value) : KpSt S n0 V2 C' g h t m y o 0 [false, false] t41 t44 t45 t46 t47 w := ⟨x, (fun h => by cases h), (fun h => by cases h), (fun h => by omega), (fun h => by omega), (fun h => by omega)⟩
theorem kp_a (x : KpSt S n0 V2 C' g h t m y o k [false, f2] t41 t44 t45 t46 t47 w) : KpSt S n0 V2 C' g h t m y o k [true, f2] (.slice (some ⟨w.heap.size, 0, none⟩) 1 1) t44 t45 t46 t47 (w.alloc (.cells (encDx y).toArray 35)) := by
  have g := x.on ((Below.refl _ _).alloc (Nat.le_refl _) (.cells (encDx y).toArray 35))
  exact ⟨g.two, fun _ => ⟨_, rfl, heap_alloc_new w _⟩, g.s44, g.r45, g.r46, g.r47⟩
theorem kp_b (x : KpSt S n0 V2 C' g h t m y o k [f1, false] t41 t44 t45 t46 t47 w) : KpSt S n0 V2 C' g h t m y o k [f1, true] t41 (.slice (some ⟨w.heap.size, 0, none⟩) 1 1) t45 t46 t47 (w.alloc (.cells (encDx o).toArray 35)) := by
  have g := x.on ((Below.refl _ _).alloc (Nat.le_refl _) (.cells (encDx o).toArray 35))
  exact ⟨g.two, g.s41, fun _ => ⟨_, rfl, heap_alloc_new w _⟩, g.r45, g.r46, g.r47⟩
end

/-- The told list a that is being wiped: of it those from i on stand. -/
structure KeA (w2 : World) (n1 : Nat) (pa : Option Addr) (ca : Nat) (da : List Dx) (i : Nat) (w : World) : Prop where
  fr : Fr (fun k => (∃ d ∈ da, BlkD13 d k) ∨ (Value.slice pa da.length ca).ownBlock = some k) w2 w
  row : RowE n1 w 35 6 (.slice pa da.length ca) da.length
  slot : ∀ j (h : j < da.length), i ≤ j → ∀ c v, (encDx da[j])[c]? = some v → SlotAt w pa (j * 6 + c) v
  each : ∀ j (h : j < da.length), i ≤ j → DOwn n1 w da[j]

theorem dn_types : (35 : TypeId) ≠ 67 ∧ (35 : TypeId) ≠ 85 ∧ (35 : TypeId) ≠ 87 ∧ (35 : TypeId) ≠ 70 ∧ (35 : TypeId) ≠ 90 ∧ (35 : TypeId) ≠ 9 := by decide
section
variable {w2 : World} {n1 : Nat} {pa : Option Addr} {ca : Nat} {da : List Dx} {i : Nat} {w w' : World}
theorem KeA.start (ho : KDx.Own n1 w2 (.slice pa da.length ca) da) (he : ∀ d ∈ da, DOwn n1 w2 d) : KeA w2 n1 pa ca da 0 w2 := by
  refine ⟨Fr.refl _ _, RowE.of ho, fun j hj _ c v hv => ?_, fun j hj _ => he _ (List.getElem_mem hj)⟩
  obtain ⟨p, c', e, hd⟩ := Kind.own_is ho
  injection e with e1 _ _
  rcases hd with hd | ⟨g, off, e2, hat⟩
  · rw [hd] at hj; simp at hj
  · obtain ⟨g', _, e3, _⟩ := RowE.form (c := ca) (RowE.of ho) (show 0 < da.length by omega)
    have e4 : pa = some ⟨g, off, none⟩ := e1.trans e2
    rw [e3] at e4
    injection e4 with e4
    injection e4 with e5 e6 _
    subst e5 e6
    refine ⟨g', e3, ?_⟩
    have := hat j hj c v hv
    rwa [Nat.zero_add] at this
/-- One done one wiped. -/
theorem KeA.wiped (h : KeA w2 n1 pa ca da i w) (hi : i < da.length) (hap : da.Pairwise fun c d => ∀ k, BlkD13 c k → ¬ BlkD13 d k) (f : Fr (BlkD13 da[i]) w w') : Fr (fun k => (∃ d ∈ da, BlkD13 d k) ∨ (Value.slice pa da.length ca).ownBlock = some k) w2 w' ∧ RowE n1 w' 35 6 (.slice pa da.length ca) da.length ∧ (∀ j (h : j < da.length), i ≤ j → ∀ c v, (encDx da[j])[c]? = some v → SlotAt w' pa (j * 6 + c) v) ∧ ∀ j (h : j < da.length), i + 1 ≤ j → DOwn n1 w' da[j] := by
  have hdo := h.each i hi (Nat.le_refl _)
  have hb : ∀ k, (Value.slice pa da.length ca).ownBlock = some k → ¬ BlkD13 da[i] k := fun k hk hbk => by
    obtain ⟨cs, hc⟩ := h.row.blk k hk
    exact hdo.typ k hbk hc dn_types
  refine ⟨h.fr.then f fun k hk => Or.inl (Or.inl ⟨_, List.getElem_mem hi, hk⟩), ?_, fun j hj hij c v hv => ?_, fun j hj hij => (h.each j hj (by omega)).frB f fun k hk hk2 => ?_⟩
  · obtain ⟨xs, hx⟩ := h.row
    exact ⟨xs, f.row hx hb⟩
  · obtain ⟨g, e, hc⟩ := h.slot j hj hij c v hv
    exact ⟨g, e, f.cell hc (hb g (by rw [e]; rfl))⟩
  · exact List.pairwise_iff_getElem.1 hap i j hi hj (by omega) k hk2 hk
/-- .. and its stamp laid. -/
theorem KeA.next (h : KeA w2 n1 pa ca da i w) (hi : i < da.length) (hap : da.Pairwise fun c d => ∀ k, BlkD13 c k → ¬ BlkD13 d k) (f : Fr (BlkD13 da[i]) w w') : ∃ g, pa = some ⟨g, 0, none⟩ ∧ (∃ z, w'.cell? ⟨g, i * 6 + 1, none⟩ = some z) ∧ w'.frozen? ⟨g, i * 6 + 1, none⟩ = false ∧ ∀ x, KeA w2 n1 pa ca da (i + 1) (w'.setCell ⟨g, i * 6 + 1, none⟩ x) := by
  obtain ⟨q1, q2, q3, q4⟩ := h.wiped hi hap f
  obtain ⟨g, cs, e, hg, _, hc, hf⟩ := RowE.form q2 (by omega)
  refine ⟨g, e, hc _ (by omega), hf _, fun x => ?_⟩
  have f2 : Fr (fun b => b = g) w' (w'.setCell ⟨g, i * 6 + 1, none⟩ x) := ⟨rfl, rfl, rfl, by simp, fun k _ hn => heap_setCell_other _ _ k _ hn⟩
  refine ⟨q1.then f2 fun k hk => Or.inl (Or.inr (by rw [hk, e]; rfl)), q2.set _ _ _, fun j hj hij c v hv => slot_set (q3 j hj (by omega) c v hv) _ _ _ fun g' _ e => ?_, fun j hj hij => (q4 j hj hij).frB f2 fun k hk e => ?_⟩
  · have := e.2
    omega
  · subst e
    exact (q4 j hj hij).typ k hk hg dn_types
end

set_option linter.unusedSimpArgs false in
set_option maxHeartbeats 32000000 in
set_option maxRecDepth 100000 in
theorem tkeeps13_any (S : TrackApi) (hF : Fixed13) (most : Int) (v : Value) (ops : List Oy13) (w : World) (hv : KOt.Is w v ops) (hx : ∀ x ∈ ops, DIn w x.d) (hl : ops.length ≤ 1353245080300) :
    Calls Try.prog 7 #[.int .i64 most, v] w fun e w' => e = .returned (.bool true) ∧ Below w.heap.size w w' := by
  obtain ⟨p, cap, rfl, hd⟩ := hv
  have HF := hid (hF w)
  have HD := hid hd
  have HX := hid hx
  clear hd hx hF
  go_enter Try.func7, Try.ntmps7
  go_wp2_with fail
  refine HF.out.mono ?_
  rintro e W ⟨rfl, hbW⟩
  have HBW := hid hbW
  have HN := hid (tt_new S W.heap.size W (Nat.le_refl _) most)
  have HAT : Hid (∀ W', Below W.heap.size W W' → (∀ i (h : i < ops.length), ∃ b off, p = some ⟨b, off, none⟩ ∧ KOt.At W' b off ops) ∧ ∀ x ∈ ops, DIn W' x.d) := fun W' hW => by
    have hb := bel_then hbW hbW.size hW
    refine ⟨fun i h => ?_, fun x hx => (HX.out x hx).on hb⟩
    rcases HD.out with h0 | ⟨b, off, e, h1⟩
    · rw [h0] at h; simp at h
    · exact ⟨b, off, e, Kind.at_kept h1 hb⟩
  clear hbW HF
  go_wp2_with fail
  refine HN.out.mono ?_
  rintro e W1 ⟨g, rfl, hp1, hb1⟩
  have HP1 := hid hp1
  have HB1 := hid hb1
  have HR := hid (rnew13_any W.heap.size W1 hb1.size most)
  clear hp1 hb1 HN
  go_wp2_with fail
  refine HR.out.mono ?_
  rintro e W2 ⟨rfl, hr2, hb2⟩
  have HT0 := hid (two_new HP1.out HB1.out hr2 hb2)
  obtain ⟨h, hh⟩ : ∃ h, W1.heap.size = h := ⟨_, rfl⟩
  rw [hh] at HT0
  clear hr2 hb2 HR HP1
  go_wp2_with fail
  try rw [hh]
  clear hh
  go_loopg [24] ops.length (fun gg vi wr => ∃ i : Nat, vi = .int .i64 i ∧ i ≤ ops.length ∧ ops.length - i ≤ gg ∧ Hid (∃ t, TwoT S W.heap.size W (fun _ => False) g h t t i wr))
  case atStart => exact ⟨0, rfl, by omega, by omega, _, HT0.out⟩
  case round =>
    clear HT0
    obtain ⟨i, rfl, hi, hgk, HS⟩ := hrel
    obtain ⟨t, ht⟩ := HS.out
    have hbw : Below W.heap.size W wr := ht.below (Nat.le_refl _) fun k hk => hk.elim
    have HTW := hid ht
    clear HS ht
    by_cases hlt : i < ops.length
    · have hltz : (i : Int) < (ops.length : Int) := by omega
      have hiz : (0 : Int) ≤ i := by omega
      have hfew : i ≤ 1400000000000 := by omega
      obtain ⟨b1, o1, rfl, k1⟩ := (HAT.out wr hbw).1 i hlt
      obtain ⟨y0, y1, y2, y3, y4, y5, y6⟩ := kot_at k1 i hlt
      obtain ⟨V1, hV1⟩ : ∃ V1, wr.alloc (.cells (encOt ops[i]).toArray 37) = V1 := ⟨_, rfl⟩
      obtain ⟨Q, hQ⟩ : ∃ Q, wr.heap.size = Q := ⟨_, rfl⟩
      have hbV : Below wr.heap.size wr V1 := by rw [← hV1]; exact (Below.refl _ _).alloc (Nat.le_refl _) _
      have hn1 : V1.heap[Q]? = some (.cells (encOt ops[i]).toArray 37 (0, 0)) := by rw [← hV1, ← hQ]; exact heap_alloc_new wr _
      have hQl : Q < V1.heap.size := (Array.getElem?_eq_some_iff.1 hn1).1
      have hbwV : Below W.heap.size W V1 := bel_then hbw hbw.size hbV
      have HDI : Hid (∀ W', Below W.heap.size W W' → DIn W' (ops[i]).d) := fun W' hW => (HAT.out W' hW).2 _ (List.getElem_mem hlt)
      have HDN := hid (done13_any (ops[i]).d V1 (HDI.out V1 hbwV) (HDI.out V1 hbwV).sz.few)
      have HBV := hid hbV
      have HBWV := hid hbwV
      have HN1 := hid hn1
      clear k1 hbV hn1 hbwV
      generalize ops[i] = o at *
      obtain ⟨kd, sn, st, ou, ⟨kp, kc, ks, rp, rc, rs⟩, cp, cc, cs⟩ := o
      simp only [encOt, encDx, Mx.ksl, Mx.rsl, Dx.csl] at *
      have d1 : V1.cell? ⟨Q, 1, none⟩ = some (.int .u64 sn) := by rw [Lib.cell_of_heap HN1.out]; rfl
      have d2 : V1.cell? ⟨Q, 2, none⟩ = some (.int .u64 st) := by rw [Lib.cell_of_heap HN1.out]; rfl
      have d3 : V1.cell? ⟨Q, 3, none⟩ = some (.bool ou) := by rw [Lib.cell_of_heap HN1.out]; rfl
      have d4 : V1.cell? ⟨Q, 4, none⟩ = some (.slice kp ks.length kc) := by rw [Lib.cell_of_heap HN1.out]; rfl
      have d5 : V1.cell? ⟨Q, 5, none⟩ = some (.slice rp rs.length rc) := by rw [Lib.cell_of_heap HN1.out]; rfl
      have d6 : V1.cell? ⟨Q, 6, none⟩ = some (.slice cp cs.length cc) := by rw [Lib.cell_of_heap HN1.out]; rfl
      go_upto_region 7 with fail
      try rw [hQ]
      try rw [hV1]
      clear hV1 y0 y1 y2 y3 y4 y5 y6
      go_wp2_with fail
      clear d1 d2 d3 d4 d5 d6
      refine HDN.out.mono ?_
      rintro e w1 ⟨y, rfl, hy1, hy2, hy3, hb1⟩
      obtain ⟨D, hD⟩ : ∃ D, w1.heap.size = D := ⟨_, rfl⟩
      obtain ⟨V2, hV2⟩ : ∃ V2, w1.alloc (.cells (encDx y).toArray 35) = V2 := ⟨_, rfl⟩
      have hb2 : Below w1.heap.size w1 V2 := by rw [← hV2]; exact (Below.refl _ _).alloc (Nat.le_refl _) _
      have hn2 : V2.heap[D]? = some (.cells (encDx y).toArray 35 (0, 0)) := by rw [← hV2, ← hD]; exact heap_alloc_new w1 _
      have hDl : D < V2.heap.size := (Array.getElem?_eq_some_iff.1 hn2).1
      have hb12 : Below V1.heap.size V1 V2 := bel_then hb1 hb1.size hb2
      have hbr2 : Below wr.heap.size wr V2 := bel_then HBV.out HBV.out.size hb12
      have hbW2 : Below W.heap.size W V2 := bel_then hbw hbw.size hbr2
      obtain ⟨C', x2, hC1, hC2, fW⟩ := HTW.out.from hbr2
      have hyV2 : DOwn V1.heap.size V2 y := hy1.frB (Fr.of_below (P := fun _ => False) hb2) fun _ _ k => k
      have hyb : ∀ k, BlkD13 y k → V1.heap.size ≤ k ∧ k < w1.heap.size := fun k hk => hy1.blk k hk
      have hs1 := HBV.out.size
      have hs12 := hb2.size
      have hs3 := hb1.size
      -- what stands whatever the trackers do
      have HALL : Hid (∀ w' t1 t2 m, TwoT S W.heap.size V2 C' g h t1 t2 m w' → (w'.cell? ⟨Q, 1, none⟩ = some (.int .u64 sn) ∧ w'.cell? ⟨Q, 2, none⟩ = some (.int .u64 st) ∧ w'.cell? ⟨Q, 3, none⟩ = some (.bool ou) ∧ w'.cell? ⟨Q, 4, none⟩ = some (.slice kp ks.length kc) ∧ w'.cell? ⟨Q, 5, none⟩ = some (.slice rp rs.length rc) ∧ w'.cell? ⟨Q, 6, none⟩ = some (.slice cp cs.length cc)) ∧ w'.heap[D]? = some (.cells (encDx y).toArray 35 (0, 0)) ∧ DIn w' ⟨sn, st, ou, ⟨kp, kc, ks, rp, rc, rs⟩, cp, cc, cs⟩ ∧ DIn w' y ∧ DOwn V1.heap.size w' y ∧ Below W.heap.size W w') := fun w' t1 t2 m x => by
        have hCno : ∀ b, wr.heap.size ≤ b → ¬ C' b := fun b hb hc => by have := (hC1 b hc).2; omega
        have e1 := (x.block (show Q < V2.heap.size by have := hb12.size; omega) (hCno Q (by omega))).trans ((hb12.block Q hQl).trans HN1.out)
        have e2 := (x.block hDl (hCno D (by omega))).trans hn2
        have hbel : Below W.heap.size W w' := hbW2.trans (x.below hbW2.size fun k hk => (hC1 k hk).1)
        have hdi := HDI.out w' hbel
        have hdo : DOwn V1.heap.size w' y := by
          obtain ⟨B, q1, q2, q3, q4, q5, q6, q7, q8, q9, q10, q11, q12, q13⟩ := x
          exact hyV2.frB q12 fun k hk => hCno k (by have := (hyb k hk).1; omega)
        refine ⟨⟨by rw [Lib.cell_of_heap e1]; rfl, by rw [Lib.cell_of_heap e1]; rfl, by rw [Lib.cell_of_heap e1]; rfl, by rw [Lib.cell_of_heap e1]; rfl, by rw [Lib.cell_of_heap e1]; rfl, by rw [Lib.cell_of_heap e1]; rfl⟩, e2, hdi, ⟨hdo.inn.1, hdo.inn.2, hy3, ?_, ?_⟩, hdo, hbel⟩
        · have := congrArg Dn.snap hy2
          change y.snap = sn at this
          rw [this]
          exact hdi.snap
        · have := congrArg Dn.stamp hy2
          change y.stamp = st at this
          rw [this]
          exact hdi.stamp
      have HWI : Hid (∀ w' t1 m, TwoT S W.heap.size V2 C' g h t1 t1 m w' → ∀ w'', Fr (BlkD13 y) w' w'' → TwoT S W.heap.size W (fun _ => False) g h t1 t1 m w'') := fun w' t1 m x w'' f => x.wiped f (fun k hk => ⟨fun hc => by have q1 := (hC1 k hc).2; have q2 := (hyb k hk).1; omega, by have := (hyb k hk).2; omega, by have q1 := (hyb k hk).1; have q2 := hbw.size; omega⟩) (fun k hk => hC2 k hk) fW
      have HAD : Hid (∀ w' t2 m, TwoT S W.heap.size V2 C' g h t t2 m w' → Calls Try.prog 22 #[.pointer (some ⟨g, 0, none⟩), .agg (encDx y).toArray] w' fun e w3 => e = .returned (.int .i64 (addT t y.dn).1) ∧ TwoT S W.heap.size V2 C' g h (addT t y.dn).2 t2 m w3) := fun w' t2 m x => tt_add x y (HALL.out w' _ _ _ x).2.2.2.1
      have HAR : Hid (∀ w' t1, TwoT S W.heap.size V2 C' g h t1 t i w' → Calls Try.prog 25 #[.pointer (some ⟨h, 0, none⟩), .agg (encDx ⟨sn, st, ou, ⟨kp, kc, ks, rp, rc, rs⟩, cp, cc, cs⟩).toArray] w' fun e w3 => e = .returned (.int .i64 (addT t y.dn).1) ∧ TwoT S W.heap.size V2 C' g h t1 (addT t y.dn).2 (i + 1) w3) := fun w' t1 x => by
        have := tt_radd x hfew _ (HALL.out w' _ _ _ x).2.2.1
        rw [← hy2] at this
        exact this
      have HSA : Hid (∀ w' t1 t2 m b1 b2, TwoT S W.heap.size V2 C' g h t1 t2 m w' → w'.heap[b1]? = some (.cells (encDx y).toArray 35 (0, 0)) → w'.heap[b2]? = some (.cells (encDx ⟨sn, st, ou, ⟨kp, kc, ks, rp, rc, rs⟩, cp, cc, cs⟩).toArray 35 (0, 0)) → Calls Try.prog 16 #[.slice (some ⟨b1, 0, none⟩) 1 1, .slice (some ⟨b2, 0, none⟩) 1 1] w' fun e w3 => e = .returned (.bool true) ∧ Below w'.heap.size w' w3) := fun w' t1 t2 m b1 b2 x h1 h2 =>
        same13_yes _ _ [y] [⟨sn, st, ou, ⟨kp, kc, ks, rp, rc, rs⟩, cp, cc, cs⟩] w' (kdx_one h1) (kdx_one h2) (fun z hz => by rw [List.mem_singleton.1 hz]; exact (HALL.out w' _ _ _ x).2.2.2.1.rd) (fun z hz => by rw [List.mem_singleton.1 hz]; exact (HALL.out w' _ _ _ x).2.2.1.rd) (by simp) (by rw [List.map_singleton, List.map_singleton, hy2])
      have HWP : Hid (∀ w' t1 m, TwoT S W.heap.size V2 C' g h t1 t1 m w' → Calls Try.prog 26 #[.agg (encDx y).toArray] w' fun e w3 => e = .returned (.tuple #[]) ∧ TwoT S W.heap.size W (fun _ => False) g h t1 t1 m w3) := fun w' t1 m x => (wipe13_any y V1.heap.size w' (HALL.out w' _ _ _ x).2.2.2.2.1 hy3).mono fun e w3 q => ⟨q.1, HWI.out w' t1 m x w3 q.2⟩
      have HX2 := hid x2
      generalize haR : (addT t y.dn).1 = R1 at *
      generalize (addT t y.dn).2 = T1 at *
      clear hy1 hy2 hy3 hb1 hb2 hn2 hb12 hbr2 hbW2 hC1 hC2 fW hyV2 hyb hs1 hs12 hs3 x2 HDN HWI haR HTW hbw HBV HBWV HN1 HDI hQl hDl
      obtain ⟨ysn, yst, you, ⟨ykp, ykc, yks, yrp, yrc, yrs⟩, ycp, ycc, ycs⟩ := y
      simp only [encDx, Mx.ksl, Mx.rsl, Dx.csl] at *
      have HSC : Hid (∀ w' t1 t2 m, TwoT S W.heap.size V2 C' g h t1 t2 m w' → (w'.cell? ⟨Q, 1, none⟩ = some (.int .u64 sn) ∧ w'.cell? ⟨Q, 2, none⟩ = some (.int .u64 st) ∧ w'.cell? ⟨Q, 3, none⟩ = some (.bool ou) ∧ w'.cell? ⟨Q, 4, none⟩ = some (.slice kp ks.length kc) ∧ w'.cell? ⟨Q, 5, none⟩ = some (.slice rp rs.length rc) ∧ w'.cell? ⟨Q, 6, none⟩ = some (.slice cp cs.length cc)) ∧ w'.cell? ⟨D, 0, none⟩ = some (.int .u64 ysn) ∧ w'.cell? ⟨D, 1, none⟩ = some (.int .u64 yst) ∧ w'.cell? ⟨D, 2, none⟩ = some (.bool you) ∧ w'.cell? ⟨D, 3, none⟩ = some (.slice ykp yks.length ykc) ∧ w'.cell? ⟨D, 4, none⟩ = some (.slice yrp yrs.length yrc) ∧ w'.cell? ⟨D, 5, none⟩ = some (.slice ycp ycs.length ycc)) := fun w' t1 t2 m x => by
        have e2 := (HALL.out w' _ _ _ x).2.1
        exact ⟨(HALL.out w' _ _ _ x).1, by rw [Lib.cell_of_heap e2]; rfl, by rw [Lib.cell_of_heap e2]; rfl, by rw [Lib.cell_of_heap e2]; rfl, by rw [Lib.cell_of_heap e2]; rfl, by rw [Lib.cell_of_heap e2]; rfl, by rw [Lib.cell_of_heap e2]; rfl⟩
      go_upto_region 8 with fail
      try rw [hD]
      try rw [hV2]
      clear hV2
      have Xd := hid (HX2.out.on (bel_drewN (Below.refl _ _) 1))
      refine wp_region_held_drew (S := fun w' => (w'.cell? ⟨Q, 1, none⟩ = some (.int .u64 sn) ∧ w'.cell? ⟨Q, 2, none⟩ = some (.int .u64 st) ∧ w'.cell? ⟨Q, 3, none⟩ = some (.bool ou) ∧ w'.cell? ⟨Q, 4, none⟩ = some (.slice kp ks.length kc) ∧ w'.cell? ⟨Q, 5, none⟩ = some (.slice rp rs.length rc) ∧ w'.cell? ⟨Q, 6, none⟩ = some (.slice cp cs.length cc)) ∧ w'.cell? ⟨D, 0, none⟩ = some (.int .u64 ysn) ∧ w'.cell? ⟨D, 1, none⟩ = some (.int .u64 yst) ∧ w'.cell? ⟨D, 2, none⟩ = some (.bool you) ∧ w'.cell? ⟨D, 3, none⟩ = some (.slice ykp yks.length ykc) ∧ w'.cell? ⟨D, 4, none⟩ = some (.slice yrp yrs.length yrc) ∧ w'.cell? ⟨D, 5, none⟩ = some (.slice ycp ycs.length ycc)) (by kernel_rfl) (HSC.out V2.drew _ _ _ Xd.out) (fun hHeld => ?_)
      refine take_val (i := 0) (.pointer (some ⟨g, 0, none⟩)) rfl (by kernel_rfl) (by kernel_rfl) (by kernel_rfl) (fun _ _ _ h => h) (by rfl) (fun w hSw => by go_simp) hHeld ?_
      simp only [Act.put, List.setIfInBounds_toArray, List.set_cons_zero, List.set_cons_succ]
      refine take_val (i := 1) (.agg #[.int .u64 ysn, .int .u64 yst, .bool you, .slice ykp yks.length ykc, .slice yrp yrs.length yrc, .slice ycp ycs.length ycc]) rfl (by kernel_rfl) (by kernel_rfl) (by kernel_rfl) (fun _ _ _ h => h) (by rfl) (fun w hSw => by go_simp) hHeld ?_
      simp only [Act.put, List.setIfInBounds_toArray, List.set_cons_zero, List.set_cons_succ]
      refine take_val (i := 3) (.pointer (some ⟨h, 0, none⟩)) rfl (by kernel_rfl) (by kernel_rfl) (by kernel_rfl) (fun _ _ _ h => h) (by rfl) (fun w hSw => by go_simp) hHeld ?_
      simp only [Act.put, List.setIfInBounds_toArray, List.set_cons_zero, List.set_cons_succ]
      refine take_val (i := 4) (.pointer (some ⟨Q, 1, none⟩)) rfl (by kernel_rfl) (by kernel_rfl) (by kernel_rfl) (fun _ _ _ h => h) (by rfl) (fun w hSw => by go_simp) hHeld ?_
      simp only [Act.put, List.setIfInBounds_toArray, List.set_cons_zero, List.set_cons_succ]
      refine take_val (i := 5) (.agg #[.int .u64 sn, .int .u64 st, .bool ou, .slice kp ks.length kc, .slice rp rs.length rc, .slice cp cs.length cc]) rfl (by kernel_rfl) (by kernel_rfl) (by kernel_rfl) (fun _ _ _ h => h) (by rfl) (fun w hSw => by go_simp) hHeld ?_
      simp only [Act.put, List.setIfInBounds_toArray, List.set_cons_zero, List.set_cons_succ]
      clear hHeld
      have HC1 := hid (HAD.out V2.drew _ _ Xd.out)
      refine wpAnyH_ready (rs := [2]) (by kernel_rfl) (by simp) ?_
      refine AllReadyH.cons (at_drop0 rfl) (fun K hK => ?_) AllReadyH.nil
      rw [if_pos (by rfl)]
      go_simp
      refine HC1.out.mono ?_
      rintro e w3 ⟨rfl, x3⟩
      have X3 := hid x3
      have HC2 := hid (HAR.out w3 _ x3)
      clear x3 HC1 HAD HAR
      go_wp2_with fail
      refine hK.out _ _ ((HSC.out w3 _ _ _ X3.out)) (fun hHeld => ?_)
      clear hK K
      try simp only [Act.put, List.setIfInBounds_toArray, List.set_cons_zero, List.set_cons_succ]
      clear hHeld
      refine wpAnyH_ready (rs := [6]) (by kernel_rfl) (by simp) ?_
      refine AllReadyH.cons (at_drop0 rfl) (fun K hK => ?_) AllReadyH.nil
      rw [if_pos (by rfl)]
      go_simp
      refine HC2.out.mono ?_
      rintro e w4 ⟨rfl, x4⟩
      have X4 := hid x4
      clear x4 HC2
      go_wp2_with fail
      refine hK.out _ _ ((HSC.out w4 _ _ _ X4.out)) (fun hHeld => ?_)
      clear hK K
      try simp only [Act.put, List.setIfInBounds_toArray, List.set_cons_zero, List.set_cons_succ]
      refine take_val (i := 7) (.bool false) rfl (by kernel_rfl) (by kernel_rfl) (by kernel_rfl) (fun _ _ _ h => h) (by rfl) (fun w hSw => by go_simp) hHeld ?_
      simp only [Act.put, List.setIfInBounds_toArray, List.set_cons_zero, List.set_cons_succ]
      refine take_val (i := 8) (.bool false) rfl (by kernel_rfl) (by kernel_rfl) (by kernel_rfl) (fun _ _ _ h => h) (by rfl) (fun w hSw => by go_simp) hHeld ?_
      simp only [Act.put, List.setIfInBounds_toArray, List.set_cons_zero, List.set_cons_succ]
      refine take_val (i := 9) (.agg #[.int .u64 ysn, .int .u64 yst, .bool you, .slice ykp yks.length ykc, .slice yrp yrs.length yrc, .slice ycp ycs.length ycc]) rfl (by kernel_rfl) (by kernel_rfl) (by kernel_rfl) (fun _ _ _ h => h) (by rfl) (fun w hSw => by go_simp) hHeld ?_
      simp only [Act.put, List.setIfInBounds_toArray, List.set_cons_zero, List.set_cons_succ]
      refine take_val (i := 11) (.pointer (some ⟨Q, 1, none⟩)) rfl (by kernel_rfl) (by kernel_rfl) (by kernel_rfl) (fun _ _ _ h => h) (by rfl) (fun w hSw => by go_simp) hHeld ?_
      simp only [Act.put, List.setIfInBounds_toArray, List.set_cons_zero, List.set_cons_succ]
      refine take_val (i := 12) (.agg #[.int .u64 sn, .int .u64 st, .bool ou, .slice kp ks.length kc, .slice rp rs.length rc, .slice cp cs.length cc]) rfl (by kernel_rfl) (by kernel_rfl) (by kernel_rfl) (fun _ _ _ h => h) (by rfl) (fun w hSw => by go_simp) hHeld ?_
      simp only [Act.put, List.setIfInBounds_toArray, List.set_cons_zero, List.set_cons_succ]
      clear hHeld
      refine wpAnyH_floats [14, 15, 16] [10, 13] (fun a0 k fl a w' => ∃ t41 t44 t45 t46 t47, a = putS a0 [(41, t41), (44, t44), (45, t45), (46, t46), (47, t47)] ∧ KpSt S W.heap.size V2 C' g h T1 (i + 1) ⟨ysn, yst, you, ⟨ykp, ykc, yks, yrp, yrc, yrs⟩, ycp, ycc, ycs⟩ ⟨sn, st, ou, ⟨kp, kc, ks, rp, rc, rs⟩, cp, cc, cs⟩ k fl t41 t44 t45 t46 t47 w') (by kernel_rfl) (by decide) ⟨_, _, _, _, _, (putS_self _ [41, 44, 45, 46, 47]).symm, kp_start X4.out _ _ _ _ _ _ _⟩ ?hS ?hmain ?halloc ?hend
      case hS =>
        rintro k fl a w' ⟨t41, t44, t45, t46, t47, rfl, hst⟩
        exact HSC.out w' _ _ _ hst.two
      case hmain =>
        rintro k i' fl a w' hk hfl hrd ⟨t41, t44, t45, t46, t47, rfl, hst⟩
        obtain ⟨f1, f2, rfl⟩ : ∃ f1 f2, fl = [f1, f2] := by
          match fl, hfl with
          | [f1, f2], _ => exact ⟨f1, f2, rfl⟩
        rcases k with _ | _ | _ | k
        · obtain rfl : i' = 14 := by simpa using hk.symm
          cases f1 with
          | false => exact (not_ready hrd (by cases f2 <;> kernel_rfl)).elim
          | true =>
          cases f2 with
          | false => exact (not_ready hrd (by kernel_rfl)).elim
          | true =>
          obtain ⟨b41, rfl, h41⟩ := hst.s41 rfl
          obtain ⟨b44, rfl, h44⟩ := hst.s44 rfl
          have HC := hid (HSA.out w' _ _ _ b41 b44 hst.two h41 h44)
          have HST := hid hst
          clear hst hrd hk hfl h41 h44
          refine ⟨_, at_drop0 rfl, fun K hK => ?_⟩
          simp only [putS, List.foldl_cons, List.foldl_nil, Act.put, List.setIfInBounds_toArray, List.set_cons_zero, List.set_cons_succ]
          rw [if_pos (by rfl)]
          go_simp
          refine HC.out.mono ?_
          rintro e w5 ⟨rfl, hb5⟩
          have HS2 := hid (HST.out.on hb5)
          clear hb5
          go_wp2_with fail
          exact hK.out _ _ ⟨_, _, _, t46, t47, rfl, HS2.out.two, HS2.out.s41, HS2.out.s44, (fun _ => rfl), (fun h => by omega), (fun h => by omega)⟩
        · obtain rfl : i' = 15 := by simpa using hk.symm
          obtain rfl := hst.r45 (by omega)
          have HST := hid hst
          clear hst hrd hk hfl
          refine ⟨_, at_drop0 rfl, fun K hK => ?_⟩
          simp only [putS, List.foldl_cons, List.foldl_nil, Act.put, List.setIfInBounds_toArray, List.set_cons_zero, List.set_cons_succ]
          rw [if_pos (by rfl)]
          go_simp
          go_wp2_with fail
          exact hK.out _ _ ⟨t41, t44, _, _, t47, rfl, HST.out.two, HST.out.s41, HST.out.s44, (fun _ => rfl), (fun _ => rfl), (fun h => by omega)⟩
        · obtain rfl : i' = 16 := by simpa using hk.symm
          obtain rfl := hst.r45 (by omega)
          obtain rfl := hst.r46 (by omega)
          have HST := hid hst
          clear hst hrd hk hfl
          refine ⟨_, at_drop0 rfl, fun K hK => ?_⟩
          simp only [putS, List.foldl_cons, List.foldl_nil, Act.put, List.setIfInBounds_toArray, List.set_cons_zero, List.set_cons_succ]
          rw [if_pos (by rfl)]
          go_simp
          go_wp2_with fail
          exact hK.out _ _ ⟨t41, t44, _, _, _, rfl, HST.out.two, HST.out.s41, HST.out.s44, (fun _ => rfl), (fun _ => rfl), (fun _ => rfl)⟩
        · simp at hk
      case halloc =>
        rintro j i' k fl a w' hj hk hfl hf ⟨t41, t44, t45, t46, t47, rfl, hst⟩
        obtain ⟨f1, f2, rfl⟩ : ∃ f1 f2, fl = [f1, f2] := by
          match fl, hfl with
          | [f1, f2], _ => exact ⟨f1, f2, rfl⟩
        rcases j with _ | _ | j
        · obtain rfl : i' = 10 := by simpa using hj.symm
          obtain rfl : f1 = false := by simpa using hf
          have HS2 := hid (kp_a hst)
          simp only [encDx, Mx.ksl, Mx.rsl, Dx.csl] at HS2
          clear hst hf hj hk hfl
          refine ⟨_, at_drop0 rfl, fun K hK => ?_⟩
          simp only [putS, List.foldl_cons, List.foldl_nil, Act.put, List.setIfInBounds_toArray, List.set_cons_zero, List.set_cons_succ]
          rw [if_pos (by rfl)]
          go_simp
          go_wp2_with fail
          exact hK.out _ _ ⟨_, t44, t45, t46, t47, rfl, HS2.out⟩
        · obtain rfl : i' = 13 := by simpa using hj.symm
          obtain rfl : f2 = false := by simpa using hf
          have HS2 := hid (kp_b hst)
          simp only [encDx, Mx.ksl, Mx.rsl, Dx.csl] at HS2
          clear hst hf hj hk hfl
          refine ⟨_, at_drop0 rfl, fun K hK => ?_⟩
          simp only [putS, List.foldl_cons, List.foldl_nil, Act.put, List.setIfInBounds_toArray, List.set_cons_zero, List.set_cons_succ]
          rw [if_pos (by rfl)]
          go_simp
          go_wp2_with fail
          exact hK.out _ _ ⟨t41, _, t45, t46, t47, rfl, HS2.out⟩
        · simp at hj
      case hend =>
        rintro a w5 ⟨t41, t44, t45, t46, t47, rfl, hst⟩
        obtain rfl := hst.r47 (by decide)
        have X5 := hid hst.two
        have HC5 := hid (HWP.out w5 _ _ hst.two)
        obtain ⟨_, e0, e1, e2, e3, e4, e5⟩ := HSC.out w5 _ _ _ hst.two
        clear hst HWP HSA
        simp only [putS, List.foldl_cons, List.foldl_nil, Act.put, List.setIfInBounds_toArray, List.set_cons_zero, List.set_cons_succ]
        go_wp2_with fail
        refine HC5.out.mono ?_
        rintro e w6 ⟨rfl, x6⟩
        have HT6 := hid x6
        clear x6 HC5 e0 e1 e2 e3 e4 e5
        go_wp2_with fail
        go_roundg (ops.length - (i + 1))
        case measure => omega
        exact ⟨i + 1, by go_num, by omega, by omega, _, HT6.out⟩
    · have hltz : ¬ (i : Int) < (ops.length : Int) := by omega
      have hfew : i ≤ 1400000000000 := by omega
      have HL1 := hid (tt_list HTW.out)
      clear HAT HD HX
      go_wp2_with fail
      refine HL1.out.mono ?_
      rintro e w1 ⟨ua, da, rfl, ha1, ha2, ha3, ha4, ha5⟩
      obtain ⟨pa, ca, rfl⟩ := Kind.own_shape ha1
      have HL2 := hid (tt_list (HTW.out.on ha5))
      have HA1 := hid ha1
      have HA2 := hid ha2
      have HA3 := hid ha3
      have HA4 := hid ha4
      have HA5 := hid ha5
      clear HL1 ha1 ha2 ha3 ha4 ha5
      go_wp2_with fail
      refine HL2.out.mono ?_
      rintro e w2 ⟨ub, db, rfl, hb1, hb2, hb3, hb4, hb5⟩
      obtain ⟨pb, cb, rfl⟩ := Kind.own_shape hb1
      have hbr2 : Below wr.heap.size wr w2 := bel_then HA5.out HA5.out.size hb5
      obtain ⟨C', x2, hC1, hC2, fW⟩ := HTW.out.from hbr2
      have hal : da.length ≤ 1400000000000 := by
        have h1 := congrArg List.length HA4.out
        rw [List.length_map] at h1
        have h3 := HTW.out.kept
        omega
      obtain ⟨n1, hn1⟩ : ∃ n1, wr.heap.size = n1 := ⟨_, rfl⟩
      have HK0 : Hid (KeA w2 n1 pa ca da 0 w2) := by
        rw [← hn1]
        exact KeA.start (Kind.own_on HA1.out hb5) fun d hd => ((HA2.out d hd).1).frB (Fr.of_below (P := fun _ => False) hb5) fun _ _ k => k
      have HSZ : Hid (∀ d ∈ da, SzD d.m d.cs) := fun d hd => (HA2.out d hd).2
      -- what stands behind the wiping
      have HZ : Hid (∀ w', KeA w2 n1 pa ca da da.length w' → TwoT S W.heap.size W (fun _ => False) g h t t i w' ∧ KDx.Is w' (.slice pb db.length cb) db ∧ ∀ d ∈ db, DRd w' d) := fun w' hk => by
        have hblk : ∀ k, ((∃ d ∈ da, BlkD13 d k) ∨ (Value.slice pa da.length ca).ownBlock = some k) → wr.heap.size ≤ k ∧ k < w1.heap.size := fun k hk => by
          rcases hk with ⟨d, hd, hk⟩ | hk
          · exact (HA2.out d hd).1.blk k hk
          · exact World.ownsRow.lt (show w1.ownsRow wr.heap.size KDx.T KDx.k (.slice pa da.length ca) da.length (KDx.cells da) from HA1.out) k hk
        have hs2 := hb5.size
        refine ⟨x2.wiped hk.fr (fun k hk => ⟨fun hc => by have q1 := (hC1 k hc).2; have q2 := (hblk k hk).1; omega, by have := (hblk k hk).2; omega, by have q1 := (hblk k hk).1; have q2 := hbw.size; omega⟩) (fun k hk => hC2 k hk) fW, Kind.own_is (hk.fr.row (show w2.ownsRow w1.heap.size KDx.T KDx.k (.slice pb db.length cb) db.length (KDx.cells db) from hb1) fun k h1 h2 => ?_), fun d hd => ?_⟩
        · have q1 := (World.ownsRow.lt (show w2.ownsRow w1.heap.size KDx.T KDx.k (.slice pb db.length cb) db.length (KDx.cells db) from hb1) k h1).1
          have q2 := (hblk k h2).2
          omega
        · have hdo : DOwn w1.heap.size w' d := (hb2 d hd).1.frB hk.fr fun k h1 h2 => by
            have q1 := ((hb2 d hd).1.blk k h1).1
            have q2 := (hblk k h2).2
            omega
          exact ⟨hdo.inn.1, hdo.inn.2, (hb2 d hd).2.len, by have := (hb2 d hd).2.chg; omega⟩
      have HB4 := hid hb4
      clear HL2 hb1 hb2 hb3 hb4 hb5 hbr2 x2 hC1 hC2 fW hbw HA1 HA5 HTW HA2 hn1
      go_wp2_with fail
      go_loopg [57] da.length (fun gg vi wr => ∃ j : Nat, vi = .int .i64 j ∧ j ≤ da.length ∧ da.length - j ≤ gg ∧ Hid (KeA w2 n1 pa ca da j wr))
      case atStart => exact ⟨0, rfl, by omega, by omega, HK0.out⟩
      case round =>
        clear HK0
        obtain ⟨j, rfl, hj, hgj, HJ⟩ := hrel
        by_cases hjt : j < da.length
        · have hjz : (j : Int) < (da.length : Int) := by omega
          have hj0 : (0 : Int) ≤ j := by omega
          have hmem := List.getElem_mem hjt
          have HSL : Hid (∀ c v, (encDx da[j])[c]? = some v → SlotAt wr pa (j * 6 + c) v) := HJ.out.slot j hjt (Nat.le_refl _)
          have HWP := hid (wipe13_any da[j] _ wr (HJ.out.each j hjt (Nat.le_refl _)) (HSZ.out _ hmem))
          have HNX : Hid (∀ w', Fr (BlkD13 da[j]) wr w' → ∃ g, pa = some ⟨g, 0, none⟩ ∧ (∃ z, w'.cell? ⟨g, j * 6 + 1, none⟩ = some z) ∧ w'.frozen? ⟨g, j * 6 + 1, none⟩ = false ∧ ∀ x, KeA w2 n1 pa ca da (j + 1) (w'.setCell ⟨g, j * 6 + 1, none⟩ x)) := fun w' f => HJ.out.next hjt HA3.out f
          clear HJ hmem
          obtain ⟨y, hy⟩ : ∃ y, da[j] = y := ⟨_, rfl⟩
          rw [hy] at HSL HWP
          rw [hy] at HNX
          clear hy
          obtain ⟨ysn, yst, you, ⟨ykp, ykc, yks, yrp, yrc, yrs⟩, ycp, ycc, ycs⟩ := y
          obtain ⟨ga, rfl, e0⟩ := HSL.out 0 _ rfl
          obtain ⟨g1, q1, e1⟩ := HSL.out 1 _ rfl
          obtain ⟨g2, q2, e2⟩ := HSL.out 2 _ rfl
          obtain ⟨g3, q3, e3⟩ := HSL.out 3 _ rfl
          obtain ⟨g4, q4, e4⟩ := HSL.out 4 _ rfl
          obtain ⟨g5, q5, e5⟩ := HSL.out 5 _ rfl
          obtain rfl : ga = g1 := by injection q1 with q; injection q
          obtain rfl : ga = g2 := by injection q2 with q; injection q
          obtain rfl : ga = g3 := by injection q3 with q; injection q
          obtain rfl : ga = g4 := by injection q4 with q; injection q
          obtain rfl : ga = g5 := by injection q5 with q; injection q
          simp only [encDx, Mx.ksl, Mx.rsl, Dx.csl, Nat.add_zero] at *
          clear HSL q1 q2 q3 q4 q5
          go_wp2_with fail
          refine HWP.out.mono ?_
          rintro e w4 ⟨rfl, f4⟩
          obtain ⟨g', q, ⟨z, c1⟩, l1, hnx⟩ := HNX.out w4 f4
          obtain rfl : ga = g' := by injection q with q; injection q
          have HK := hid (hnx (.int .u64 0))
          clear hnx f4 q HWP HNX e0 e1 e2 e3 e4 e5
          go_wp2_with fail
          go_roundg (da.length - (j + 1))
          case measure => omega
          exact ⟨j + 1, by go_num, by omega, by omega, HK.out⟩
        · have hjz : ¬ (j : Int) < (da.length : Int) := by omega
          obtain rfl : j = da.length := by omega
          obtain ⟨x5, hib, hrb⟩ := HZ.out wr HJ.out
          have X5 := hid x5
          have HIB := hid hib
          have HRB := hid hrb
          have HN1 := hid (S.check_nil wr 1 ⟨none, 0, [], none, 0, []⟩ (.slice none 0 0))
          simp only [encMx, Mx.ksl, Mx.rsl, List.length_nil] at HN1
          clear HJ HZ x5 hib hrb HA3
          go_wp2_with fail
          refine HN1.out.mono ?_
          rintro e z1 ⟨rfl, hb1⟩
          have X6 := hid (X5.out.on hb1)
          have HIB1 := hid (Kind.is_kept HIB.out hb1)
          have HRB1 : Hid (∀ d ∈ db, DRd z1 d) := fun d hd => (HRB.out d hd).on hb1
          have HC1 := hid (tt_rlist X6.out hfew)
          clear hb1 HN1 X5 HIB HRB
          go_wp2_with fail
          refine HC1.out.mono ?_
          rintro e z2 ⟨⟨p2, c2, ds2, rfl, hi2, hr2, hm2⟩, hb2⟩
          have X7 := hid (X6.out.on hb2)
          have hfl : db.length ≤ 9000000000000000000 := by
            have h1 := congrArg List.length HB4.out
            rw [List.length_map] at h1
            have h3 := X6.out.kept
            omega
          have HC2 := hid (same13_yes (.slice pb db.length cb) (.slice p2 ds2.length c2) db ds2 z2 (Kind.is_kept HIB1.out hb2) hi2 (fun x hx => (HRB1.out x hx).on hb2) hr2 hfl (HB4.out.trans hm2.symm))
          clear hb2 HC1 hi2 hr2 hm2 hfl X6 HIB1 HRB1
          go_wp2_with fail
          refine HC2.out.mono ?_
          rintro e z3 ⟨rfl, hb3⟩
          have X8 := hid (X7.out.on hb3)
          have HC3 := hid (tt_list X8.out)
          clear hb3 HC2 X7
          go_wp2_with fail
          refine HC3.out.mono ?_
          rintro e z4 hp4
          obtain ⟨⟨p4, c4, ds4, rfl, hi4, hr4, hm4⟩, hb4⟩ := list_rd hp4
          have X9 := hid (X8.out.on hb4)
          have HC4 := hid (tt_rlist X9.out hfew)
          have HI4 := hid hi4
          have HR4 := hid hr4
          have HM4 := hid hm4
          clear hb4 HC3 hi4 hr4 hm4 hp4 X8
          go_wp2_with fail
          refine HC4.out.mono ?_
          rintro e z5 ⟨⟨p5, c5, ds5, rfl, hi5, hr5, hm5⟩, hb5⟩
          have Xa := hid (X9.out.on hb5)
          have hfl : ds4.length ≤ 9000000000000000000 := by
            have h1 := congrArg List.length HM4.out
            rw [List.length_map] at h1
            have h3 := X9.out.kept
            omega
          have HC5 := hid (same13_yes (.slice p4 ds4.length c4) (.slice p5 ds5.length c5) ds4 ds5 z5 (Kind.is_kept HI4.out hb5) hi5 (fun x hx => (HR4.out x hx).on hb5) hr5 hfl (HM4.out.trans hm5.symm))
          clear hb5 HC4 hi5 hr5 hm5 hfl X9 HI4 HR4
          go_wp2_with fail
          refine HC5.out.mono ?_
          rintro e z6 ⟨rfl, hb6⟩
          have HB6 : Hid (Below W.heap.size W z6) := (Xa.out.on hb6).below (Nat.le_refl _) fun k hk => hk.elim
          have HN2 := hid (S.add_nil z6 ⟨0, 0, false, ⟨none, 0, [], none, 0, []⟩, none, 0, []⟩)
          simp only [encDx, Mx.ksl, Mx.rsl, Dx.csl, List.length_nil] at HN2
          clear hb6 HC5 Xa
          go_wp2_with fail
          refine HN2.out.mono ?_
          rintro e z7 ⟨rfl, hb7⟩
          have HB7 := hid (bel_then HB6.out HB6.out.size hb7)
          have HN3 := hid (S.drop_nil z7 1)
          clear hb7 HN2
          go_wp2_with fail
          refine HN3.out.mono ?_
          rintro e z8 ⟨rfl, hb8⟩
          have HB8 := hid (bel_then HB7.out HB7.out.size hb8)
          have HN4 := hid (S.len_nil z8)
          clear hb8 HN3
          go_wp2_with fail
          refine HN4.out.mono ?_
          rintro e z9 ⟨rfl, hb9⟩
          have HB9 := hid (bel_then HB8.out HB8.out.size hb9)
          have HN5 := hid (S.sum_nil z9)
          clear hb9 HN4
          go_wp2_with fail
          refine HN5.out.mono ?_
          rintro e za ⟨rfl, hba⟩
          have HBa := hid (bel_then HB9.out HB9.out.size hba)
          have HN6 := hid (S.list_nil za)
          clear hba HN5
          go_wp2_with fail
          refine HN6.out.mono ?_
          rintro e zb hpb
          obtain ⟨⟨p6, c6, ds6, rfl, _, _, hm6⟩, hbb⟩ := list_rd hpb
          obtain rfl : ds6 = [] := List.map_eq_nil_iff.1 hm6
          have HBb := hid (bel_then HBa.out HBa.out.size hbb)
          simp only [List.length_nil]
          clear hbb HN6 hpb hm6
          go_wp2_with fail
          go_ret
          exact ⟨rfl, bel_then HBW.out HBW.out.size HBb.out⟩

end Go.Proofs.Ytmihddbnddgfhaa

/-
  The laws of stage 12: the chapter's examples, as data.
-/
namespace Go.Proofs.Ytmihddbnddgfhaa
open Go.RowKit

def gmA : ByteArray := ⟨#[65]⟩
def gma : Ky := (⟨#[65]⟩, ⟨#[97]⟩)
def gmt : Tm := (⟨#[110]⟩, 1, ⟨#[120]⟩)
def gmX : List Fld := [(⟨#[110]⟩, [⟨#[120]⟩])]
def gmY : List Fld := [(⟨#[110]⟩, [⟨#[121]⟩])]
def gmR : Rg := (⟨#[65]⟩, [gmt])
def gmC : Ch := ⟨gma, true, gmX, true, gmY⟩
def gmD : Ch := ⟨gma, false, [], true, gmY⟩
def gmM : Mk := ([gma], [gmR])
theorem gm_tc : touchesM gmR gmC = true := by decide +kernel
theorem gm_td : touchesM gmR gmD = false := by decide +kernel
theorem gm_key : keyM ([], []) gma = ([gma], []) := by rfl
theorem gm_range : rangeM ([gma], []) gmR = gmM := by rfl
theorem gm_hits : hitsM gmM [gmD] = true := by decide
theorem gm_hitc : hitM gmM gmC = true := by decide
theorem gm_which : whichM gmM [gmC] = [gma] := by
  unfold whichM
  rw [List.foldl_cons, if_pos gm_hitc]
  rfl
theorem gm_union : unionM gmM gmM = gmM := by
  have h1 : gmM.1.foldl (fun acc k => insR ltKy k acc) (sortK gmM.1) = gmM.1 := by
    refine rising_uniqR totK (inss_spec _ _ (sortK_spec _).1).1 (List.pairwise_singleton _ _) fun z => ?_
    rw [(inss_spec _ _ (sortK_spec _).1).2, (sortK_spec _).2]
    simp
  have h2 : gmM.2.foldl putR (gmM.2.foldl putR []) = gmM.2 := by
    show putR (putR [] gmR) gmR = [gmR]
    have e : putR [] gmR = [gmR] := rfl
    rw [e]
    unfold putR
    rw [if_pos (by simp)]
  unfold unionM
  rw [h1, h2]
theorem gm_ne : decide (gmM = (([], []) : Mk)) = false := decide_eq_false fun h => by
  have := congrArg (fun m : Mk => m.1.length) h
  simp [gmM] at this
theorem gm_fit : FitKy12 gma := ⟨by decide, by decide⟩

end Go.Proofs.Ytmihddbnddgfhaa
