/-
  Texts of this claim, one behind the other: Yl7 Mfd Mfw Yfx Yfw Ya4.
-/
import Derived.Test.YtmihddbnddgfhaaPg
import Derived.Test.YtmihddbnddgfhaaPc
import Derived.Test.YtmihddbnddgfhaaRows
/-
  TrackSerial (stage 13): the walk.
-/
namespace Go.Proofs.Ytmihddbnddgfhaa
open Go.RowKit

set_option maxHeartbeats 8000000 in
set_option maxRecDepth 100000 in
theorem tserial13_any (S : TrackApi) (hF : Fixed13) (most : Int) (v : Value) (ts : List Ty13) (W : World) (hv : KTy.Is W v ts) (hx : ∀ x ∈ ts, TIn W x) (hl : ts.length ≤ 9000000000000000000) :
    Calls Try.prog 6 #[.int .i64 most, v] W fun e w' => e = .returned (.bool true) ∧ Below W.heap.size W w' := by
  obtain ⟨i0, hi0, hz0, hz1, hz2⟩ := info_parts Try.infoDx
  have HI0 := hid hi0
  obtain ⟨p, cap, rfl, hd⟩ := hv
  have HD := hid hd
  have HX := hid hx
  have HF1 := hid (hF W)
  have HNW : Hid (∀ w1, Below W.heap.size W w1 → Calls Try.prog 10 #[.int .i64 most] w1 fun e w' => ∃ g, e = .returned (.pointer (some ⟨g, 0, none⟩)) ∧ SeSt S W g (newT most) (.slice none 0 0) [] w') := fun w1 hb =>
    (S.new W.heap.size w1 most hb.size).mono fun e w' ⟨B, g, he, hp, hb1, hB⟩ => ⟨g, he, ⟨⟨B, hp, fun k _ e => by cases e⟩, RowSt.nil KDx (bel_then hb hb.size hb1) (Nat.le_trans hb.size hb1.size)⟩⟩
  clear hd hx hi0
  go_enter Try.func6, Try.ntmps6
  go_wp2_with fail
  refine HF1.out.mono ?_
  rintro e w1 ⟨rfl, hb1⟩
  have HN1 := hid (HNW.out w1 hb1)
  clear hb1 HF1 HNW
  go_wp2_with fail
  refine HN1.out.mono ?_
  rintro e w2 ⟨g, rfl, h2⟩
  have H2 := hid h2
  have HR2 : Hid (RunT (newT most) 0 0 (([] : List Dx).map Dx.dn)) := ⟨ser_new most, fun s hs => (by cases hs), by omega, by omega⟩
  clear h2 HN1
  go_wp2_with fail
  go_loopg [6, 7, 8] ts.length (fun gg v6 v7 v8 wr => ∃ (i : Nat) (L : Int) (t : Tk) (p' : Option Addr) (c' : Nat) (ds : List Dx), v6 = .slice p' ds.length c' ∧ v7 = .int .u64 L ∧ v8 = .int .i64 i ∧ i ≤ ts.length ∧ i ≤ 64 ∧ ts.length - i ≤ gg ∧ ds.length ≤ i ∧ 0 ≤ L ∧ L ≤ 64 ∧ Hid (RunT t L i (ds.map Dx.dn)) ∧ Hid (SeSt S W g t (.slice p' ds.length c') ds wr) ∧ Hid (∀ d ∈ ds, DIn W d))
  case atStart => exact ⟨0, 0, newT most, none, 0, [], rfl, rfl, rfl, by omega, by omega, by omega, by simp, by omega, by omega, HR2.out, H2.out, fun d hd => by simp at hd⟩
  case round =>
    clear H2 HR2
    obtain ⟨i, L, t, p', c', ds, rfl, rfl, rfl, hi, hi64, hgk, hdl, hL0, hL64, HR, HS, HDS⟩ := hrel
    have hbw : Below W.heap.size W wr := HS.out.row.bel
    by_cases hlt : i < ts.length ∧ i < 64
    · have hltz : (i : Int) < (ts.length : Int) := by omega
      have hltz2 : (i : Int) < 64 := by omega
      have hiz : (0 : Int) ≤ (i : Int) := by omega
      obtain ⟨b1, o1, rfl, k1⟩ : ∃ b off, p = some ⟨b, off, none⟩ ∧ KTy.At wr b off ts := by
        rcases HD.out with h | ⟨b, off, h, k⟩
        · rw [h] at hlt; simp at hlt
        · exact ⟨b, off, h, Kind.at_kept k hbw⟩
      obtain ⟨y0, y1, y2, y3⟩ := kty_at k1 i hlt.1
      have hti := HX.out _ (List.getElem_mem hlt.1)
      have hlt1 := hlt.1
      generalize ts[i] = x at *
      obtain ⟨bk, ⟨kp, kc, ks, rp, rc, rs⟩, cp, cc, cs⟩ := x
      have hbk := hti.back
      simp only [Mx.ksl, Mx.rsl, Ty13.csl] at *
      obtain ⟨sn, hsn⟩ : ∃ sn, L - min L bk = sn := ⟨_, rfl⟩
      have hsn0 : 0 ≤ sn := by omega
      have hsn1 : sn ≤ L := by omega
      have hwr : IntKind.u64.wrap (L - min L bk) = sn := by rw [hsn, IntKind.wrap_u64]; omega
      have hcv : IntKind.u64.wrap bk = bk := by rw [IntKind.wrap_u64]; omega
      obtain ⟨O, hO⟩ : ∃ O, wr.heap.size = O := ⟨_, rfl⟩
      obtain ⟨V, hV⟩ : ∃ V, (wr.alloc (.cells #[.int .u8 bk, .slice kp ks.length kc, .slice rp rs.length rc, .slice cp cs.length cc] 57)).alloc (.cells #[.int .u64 sn, .int .u64 L, .bool false, .slice kp ks.length kc, .slice rp rs.length rc, .slice cp cs.length cc] 35) = V := ⟨_, rfl⟩
      have hbV : Below wr.heap.size wr V := by rw [← hV]; exact ((Below.refl _ _).alloc (Nat.le_refl _) _).alloc (by simp) _
      have hV0 : V.heap[O]? = some (.cells #[.int .u8 bk, .slice kp ks.length kc, .slice rp rs.length rc, .slice cp cs.length cc] 57 (0, 0)) := by rw [← hV, ← hO]; exact (Below.heap_alloc _ _ _ (by simp)).trans (heap_alloc_new wr _)
      have hV1 : V.heap[O + 1]? = some (.cells #[.int .u64 sn, .int .u64 L, .bool false, .slice kp ks.length kc, .slice rp rs.length rc, .slice cp cs.length cc] 35 (0, 0)) := by
        have := heap_alloc_new (wr.alloc (.cells #[.int .u8 bk, .slice kp ks.length kc, .slice rp rs.length rc, .slice cp cs.length cc] 57)) (.cells #[.int .u64 sn, .int .u64 L, .bool false, .slice kp ks.length kc, .slice rp rs.length rc, .slice cp cs.length cc] 35)
        rw [World.size_alloc, hO, hV] at this
        exact this
      have hVs : V.heap.size = O + 2 := by rw [← hV, ← hO]; simp
      have hbWV : Below W.heap.size W V := bel_then hbw hbw.size hbV
      have htV := hti.on hbWV
      have HCK := hid (se_check (HS.out.on hbV) sn ⟨kp, kc, ks, rp, rc, rs⟩ (.slice cp cs.length cc) cs hsn0 (by omega) htV.mrk htV.chg htV.sz)
      obtain ⟨X, hX⟩ : ∃ X, checkT t sn (Mx.mk' ⟨kp, kc, ks, rp, rc, rs⟩) (cs.map Cx.ch) = X := ⟨_, rfl⟩
      rw [hX] at HCK
      have HXE := hid hX
      have HCC := hid (check_code t sn (Mx.mk' ⟨kp, kc, ks, rp, rc, rs⟩) (cs.map Cx.ch))
      rw [hX] at HCC
      have HAL : Hid (bk = 0 → X = (false, 0)) := fun h => by
        rw [← hX, show sn = L by omega]
        exact run_alone HR.out _ _
      have KB : Hid (∀ W' : World, W'.heap[O]? = V.heap[O]? → W'.cell? ⟨O, 0, none⟩ = some (.int .u8 bk)) := fun W' h => by rw [Lib.cell_of_heap (h.trans hV0)]; rfl
      have HTI := hid hti
      have HBV := hid hbV
      have HV1 := hid hV1
      have z0 : V.cell? ⟨O + 1, 0, none⟩ = some (.int .u64 sn) := by rw [Lib.cell_of_heap hV1]; rfl
      have z3 : V.cell? ⟨O + 1, 3, none⟩ = some (.slice kp ks.length kc) := by rw [Lib.cell_of_heap hV1]; rfl
      have z4 : V.cell? ⟨O + 1, 4, none⟩ = some (.slice rp rs.length rc) := by rw [Lib.cell_of_heap hV1]; rfl
      have z5 : V.cell? ⟨O + 1, 5, none⟩ = some (.slice cp cs.length cc) := by rw [Lib.cell_of_heap hV1]; rfl
      have zb := KB.out V rfl
      simp only [encMx, Mx.ksl, Mx.rsl] at HCK
      clear k1 hti hX hbV hV0 hV1 hbWV htV
      go_wp2_with fail
      refine HCK.out.mono ?_
      rintro e w3 ⟨rfl, hb3⟩
      have ho3 := (hb3.block (O + 1) (by omega)).trans HV1.out
      have hs3 := hb3.size
      have HB3 := hid hb3
      clear z0 z3 z4 z5 zb
      have zb := KB.out w3 (hb3.block O (by omega))
      have z0 : w3.cell? ⟨O + 1, 0, none⟩ = some (.int .u64 sn) := by rw [Lib.cell_of_heap ho3]; rfl
      have z1 : w3.cell? ⟨O + 1, 1, none⟩ = some (.int .u64 L) := by rw [Lib.cell_of_heap ho3]; rfl
      have z2 : w3.cell? ⟨O + 1, 2, none⟩ = some (.bool false) := by rw [Lib.cell_of_heap ho3]; rfl
      have z3 : w3.cell? ⟨O + 1, 3, none⟩ = some (.slice kp ks.length kc) := by rw [Lib.cell_of_heap ho3]; rfl
      have z4 : w3.cell? ⟨O + 1, 4, none⟩ = some (.slice rp rs.length rc) := by rw [Lib.cell_of_heap ho3]; rfl
      have z5 : w3.cell? ⟨O + 1, 5, none⟩ = some (.slice cp cs.length cc) := by rw [Lib.cell_of_heap ho3]; rfl
      have fz1 : w3.frozen? ⟨O + 1, 1, none⟩ = false := Lib.frozen_of_heap ho3 1
      have fz2 : w3.frozen? ⟨O + 1, 2, none⟩ = false := Lib.frozen_of_heap ho3 2
      clear hb3 HCK y0 y1 y2 y3
      obtain ⟨X1, X2⟩ := X
      have hcc := HCC.out
      simp only at hcc
      clear HCC
      rcases hcc with rfl | rfl
      · by_cases hcs : 0 < cs.length
        · have hcz : (0 : Int) < (cs.length : Int) := by omega
          have hwl : IntKind.u64.wrap (L + 1) = L + 1 := by rw [IntKind.wrap_u64]; omega
          have hb5 : Below wr.heap.size wr ((w3.setCell ⟨O + 1, 1, none⟩ (.int .u64 (L + 1))).setCell ⟨O + 1, 2, none⟩ (.bool X1)) := ((bel_then HBV.out HBV.out.size HB3.out).setCell (show wr.heap.size ≤ O + 1 by omega) _).setCell (show wr.heap.size ≤ O + 1 by omega) _
          have ho5 : ((w3.setCell ⟨O + 1, 1, none⟩ (.int .u64 (L + 1))).setCell ⟨O + 1, 2, none⟩ (.bool X1)).heap[O + 1]? = some (.cells #[.int .u64 sn, .int .u64 (L + 1), .bool X1, .slice kp ks.length kc, .slice rp rs.length rc, .slice cp cs.length cc] 35 (0, 0)) := heap_setCell_same (w3.setCell ⟨O + 1, 1, none⟩ (.int .u64 (L + 1))) (O + 1) 2 _ _ _ (heap_setCell_same w3 (O + 1) 1 _ _ _ ho3)
          have hs5 : ((w3.setCell ⟨O + 1, 1, none⟩ (.int .u64 (L + 1))).setCell ⟨O + 1, 2, none⟩ (.bool X1)).heap.size = w3.heap.size := by simp
          have hbW5 : Below W.heap.size W ((w3.setCell ⟨O + 1, 1, none⟩ (.int .u64 (L + 1))).setCell ⟨O + 1, 2, none⟩ (.bool X1)) := bel_then HS.out.row.bel HS.out.row.bel.size hb5
          have ht5 := HTI.out.on hbW5
          have HDI : Hid (DIn ((w3.setCell ⟨O + 1, 1, none⟩ (.int .u64 (L + 1))).setCell ⟨O + 1, 2, none⟩ (.bool X1)) ⟨sn, (L + 1), X1, ⟨kp, kc, ks, rp, rc, rs⟩, cp, cc, cs⟩) := ⟨ht5.mrk, ht5.chg, ht5.sz, ⟨hsn0, by show sn ≤ 18446744073709551615; omega⟩, ⟨by show 0 ≤ (L + 1); omega, by show (L + 1) ≤ 18446744073709551615; omega⟩⟩
          have HDW : Hid (DIn W ⟨sn, (L + 1), X1, ⟨kp, kc, ks, rp, rc, rs⟩, cp, cc, cs⟩) := ⟨HTI.out.mrk, HTI.out.chg, HTI.out.sz, ⟨hsn0, by show sn ≤ 18446744073709551615; omega⟩, ⟨by show 0 ≤ (L + 1); omega, by show (L + 1) ≤ 18446744073709551615; omega⟩⟩
          have hrun := run_add (L' := (L + 1)) HR.out (Dx.dn ⟨sn, (L + 1), X1, ⟨kp, kc, ks, rp, rc, rs⟩, cp, cc, cs⟩) (by show (checkT t sn (Mx.mk' ⟨kp, kc, ks, rp, rc, rs⟩) (cs.map Cx.ch)).2 = 0; rw [HXE.out]) (by show X1 = (checkT t sn (Mx.mk' ⟨kp, kc, ks, rp, rc, rs⟩) (cs.map Cx.ch)).1; rw [HXE.out]) rfl (by omega)
          have HRN := hid hrun.2
          have HAD := hid (se_add HS.out hb5 ⟨sn, (L + 1), X1, ⟨kp, kc, ks, rp, rc, rs⟩, cp, cc, cs⟩ HDI.out)
          rw [hrun.1] at HAD
          obtain ⟨T2, hT2⟩ : ∃ T2, keepT t (Dx.dn ⟨sn, (L + 1), X1, ⟨kp, kc, ks, rp, rc, rs⟩, cp, cc, cs⟩) = T2 := ⟨_, rfl⟩
          rw [hT2] at HRN HAD
          have HB6 : Hid (∀ w6 : World, w6.heap[O + 1]? = ((w3.setCell ⟨O + 1, 1, none⟩ (.int .u64 (L + 1))).setCell ⟨O + 1, 2, none⟩ (.bool X1)).heap[O + 1]? → w6.cell? ⟨O + 1, 0, none⟩ = some (.int .u64 sn) ∧ w6.cell? ⟨O + 1, 1, none⟩ = some (.int .u64 (L + 1)) ∧ w6.cell? ⟨O + 1, 2, none⟩ = some (.bool X1) ∧ w6.cell? ⟨O + 1, 3, none⟩ = some (.slice kp ks.length kc) ∧ w6.cell? ⟨O + 1, 4, none⟩ = some (.slice rp rs.length rc) ∧ w6.cell? ⟨O + 1, 5, none⟩ = some (.slice cp cs.length cc)) := fun w6 h => by
            have := h.trans ho5
            exact ⟨by rw [Lib.cell_of_heap this]; rfl, by rw [Lib.cell_of_heap this]; rfl, by rw [Lib.cell_of_heap this]; rfl, by rw [Lib.cell_of_heap this]; rfl, by rw [Lib.cell_of_heap this]; rfl, by rw [Lib.cell_of_heap this]; rfl⟩
          simp only [encDx, Mx.ksl, Mx.rsl, Dx.csl] at HAD
          clear hb5 ho5 hbW5 ht5 hrun hT2 HDI
          go_wp2_with fail
          refine HAD.out.mono ?_
          rintro e w6 ⟨rfl, h6, hk6⟩
          obtain ⟨q0, q1, q2, q3, q4, q5⟩ := HB6.out w6 (hk6 (O + 1) (by omega) (by rw [hs5]; omega))
          have hb67 : Below w6.heap.size w6 (w6.alloc (.cells #[.int .u64 sn, .int .u64 (L + 1), .bool X1, .slice kp ks.length kc, .slice rp rs.length rc, .slice cp cs.length cc] 35)) := (Below.refl _ _).alloc (Nat.le_refl _) _
          have H7 := hid (h6.on hb67)
          have HN7 : Hid ((w6.alloc (.cells #[.int .u64 sn, .int .u64 (L + 1), .bool X1, .slice kp ks.length kc, .slice rp rs.length rc, .slice cp cs.length cc] 35)).heap[w6.heap.size]? = some (.cells #[.int .u64 sn, .int .u64 (L + 1), .bool X1, .slice kp ks.length kc, .slice rp rs.length rc, .slice cp cs.length cc] 35 (0, 0))) := heap_alloc_new w6 _
          have HROW := hid H7.out.row
          clear h6 hk6 hb67 z0 z1 z2 z3 z4 z5 fz1 fz2 zb
          go_wp2_with (at_builtin; refine wpList_push KDx rfl _ _ 41 rfl i0 _ 96 Try.underlying41 HI0.out hz0 hz1 hz2 rfl W.heap.size W _ ds rfl HROW.out ⟨sn, (L + 1), X1, ⟨kp, kc, ks, rp, rc, rs⟩, cp, cc, cs⟩ _ _ _ rfl rfl _ _ HN7.out (by unfold maxLen; omega) (by omega) ?_; intro g8 c8 w8 hst8 hg8 hn8; have HS8 := hid (H7.out.push hst8 hg8 hn8); clear hst8 hg8 hn8)
          go_roundg (ts.length - (i + 1))
          case measure => omega
          exact ⟨i + 1, (L + 1), T2, some ⟨g8, 0, none⟩, c8, ds ++ [⟨sn, (L + 1), X1, ⟨kp, kc, ks, rp, rc, rs⟩, cp, cc, cs⟩], by rw [List.length_append]; rfl, by first | rfl | go_num, by go_num, by omega, by omega, by omega, by rw [List.length_append]; simp; omega, by omega, by have := HRN.out.low; omega, by rw [List.map_append]; exact HRN.out, by rw [List.length_append]; exact HS8.out, fun d hd => by
            rcases List.mem_append.1 hd with hd | hd
            · exact HDS.out d hd
            · rw [List.mem_singleton.1 hd]; exact HDW.out⟩
        · have hcz : ¬ (0 : Int) < (cs.length : Int) := by omega
          have hb5 : Below wr.heap.size wr (w3.setCell ⟨O + 1, 2, none⟩ (.bool X1)) := (bel_then HBV.out HBV.out.size HB3.out).setCell (show wr.heap.size ≤ O + 1 by omega) _
          have ho5 : (w3.setCell ⟨O + 1, 2, none⟩ (.bool X1)).heap[O + 1]? = some (.cells #[.int .u64 sn, .int .u64 L, .bool X1, .slice kp ks.length kc, .slice rp rs.length rc, .slice cp cs.length cc] 35 (0, 0)) := heap_setCell_same w3 (O + 1) 2 _ _ _ ho3
          have hs5 : (w3.setCell ⟨O + 1, 2, none⟩ (.bool X1)).heap.size = w3.heap.size := by simp
          have hbW5 : Below W.heap.size W (w3.setCell ⟨O + 1, 2, none⟩ (.bool X1)) := bel_then HS.out.row.bel HS.out.row.bel.size hb5
          have ht5 := HTI.out.on hbW5
          have HDI : Hid (DIn (w3.setCell ⟨O + 1, 2, none⟩ (.bool X1)) ⟨sn, L, X1, ⟨kp, kc, ks, rp, rc, rs⟩, cp, cc, cs⟩) := ⟨ht5.mrk, ht5.chg, ht5.sz, ⟨hsn0, by show sn ≤ 18446744073709551615; omega⟩, ⟨by show 0 ≤ L; omega, by show L ≤ 18446744073709551615; omega⟩⟩
          have HDW : Hid (DIn W ⟨sn, L, X1, ⟨kp, kc, ks, rp, rc, rs⟩, cp, cc, cs⟩) := ⟨HTI.out.mrk, HTI.out.chg, HTI.out.sz, ⟨hsn0, by show sn ≤ 18446744073709551615; omega⟩, ⟨by show 0 ≤ L; omega, by show L ≤ 18446744073709551615; omega⟩⟩
          have hrun := run_add (L' := L) HR.out (Dx.dn ⟨sn, L, X1, ⟨kp, kc, ks, rp, rc, rs⟩, cp, cc, cs⟩) (by show (checkT t sn (Mx.mk' ⟨kp, kc, ks, rp, rc, rs⟩) (cs.map Cx.ch)).2 = 0; rw [HXE.out]) (by show X1 = (checkT t sn (Mx.mk' ⟨kp, kc, ks, rp, rc, rs⟩) (cs.map Cx.ch)).1; rw [HXE.out]) rfl (by omega)
          have HRN := hid hrun.2
          have HAD := hid (se_add HS.out hb5 ⟨sn, L, X1, ⟨kp, kc, ks, rp, rc, rs⟩, cp, cc, cs⟩ HDI.out)
          rw [hrun.1] at HAD
          obtain ⟨T2, hT2⟩ : ∃ T2, keepT t (Dx.dn ⟨sn, L, X1, ⟨kp, kc, ks, rp, rc, rs⟩, cp, cc, cs⟩) = T2 := ⟨_, rfl⟩
          rw [hT2] at HRN HAD
          have HB6 : Hid (∀ w6 : World, w6.heap[O + 1]? = (w3.setCell ⟨O + 1, 2, none⟩ (.bool X1)).heap[O + 1]? → w6.cell? ⟨O + 1, 0, none⟩ = some (.int .u64 sn) ∧ w6.cell? ⟨O + 1, 1, none⟩ = some (.int .u64 L) ∧ w6.cell? ⟨O + 1, 2, none⟩ = some (.bool X1) ∧ w6.cell? ⟨O + 1, 3, none⟩ = some (.slice kp ks.length kc) ∧ w6.cell? ⟨O + 1, 4, none⟩ = some (.slice rp rs.length rc) ∧ w6.cell? ⟨O + 1, 5, none⟩ = some (.slice cp cs.length cc)) := fun w6 h => by
            have := h.trans ho5
            exact ⟨by rw [Lib.cell_of_heap this]; rfl, by rw [Lib.cell_of_heap this]; rfl, by rw [Lib.cell_of_heap this]; rfl, by rw [Lib.cell_of_heap this]; rfl, by rw [Lib.cell_of_heap this]; rfl, by rw [Lib.cell_of_heap this]; rfl⟩
          simp only [encDx, Mx.ksl, Mx.rsl, Dx.csl] at HAD
          clear hb5 ho5 hbW5 ht5 hrun hT2 HDI
          go_wp2_with fail
          refine HAD.out.mono ?_
          rintro e w6 ⟨rfl, h6, hk6⟩
          obtain ⟨q0, q1, q2, q3, q4, q5⟩ := HB6.out w6 (hk6 (O + 1) (by omega) (by rw [hs5]; omega))
          have hb67 : Below w6.heap.size w6 (w6.alloc (.cells #[.int .u64 sn, .int .u64 L, .bool X1, .slice kp ks.length kc, .slice rp rs.length rc, .slice cp cs.length cc] 35)) := (Below.refl _ _).alloc (Nat.le_refl _) _
          have H7 := hid (h6.on hb67)
          have HN7 : Hid ((w6.alloc (.cells #[.int .u64 sn, .int .u64 L, .bool X1, .slice kp ks.length kc, .slice rp rs.length rc, .slice cp cs.length cc] 35)).heap[w6.heap.size]? = some (.cells #[.int .u64 sn, .int .u64 L, .bool X1, .slice kp ks.length kc, .slice rp rs.length rc, .slice cp cs.length cc] 35 (0, 0))) := heap_alloc_new w6 _
          have HROW := hid H7.out.row
          clear h6 hk6 hb67 z0 z1 z2 z3 z4 z5 fz1 fz2 zb
          go_wp2_with (at_builtin; refine wpList_push KDx rfl _ _ 41 rfl i0 _ 96 Try.underlying41 HI0.out hz0 hz1 hz2 rfl W.heap.size W _ ds rfl HROW.out ⟨sn, L, X1, ⟨kp, kc, ks, rp, rc, rs⟩, cp, cc, cs⟩ _ _ _ rfl rfl _ _ HN7.out (by unfold maxLen; omega) (by omega) ?_; intro g8 c8 w8 hst8 hg8 hn8; have HS8 := hid (H7.out.push hst8 hg8 hn8); clear hst8 hg8 hn8)
          go_roundg (ts.length - (i + 1))
          case measure => omega
          exact ⟨i + 1, L, T2, some ⟨g8, 0, none⟩, c8, ds ++ [⟨sn, L, X1, ⟨kp, kc, ks, rp, rc, rs⟩, cp, cc, cs⟩], by rw [List.length_append]; rfl, by first | rfl | go_num, by go_num, by omega, by omega, by omega, by rw [List.length_append]; simp; omega, by omega, by have := HRN.out.low; omega, by rw [List.map_append]; exact HRN.out, by rw [List.length_append]; exact HS8.out, fun d hd => by
            rcases List.mem_append.1 hd with hd | hd
            · exact HDS.out d hd
            · rw [List.mem_singleton.1 hd]; exact HDW.out⟩
      · by_cases hb0 : bk = 0
        · have := HAL.out hb0
          cases this
        · have hbz : (bk == 0) = false := by simp [hb0]
          have HS3 := hid (HS.out.on (bel_then HBV.out HBV.out.size HB3.out))
          go_wp2_with fail
          go_roundg (ts.length - (i + 1))
          case measure => omega
          exact ⟨i + 1, L, t, p', c', ds, rfl, rfl, by go_num, by omega, by omega, by omega, by omega, by omega, by omega, run_skip HR.out, HS3.out, HDS.out⟩
    · have HOR := hid (ordered13_any p' c' ds wr HS.out.row.is (fun d hd => (HDS.out d hd).on hbw) (by omega) HR.out.ser)
      have HBW := hid hbw
      by_cases hl1 : i < ts.length
      · have hlz : (i : Int) < (ts.length : Int) := by omega
        have hlz2 : ¬ (i : Int) < 64 := by omega
        go_wp2_with fail
        refine HOR.out.mono ?_
        rintro e w5 ⟨rfl, hb5⟩
        have HB5 := hid (bel_then HBW.out HBW.out.size hb5)
        clear hb5
        go_wp2_with fail
        go_ret
        exact ⟨rfl, HB5.out⟩
      · have hlz : ¬ (i : Int) < (ts.length : Int) := by omega
        go_wp2_with fail
        refine HOR.out.mono ?_
        rintro e w5 ⟨rfl, hb5⟩
        have HB5 := hid (bel_then HBW.out HBW.out.size hb5)
        clear hb5
        go_wp2_with fail
        go_ret
        exact ⟨rfl, HB5.out⟩

end Go.Proofs.Ytmihddbnddgfhaa

/-
  The laws of stage 12: the chapter's examples, as data.
-/
namespace Go.Proofs.Ytmihddbnddgfhaa
open Go.RowKit

def gmA : ByteArray := ⟨#[65]⟩
def gma : Ky := (⟨#[65]⟩, ⟨#[97]⟩)
def gmt : Tm := (⟨#[110]⟩, 1, ⟨#[120]⟩)
def gmX : List Fld := [(⟨#[110]⟩, [⟨#[120]⟩])]
def gmY : List Fld := [(⟨#[110]⟩, [⟨#[121]⟩])]
def gmR : Rg := (⟨#[65]⟩, [gmt])
def gmC : Ch := ⟨gma, true, gmX, true, gmY⟩
def gmD : Ch := ⟨gma, false, [], true, gmY⟩
def gmM : Mk := ([gma], [gmR])
theorem gm_tc : touchesM gmR gmC = true := by decide +kernel
theorem gm_td : touchesM gmR gmD = false := by decide +kernel
theorem gm_key : keyM ([], []) gma = ([gma], []) := by rfl
theorem gm_range : rangeM ([gma], []) gmR = gmM := by rfl
theorem gm_hits : hitsM gmM [gmD] = true := by decide
theorem gm_hitc : hitM gmM gmC = true := by decide
theorem gm_which : whichM gmM [gmC] = [gma] := by
  unfold whichM
  rw [List.foldl_cons, if_pos gm_hitc]
  rfl
theorem gm_union : unionM gmM gmM = gmM := by
  have h1 : gmM.1.foldl (fun acc k => insR ltKy k acc) (sortK gmM.1) = gmM.1 := by
    refine rising_uniqR totK (inss_spec _ _ (sortK_spec _).1).1 (List.pairwise_singleton _ _) fun z => ?_
    rw [(inss_spec _ _ (sortK_spec _).1).2, (sortK_spec _).2]
    simp
  have h2 : gmM.2.foldl putR (gmM.2.foldl putR []) = gmM.2 := by
    show putR (putR [] gmR) gmR = [gmR]
    have e : putR [] gmR = [gmR] := rfl
    rw [e]
    unfold putR
    rw [if_pos (by simp)]
  unfold unionM
  rw [h1, h2]
theorem gm_ne : decide (gmM = (([], []) : Mk)) = false := decide_eq_false fun h => by
  have := congrArg (fun m : Mk => m.1.length) h
  simp [gmM] at this
theorem gm_fit : FitKy12 gma := ⟨by decide, by decide⟩

end Go.Proofs.Ytmihddbnddgfhaa

/-
  The laws of stage 12: the chapter's examples, walked.
-/
namespace Go.Proofs.Ytmihddbnddgfhaa
open Go.RowKit

/-- The field n with one text, as it lies. -/
def gmF (t : ByteArray) (b : Nat) : List Fx := [⟨⟨#[110]⟩, some ⟨b, 0, none⟩, 1, [t]⟩]
theorem gmf_is {W : World} {t : ByteArray} {b c : Nat} (h1 : W.heap[c]? = some (.cells #[.string ⟨#[110]⟩, .slice (some ⟨b, 0, none⟩) 1 1] 90 (0, 0))) (h2 : W.heap[b]? = some (.cells #[.string t] 9 (0, 0))) : IsXs W (.slice (some ⟨c, 0, none⟩) 1 1) (gmF t b) := by
  refine ⟨_, _, rfl, Or.inr ⟨_, _, rfl, fun i hi => ?_⟩, fun x hx => ?_⟩
  · have hi' : i = 0 := by simpa [gmF] using hi
    subst hi'
    exact ⟨by rw [Lib.cell_of_heap h1]; rfl, by rw [Lib.cell_of_heap h1]; rfl⟩
  · rw [gmF, List.mem_singleton] at hx
    subst hx
    refine Or.inr ⟨_, _, rfl, fun i hi => ?_⟩
    have hi' : i = 0 := by simpa using hi
    subst hi'
    rw [Lib.cell_of_heap h2]; rfl
theorem gmf_cp (t : ByteArray) (b : Nat) : CopyX (gmF t b) := by
  refine ⟨by simp [gmF], fun x hx => ?_⟩
  rw [gmF, List.mem_singleton] at hx
  subst hx
  show 1 * 16 ≤ _
  omega
theorem copyX_nil : CopyX [] := ⟨by simp, fun x hx => by cases hx⟩
theorem gmf_fit (t : ByteArray) (b : Nat) (h : t.size ≤ 1) : FitX (gmF t b) := by
  refine ⟨by unfold maxLen; simp [gmF], fun x hx => ?_⟩
  rw [gmF, List.mem_singleton] at hx
  subst hx
  refine ⟨show (⟨#[110]⟩ : ByteArray).size ≤ maxLen by decide, show [t].length ≤ maxLen by unfold maxLen; simp, fun t' ht => ?_⟩
  have e : t' = t := by simpa [Fx.fld] using ht
  subst e
  unfold maxLen
  omega

/-- The nine blocks that are laid first. -/
def gmBlocks (N : Nat) : List (Array Value × TypeId) := [
  (#[.string ⟨#[120]⟩], 9), (#[.string ⟨#[110]⟩, .slice (some ⟨N, 0, none⟩) 1 1], 90),
  (#[.string ⟨#[121]⟩], 9), (#[.string ⟨#[110]⟩, .slice (some ⟨N + 2, 0, none⟩) 1 1], 90),
  (#[.string ⟨#[65]⟩, .string ⟨#[97]⟩], 67),
  (#[.string ⟨#[110]⟩, .int .i64 1, .string ⟨#[120]⟩], 87), (#[.string ⟨#[65]⟩, .slice (some ⟨N + 5, 0, none⟩) 1 1], 85),
  (#[.string ⟨#[65]⟩, .string ⟨#[97]⟩, .bool true, .slice (some ⟨N + 1, 0, none⟩) 1 1, .bool true, .slice (some ⟨N + 3, 0, none⟩) 1 1], 70),
  (#[.string ⟨#[65]⟩, .string ⟨#[97]⟩, .bool false, .slice none 0 0, .bool true, .slice (some ⟨N + 3, 0, none⟩) 1 1], 70)]
/-- Blocks laid one behind the other. -/
def laidB (w : World) (l : List (Array Value × TypeId)) : World := l.foldl (fun w x => w.alloc (.cells x.1 x.2)) w
theorem laidB_spec : ∀ (l : List (Array Value × TypeId)) (w : World), Below w.heap.size w (laidB w l) ∧ (laidB w l).heap.size = w.heap.size + l.length ∧ ∀ i (h : i < l.length), (laidB w l).heap[w.heap.size + i]? = some (.cells (l[i]).1 (l[i]).2 (0, 0))
  | [], w => ⟨Below.refl _ _, rfl, fun i h => by simp at h⟩
  | x :: r, w => by
    obtain ⟨h1, h2, h3⟩ := laidB_spec r (w.alloc (.cells x.1 x.2))
    have hs : (w.alloc (.cells x.1 x.2)).heap.size = w.heap.size + 1 := by simp
    have hb : Below w.heap.size w (w.alloc (.cells x.1 x.2)) := (Below.refl _ _).alloc (Nat.le_refl _) _
    have e : laidB w (x :: r) = laidB (w.alloc (.cells x.1 x.2)) r := rfl
    rw [e]
    refine ⟨bel_then hb (by omega) h1, by rw [h2, hs, List.length_cons]; omega, fun i h => ?_⟩
    cases i with
    | zero =>
      rw [Nat.add_zero, h1.block _ (by omega)]
      exact heap_alloc_new w _
    | succ i =>
      have := h3 i (by simpa using h)
      rw [hs] at this
      rw [show w.heap.size + (i + 1) = w.heap.size + 1 + i by omega]
      exact this

/-- The state between the calls of 'm := marks.Range(marks.Key(..), ..)'. -/
def GmSt (V : World) (k : Nat) (fl : List Bool) (v27 v30 v7 : Value) (w : World) : Prop := ∃ (B : Nat) (m1 m : Mx), Below V.heap.size V w ∧ (k = 3 → fl = [true]) ∧
  (fl = [true] → v7 = .pointer (some ⟨B, 0, none⟩) ∧ V.heap.size ≤ B ∧ w.heap[B]? = some (.cells (if k = 3 then (encMx m).toArray else #[.slice none 0 0, .slice none 0 0]) 32 (0, 0))) ∧
  (1 ≤ k → v27 = .agg (encMx m1).toArray ∧ m1.mk' = ([gma], []) ∧ ∀ w', Fr (fun b => fl = [true] ∧ b = B) w w' → MIn w' m1) ∧
  (2 ≤ k → v30 = .agg (encMx m).toArray ∧ m.mk' = gmM ∧ ∀ w', Fr (fun b => fl = [true] ∧ b = B) w w' → MIn w' m)

theorem gmSt_start {V w : World} (v27 v30 v7 : Value) (h : Below V.heap.size V w) : GmSt V 0 [false] v27 v30 v7 w :=
  ⟨0, default, default, h, (fun h => by omega), (fun h => by cases h), (fun h => by omega), (fun h => by omega)⟩
theorem gmSt_key {V w w2 : World} {fl : List Bool} {v27 v30 v7 : Value} {m2 : Mx} (h : GmSt V 0 fl v27 v30 v7 w) (ho : MOwn w.heap.size w2 m2) (hk : m2.mk' = ([gma], [])) (hb2 : Below w.heap.size w w2) : GmSt V 1 fl (.agg (encMx m2).toArray) v30 v7 w2 := by
  obtain ⟨B, m1, m, hb, hg3, hbox, hm1, hm⟩ := h
  exact ⟨B, m2, m, bel_then hb hb.size hb2, (fun h => by omega), (fun h => by
    obtain ⟨h1, h2, h3⟩ := hbox h
    exact ⟨h1, h2, (hb2.block B (Array.getElem?_eq_some_iff.1 h3).1).trans h3⟩), (fun _ => ⟨rfl, hk, fun w3 f => (ho.fr f fun k hk => by
      obtain ⟨h, rfl⟩ := hk
      exact (Array.getElem?_eq_some_iff.1 (hbox h).2.2).1).inn⟩), (fun h => by omega)⟩
theorem gmSt_range {V w w2 : World} {fl : List Bool} {v27 v30 v7 : Value} {m2 : Mx} (h : GmSt V 1 fl v27 v30 v7 w) (ho : MOwn w.heap.size w2 m2) (hk : m2.mk' = gmM) (hb2 : Below w.heap.size w w2) : GmSt V 2 fl v27 (.agg (encMx m2).toArray) v7 w2 := by
  obtain ⟨B, m1, m, hb, hg3, hbox, hm1, hm⟩ := h
  exact ⟨B, m1, m2, bel_then hb hb.size hb2, (fun h => by omega), (fun h => by
    obtain ⟨h1, h2, h3⟩ := hbox h
    exact ⟨h1, h2, (hb2.block B (Array.getElem?_eq_some_iff.1 h3).1).trans h3⟩), (fun _ => by
    obtain ⟨h1, h2, h3⟩ := hm1 (Nat.le_refl _)
    exact ⟨h1, h2, fun w3 f => h3 w3 ((Fr.of_below hb2).then f fun k hk => Or.inl hk)⟩), (fun _ => ⟨rfl, hk, fun w3 f => (ho.fr f fun k hk => by
      obtain ⟨h, rfl⟩ := hk
      exact (Array.getElem?_eq_some_iff.1 (hbox h).2.2).1).inn⟩)⟩
theorem gmSt_alloc {V w : World} {k : Nat} {v27 v30 v7 : Value} (h : GmSt V k [false] v27 v30 v7 w) (hk3 : k ≤ 3) : GmSt V k [true] v27 v30 (.pointer (some ⟨w.heap.size, 0, none⟩)) (w.alloc (.cells #[.slice none 0 0, .slice none 0 0] 32)) := by
  obtain ⟨B, m1, m, hb, hg3, hbox, hm1, hm⟩ := h
  have hk : k ≤ 2 := by
    rcases Nat.lt_or_ge k 3 with h | h
    · omega
    · have := hg3 (by omega)
      cases this
  have hal : Below w.heap.size w (w.alloc (.cells #[.slice none 0 0, .slice none 0 0] 32)) := (Below.refl _ _).alloc (Nat.le_refl _) _
  have hfr : ∀ w', Fr (fun b => [true] = [true] ∧ b = w.heap.size) (w.alloc (.cells #[.slice none 0 0, .slice none 0 0] 32)) w' → Fr (fun b => [false] = [true] ∧ b = B) w w' := fun w' f => (Fr.of_below hal).then f fun k hk => Or.inr (Nat.le_of_eq hk.2.symm)
  refine ⟨w.heap.size, m1, m, bel_then hb hb.size hal, (fun _ => rfl), (fun _ => ⟨rfl, hb.size, ?_⟩), (fun h => ?_), (fun h => ?_)⟩
  · rw [if_neg (by omega)]
    exact heap_alloc_new w _
  · obtain ⟨h1, h2, h3⟩ := hm1 h
    exact ⟨h1, h2, fun w3 f => h3 w3 (hfr w3 f)⟩
  · obtain ⟨h1, h2, h3⟩ := hm h
    exact ⟨h1, h2, fun w3 f => h3 w3 (hfr w3 f)⟩
/-- A row of one change in a block of its own. -/
theorem one_at {W : World} {Z : Nat} {c : Cx} (h : W.heap[Z]? = some (.cells (encCx c).toArray 70 (0, 0))) : KCx.At W Z 0 [c] := fun i hi j u hu => by
  have hi' : i = 0 := by simpa using hi
  subst hi'
  have hj : j < 6 := (List.getElem?_eq_some_iff.1 hu).1
  rw [Lib.cell_of_heap h]
  rcases j with _ | _ | _ | _ | _ | _ | j
  all_goals first | exact hu | omega
/-- What lies behind the region: the marks in a box. -/
structure GmEnd (V : World) (B : Nat) (m : Mx) (w : World) : Prop where
  bel : Below V.heap.size V w
  low : V.heap.size ≤ B
  box : w.heap[B]? = some (.cells (encMx m).toArray 32 (0, 0))
  is : m.mk' = gmM
  inn : MIn w m
theorem gmSt_store {V w : World} {v27 v30 v7 : Value} (h : GmSt V 2 [true] v27 v30 v7 w) : ∃ B m, v7 = .pointer (some ⟨B, 0, none⟩) ∧ v30 = .agg (encMx m).toArray ∧ (w.cell? ⟨B, 0, none⟩ = some (.slice none 0 0) ∧ w.cell? ⟨B, 1, none⟩ = some (.slice none 0 0) ∧ w.frozen? ⟨B, 0, none⟩ = false ∧ w.frozen? ⟨B, 1, none⟩ = false) ∧ GmSt V 3 [true] v27 v30 v7 ((w.setCell ⟨B, 0, none⟩ m.ksl).setCell ⟨B, 1, none⟩ m.rsl) := by
  obtain ⟨B, m1, m, hb, hg3, hbox, hm1, hm⟩ := h
  obtain ⟨h1, h2, h3⟩ := hbox rfl
  rw [if_neg (by omega)] at h3
  obtain ⟨h4, h5, h6⟩ := hm (Nat.le_refl _)
  refine ⟨B, m, h1, h4, ⟨by rw [Lib.cell_of_heap h3]; rfl, by rw [Lib.cell_of_heap h3]; rfl, Lib.frozen_of_heap h3 0, Lib.frozen_of_heap h3 1⟩, ?_⟩
  have hlt := (Array.getElem?_eq_some_iff.1 h3).1
  have e1 : (w.setCell ⟨B, 0, none⟩ m.ksl).heap[B]? = some (.cells #[m.ksl, .slice none 0 0] 32 (0, 0)) := heap_setCell_same w B 0 _ _ _ h3
  have e2 : ((w.setCell ⟨B, 0, none⟩ m.ksl).setCell ⟨B, 1, none⟩ m.rsl).heap[B]? = some (.cells #[m.ksl, m.rsl] 32 (0, 0)) := heap_setCell_same _ B 1 _ _ _ e1
  have hfr : Fr (fun b => [true] = [true] ∧ b = B) w ((w.setCell ⟨B, 0, none⟩ m.ksl).setCell ⟨B, 1, none⟩ m.rsl) := ⟨rfl, rfl, rfl, by simp, fun k _ hn => by
    rw [heap_setCell_other _ _ k _ (fun e => hn ⟨rfl, e⟩), heap_setCell_other _ _ k _ (fun e => hn ⟨rfl, e⟩)]⟩
  refine ⟨B, m1, m, hb.trans (hfr.below (by have := hb.size; omega) fun k hk => by have := hk.2; omega), (fun _ => rfl), (fun _ => ⟨h1, h2, ?_⟩), (fun _ => ?_), (fun _ => ⟨h4, h5, fun w3 f => h6 w3 (hfr.then f fun k hk => Or.inl hk)⟩)⟩
  · rw [if_pos rfl]
    exact e2
  · obtain ⟨h7, h8, h9⟩ := hm1 (by omega)
    exact ⟨h7, h8, fun w3 f => h9 w3 (hfr.then f fun k hk => Or.inl hk)⟩
theorem gmSt_end {V w : World} {v27 v30 v7 : Value} (h : GmSt V 3 [true] v27 v30 v7 w) : ∃ B m, v7 = .pointer (some ⟨B, 0, none⟩) ∧ GmEnd V B m w := by
  obtain ⟨B, m1, m, hb, hg3, hbox, hm1, hm⟩ := h
  obtain ⟨h1, h2, h3⟩ := hbox rfl
  obtain ⟨h4, h5, h6⟩ := hm (by omega)
  rw [if_pos rfl] at h3
  exact ⟨B, m, h1, hb, h2, h3, h5, h6 w (Fr.refl _ _)⟩

end Go.Proofs.Ytmihddbnddgfhaa

/-
  The laws of stage 13: the chapter's examples.
-/
namespace Go.Proofs.Ytmihddbnddgfhaa
open Go.RowKit

def gyx : Ky := (⟨#[65]⟩, ⟨#[120]⟩)
def gyy : Ky := (⟨#[65]⟩, ⟨#[121]⟩)
def yCh (k : Ky) : Ch := ⟨k, false, [], true, []⟩
def yDn : Dn := ⟨0, 1, false, ([gyx], []), [yCh gyy]⟩
def yT : Tk := ⟨4, [yDn], some 1, 0⟩
def yZ : Tk := ⟨0, [], some 1, 1⟩
theorem y_c1 : checkT (newT 4) 0 ([gyx], []) [yCh gyy] = (false, 0) := by rfl
theorem y_a1 : addT (newT 4) yDn = (0, yT) := by rfl
theorem y_a2 : addT (newT 0) yDn = (0, yZ) := by rfl
theorem y_c2 : checkT yT 0 ([gyy], []) [yCh gyx] = (false, 11) := by decide +kernel
theorem y_c3 : checkT yT 0 ([gyy], []) [] = (true, 0) := by decide +kernel
theorem y_c4 : checkT yZ 0 ([], []) [] = (false, 11) := by rfl
theorem y_d : ((yT.kept.length : Nat) : Int) - (((dropT yT 1).kept.length : Nat) : Int) = 1 := by rfl

def yMx (b : Nat) (k : Ky) : Mx := ⟨some ⟨b, 0, none⟩, 1, [k], none, 0, []⟩
def yM0 : Mx := ⟨none, 0, [], none, 0, []⟩
def yCx (k : Ky) : Cx := ⟨k.1, k.2, false, none, 0, [], true, none, 0, []⟩

theorem kk_one13 {W : World} {b : Nat} {k : Ky} {fz : Nat × Nat} (h : W.heap[b]? = some (.cells #[.string k.1, .string k.2] 67 fz)) : KK.Is W (.slice (some ⟨b, 0, none⟩) 1 1) [k] :=
  ⟨_, _, rfl, Or.inr ⟨b, 0, rfl, fun i hi j u hu => by
    have hi' : i = 0 := by simpa using hi
    subst hi'
    rw [Lib.cell_of_heap h]
    have hj : j < 2 := (List.getElem?_eq_some_iff.1 hu).1
    rcases j with _ | _ | j
    · exact hu
    · exact hu
    · omega⟩⟩
theorem y_min {W : World} {b : Nat} {k : Ky} {fz : Nat × Nat} (h : W.heap[b]? = some (.cells #[.string k.1, .string k.2] 67 fz)) : MIn W (yMx b k) := ⟨kk_one13 h, Kind.is_nil KRx W, fun r hr => by simp [yMx] at hr⟩
theorem y_min0 (W : World) : MIn W yM0 := ⟨Kind.is_nil KK W, Kind.is_nil KRx W, fun r hr => by simp [yM0] at hr⟩
theorem isXs_none (W : World) : IsXs W (.slice none 0 0) [] := ⟨none, 0, rfl, Or.inl rfl, fun _ h => by simp at h⟩
theorem fitX_none : FitX [] := ⟨by unfold maxLen; simp, fun _ h => by simp at h⟩
theorem copyX_none : CopyX [] := ⟨Nat.zero_le _, (fun x hx => by cases hx)⟩
theorem y_chg {W : World} {b : Nat} {k : Ky} {fz : Nat × Nat} (h : W.heap[b]? = some (.cells #[.string k.1, .string k.2, .bool false, .slice none 0 0, .bool true, .slice none 0 0] 70 fz)) : ChgIn W (.slice (some ⟨b, 0, none⟩) 1 1) [yCx k] := by
  refine ⟨⟨_, _, rfl, Or.inr ⟨b, 0, rfl, fun i hi j u hu => ?_⟩⟩, fun c hc => ?_⟩
  · have hi' : i = 0 := by simpa using hi
    subst hi'
    rw [Lib.cell_of_heap h]
    have hj : j < 6 := (List.getElem?_eq_some_iff.1 hu).1
    rcases j with _ | _ | _ | _ | _ | _ | j
    all_goals first | exact hu | omega
  · rw [List.mem_singleton.1 hc]
    exact ⟨isXs_none W, fitX_none, isXs_none W, fitX_none, copyX_none, copyX_none⟩
theorem y_chg0 (W : World) : ChgIn W (.slice none 0 0) [] := ⟨Kind.is_nil KCx W, fun c hc => by simp at hc⟩
theorem y_fit {k : Ky} (h : k = gyx ∨ k = gyy) : FitKy12 k := by rcases h with rfl | rfl <;> exact ⟨by decide, by decide⟩
theorem y_sz {b : Nat} {k j : Ky} (hk : k = gyx ∨ k = gyy) (hj : j = gyx ∨ j = gyy) : SzD (yMx b k) [yCx j] := by
  refine ⟨by simp [yMx], by simp [yMx], fun r hr => by simp [yMx] at hr, by simp, fun c hc => ?_, fun x hx => ?_, fun c hc => ?_⟩
  · rw [List.mem_singleton.1 hc]
    exact ⟨⟨by simp [yCx], fun x hx => by simp [yCx] at hx⟩, ⟨by simp [yCx], fun x hx => by simp [yCx] at hx⟩⟩
  · have : x = k := by simpa [yMx] using hx
    rw [this]; exact y_fit hk
  · rw [List.mem_singleton.1 hc]; exact y_fit hj
theorem y_sz1 {b : Nat} {k : Ky} (hk : k = gyx ∨ k = gyy) : SzD (yMx b k) [] := by
  refine ⟨by simp [yMx], by simp [yMx], fun r hr => by simp [yMx] at hr, by simp, fun c hc => by simp at hc, fun x hx => ?_, fun c hc => by simp at hc⟩
  have : x = k := by simpa [yMx] using hx
  rw [this]; exact y_fit hk
theorem y_sz0 : SzD yM0 [] := ⟨by simp [yM0], by simp [yM0], fun r hr => by simp [yM0] at hr, by simp, fun c hc => by simp at hc, fun x hx => by simp [yM0] at hx, fun c hc => by simp at hc⟩

/-- The five blocks that are laid first. -/
def yBlocks (Q : Nat) : List (Array Value × TypeId) := [
  (#[.string ⟨#[65]⟩, .string ⟨#[120]⟩], 67), (#[.string ⟨#[65]⟩, .string ⟨#[121]⟩], 67), (#[.string ⟨#[65]⟩, .string ⟨#[120]⟩], 67),
  (#[.string ⟨#[65]⟩, .string ⟨#[121]⟩, .bool false, .slice none 0 0, .bool true, .slice none 0 0], 70),
  (#[.int .u64 0, .int .u64 1, .bool false, .slice (some ⟨Q + 2, 0, none⟩) 1 1, .slice none 0 0, .slice (some ⟨Q + 3, 0, none⟩) 1 1], 35)]

/-- Two trackers beside each other, and what was laid since. -/
structure YtSt (S : TrackApi) (W : World) (g h : Nat) (t z : Tk) (n1 Q E : Nat) (V w : World) : Prop where
  ex : ∃ B C, S.Prg W.heap.size w B g t ∧ S.Prg n1 w C h z ∧ (∀ k, B k → k < n1 ∨ E ≤ k) ∧ (∀ k, C k → k < Q ∨ E ≤ k) ∧ ∀ k, B k → ¬ C k
  box : ∀ b, Q ≤ b → b < E → w.heap[b]? = V.heap[b]?
  bel : Below W.heap.size W w
  le : W.heap.size ≤ n1 ∧ n1 ≤ Q ∧ Q ≤ E ∧ E ≤ w.heap.size

section
variable {S : TrackApi} {W : World} {g h : Nat} {t z : Tk} {n1 Q E : Nat} {V w : World}
theorem YtSt.on {w' : World} (y : YtSt S W g h t z n1 Q E V w) (hb : Below w.heap.size w w') : YtSt S W g h t z n1 Q E V w' := by
  obtain ⟨B, C, h1, h2, h3, h4, h5⟩ := y.ex
  have hl := y.le
  exact ⟨⟨B, C, TrackApi.on h1 hb, TrackApi.on h2 hb, h3, h4, h5⟩, fun b h1 h2 => (hb.block b (by omega)).trans (y.box b h1 h2), bel_then y.bel y.bel.size hb, by have := hb.size; omega⟩
theorem yt_addT (y : YtSt S W g h t z n1 Q E V w) (d : Dx) (hd : DIn w d) : Calls Try.prog 22 #[.pointer (some ⟨g, 0, none⟩), .agg (encDx d).toArray] w fun e w' => e = .returned (.int .i64 (addT t d.dn).1) ∧ YtSt S W g h (addT t d.dn).2 z n1 Q E V w' := by
  obtain ⟨B, C, h1, h2, h3, h4, h5⟩ := y.ex
  have hl := y.le
  refine (S.add h1 y.bel.size d hd).mono fun e w' q => ⟨q.1, ?_⟩
  obtain ⟨B', g1, g2, g3⟩ := q.2
  refine ⟨⟨B', C, g1, S.fr h2 g2 fun k hk hB => h5 k hB hk, fun k hk => ?_, h4, fun k hk hC => ?_⟩, fun b hb1 hb2 => ?_, ?_, ?_⟩
  · rcases g3 k hk with hk | hk
    · exact h3 k hk
    · exact Or.inr (by omega)
  · rcases g3 k hk with hk | hk
    · exact h5 k hk hC
    · have := (S.blk h2 k hC).2
      omega
  · exact (g2.block b (by omega) fun hB => by rcases h3 b hB with h | h <;> omega).trans (y.box b hb1 hb2)
  · exact y.bel.trans (g2.below y.bel.size fun k hk => (S.blk h1 k hk).1)
  · have := g2.size
    omega
theorem yt_addZ (y : YtSt S W g h t z n1 Q E V w) (d : Dx) (hd : DIn w d) : Calls Try.prog 22 #[.pointer (some ⟨h, 0, none⟩), .agg (encDx d).toArray] w fun e w' => e = .returned (.int .i64 (addT z d.dn).1) ∧ YtSt S W g h t (addT z d.dn).2 n1 Q E V w' := by
  obtain ⟨B, C, h1, h2, h3, h4, h5⟩ := y.ex
  have hl := y.le
  refine (S.add h2 (by omega) d hd).mono fun e w' q => ⟨q.1, ?_⟩
  obtain ⟨C', g1, g2, g3⟩ := q.2
  refine ⟨⟨B, C', S.fr h1 g2 fun k hk hC => h5 k hk hC, g1, h3, fun k hk => ?_, fun k hk hC => ?_⟩, fun b hb1 hb2 => ?_, ?_, ?_⟩
  · rcases g3 k hk with hk | hk
    · exact h4 k hk
    · exact Or.inr (by omega)
  · rcases g3 k hC with hC | hC
    · exact h5 k hk hC
    · have := (S.blk h1 k hk).2
      omega
  · exact (g2.block b (by omega) fun hC => by rcases h4 b hC with h | h <;> omega).trans (y.box b hb1 hb2)
  · exact y.bel.trans (g2.below y.bel.size fun k hk => by have := (S.blk h2 k hk).1; omega)
  · have := g2.size
    omega
end

end Go.Proofs.Ytmihddbnddgfhaa

/-
  The laws of stage 13: the chapter's examples, walked.
-/
namespace Go.Proofs.Ytmihddbnddgfhaa
open Go.RowKit

set_option linter.unusedSimpArgs false in
set_option maxHeartbeats 8000000 in
set_option maxRecDepth 100000 in
theorem fixed13_any (S : TrackApi) : Fixed13 := fun W => by
  have HN := hid (S.new W.heap.size W 4 (Nat.le_refl _))
  go_enter Try.func9, Try.ntmps9
  go_wp2_with fail
  refine HN.out.mono ?_
  rintro e w1 ⟨B, g, rfl, hp1, hb1, hB1⟩
  have HN2 := hid (S.new w1.heap.size w1 0 (Nat.le_refl _))
  have HP1 := hid hp1
  have HB1 := hid hb1
  have HBL := hid hB1
  clear hp1 hb1 hB1 HN
  go_wp2_with fail
  refine HN2.out.mono ?_
  rintro e w2 ⟨C, h, rfl, hp2, hb2, hC2⟩
  obtain ⟨Q, hQ⟩ : ∃ Q, w2.heap.size = Q := ⟨_, rfl⟩
  obtain ⟨V, hV⟩ : ∃ V, laidB w2 (yBlocks Q) = V := ⟨_, rfl⟩
  have hVE : ((((w2.alloc (.cells #[.string ⟨#[65]⟩, .string ⟨#[120]⟩] 67)).alloc (.cells #[.string ⟨#[65]⟩, .string ⟨#[121]⟩] 67)).alloc (.cells #[.string ⟨#[65]⟩, .string ⟨#[120]⟩] 67)).alloc (.cells #[.string ⟨#[65]⟩, .string ⟨#[121]⟩, .bool false, .slice none 0 0, .bool true, .slice none 0 0] 70)).alloc (.cells #[.int .u64 0, .int .u64 1, .bool false, .slice (some ⟨Q + 2, 0, none⟩) 1 1, .slice none 0 0, .slice (some ⟨Q + 3, 0, none⟩) 1 1] 35) = V := hV
  obtain ⟨hlb, hls, hlo⟩ := laidB_spec (yBlocks Q) w2
  rw [hV, hQ] at hls hlo
  rw [hV] at hlb
  have hls5 : V.heap.size = Q + 5 := hls
  have hY : YtSt S W g h (newT 4) (newT 0) w1.heap.size Q (Q + 5) V V := by
    refine ⟨⟨B, C, TrackApi.on (TrackApi.on HP1.out hb2) hlb, TrackApi.on hp2 hlb, fun k hk => Or.inl (S.blk HP1.out k hk).2, fun k hk => Or.inl (by have := (S.blk hp2 k hk).2; omega), fun k hk hC => ?_⟩, fun b _ _ => rfl, ?_, ?_⟩
    · have h1 := (S.blk HP1.out k hk).2
      have h2 := (S.blk hp2 k hC).1
      omega
    · exact bel_then HB1.out HB1.out.size (bel_then hb2 hb2.size hlb)
    · have h1 := HB1.out.size
      have h2 := hb2.size
      omega
  have o0 : V.heap[Q]? = some (.cells #[.string ⟨#[65]⟩, .string ⟨#[120]⟩] 67 (0, 0)) := hlo 0 (show 0 < 5 by decide)
  have o1 : V.heap[Q + 1]? = some (.cells #[.string ⟨#[65]⟩, .string ⟨#[121]⟩] 67 (0, 0)) := hlo 1 (show 1 < 5 by decide)
  have o2 : V.heap[Q + 2]? = some (.cells #[.string ⟨#[65]⟩, .string ⟨#[120]⟩] 67 (0, 0)) := hlo 2 (show 2 < 5 by decide)
  have o3 : V.heap[Q + 3]? = some (.cells #[.string ⟨#[65]⟩, .string ⟨#[121]⟩, .bool false, .slice none 0 0, .bool true, .slice none 0 0] 70 (0, 0)) := hlo 3 (show 3 < 5 by decide)
  have o4 : V.heap[Q + 4]? = some (.cells #[.int .u64 0, .int .u64 1, .bool false, .slice (some ⟨Q + 2, 0, none⟩) 1 1, .slice none 0 0, .slice (some ⟨Q + 3, 0, none⟩) 1 1] 35 (0, 0)) := hlo 4 (show 4 < 5 by decide)
  have HBX : Hid (∀ W' : World, (∀ b, Q ≤ b → b < Q + 5 → W'.heap[b]? = V.heap[b]?) → (W'.cell? ⟨Q, 0, none⟩ = some (.string ⟨#[65]⟩) ∧ W'.cell? ⟨Q, 1, none⟩ = some (.string ⟨#[120]⟩) ∧ W'.cell? ⟨Q + 1, 0, none⟩ = some (.string ⟨#[65]⟩) ∧ W'.cell? ⟨Q + 1, 1, none⟩ = some (.string ⟨#[121]⟩)) ∧ (W'.cell? ⟨Q + 4, 0, none⟩ = some (.int .u64 0) ∧ W'.cell? ⟨Q + 4, 1, none⟩ = some (.int .u64 1) ∧ W'.cell? ⟨Q + 4, 2, none⟩ = some (.bool false) ∧ W'.cell? ⟨Q + 4, 3, none⟩ = some (.slice (some ⟨Q + 2, 0, none⟩) 1 1) ∧ W'.cell? ⟨Q + 4, 4, none⟩ = some (.slice none 0 0) ∧ W'.cell? ⟨Q + 4, 5, none⟩ = some (.slice (some ⟨Q + 3, 0, none⟩) 1 1)) ∧ DIn W' ⟨0, 1, false, yMx (Q + 2) gyx, some ⟨Q + 3, 0, none⟩, 1, [yCx gyy]⟩) := fun W' hb => by
    have p0 := (hb Q (by omega) (by omega)).trans o0
    have p1 := (hb (Q + 1) (by omega) (by omega)).trans o1
    have p2 := (hb (Q + 2) (by omega) (by omega)).trans o2
    have p3 := (hb (Q + 3) (by omega) (by omega)).trans o3
    have p4 := (hb (Q + 4) (by omega) (by omega)).trans o4
    refine ⟨⟨by rw [Lib.cell_of_heap p0]; rfl, by rw [Lib.cell_of_heap p0]; rfl, by rw [Lib.cell_of_heap p1]; rfl, by rw [Lib.cell_of_heap p1]; rfl⟩, ⟨by rw [Lib.cell_of_heap p4]; rfl, by rw [Lib.cell_of_heap p4]; rfl, by rw [Lib.cell_of_heap p4]; rfl, by rw [Lib.cell_of_heap p4]; rfl, by rw [Lib.cell_of_heap p4]; rfl, by rw [Lib.cell_of_heap p4]; rfl⟩, ?_⟩
    exact ⟨y_min (k := gyx) p2, y_chg (k := gyy) p3, y_sz (Or.inl rfl) (Or.inr rfl), ⟨show (0 : Int) ≤ 0 by omega, show (0 : Int) ≤ 18446744073709551615 by omega⟩, ⟨show (0 : Int) ≤ 1 by omega, show (1 : Int) ≤ 18446744073709551615 by omega⟩⟩
  obtain ⟨⟨a0, a1, a2, a3⟩, ⟨c0, c1, c2, c3, c4, c5⟩, hdi⟩ := HBX.out V fun _ _ _ => rfl
  obtain ⟨B0, C0, hq1, _⟩ := hY.ex
  have HK1 := hid (S.check hq1 0 (yMx (Q + 2) gyx) (.slice (some ⟨Q + 3, 0, none⟩) 1 1) [yCx gyy] (by omega) (by omega) hdi.mrk hdi.chg hdi.sz)
  have e1 : checkT (newT 4) 0 (Mx.mk' (yMx (Q + 2) gyx)) ([yCx gyy].map Cx.ch) = (false, 0) := y_c1
  rw [e1] at HK1
  have HY := hid hY
  clear hp2 hb2 hC2 hlb hls hlo hY o0 o1 o2 o3 o4 hdi hq1 e1 HN2 HBL hV
  simp only [encMx, Mx.ksl, Mx.rsl, yMx, List.length_cons, List.length_nil, Nat.zero_add] at HK1
  go_wp2_with fail
  refine HK1.out.mono ?_
  rintro e w3 ⟨rfl, hb3⟩
  have hY3 := HY.out.on hb3
  clear a0 a1 a2 a3 c0 c1 c2 c3 c4 c5
  obtain ⟨⟨a0, a1, a2, a3⟩, ⟨c0, c1, c2, c3, c4, c5⟩, hdi⟩ := HBX.out w3 hY3.box
  have HA1 := hid (yt_addT hY3 _ hdi)
  have e1 : addT (newT 4) (Dx.dn ⟨0, 1, false, yMx (Q + 2) gyx, some ⟨Q + 3, 0, none⟩, 1, [yCx gyy]⟩) = (0, yT) := y_a1
  rw [e1] at HA1
  clear hb3 hY3 hdi e1 HK1 HY
  simp only [encDx, Mx.ksl, Mx.rsl, Dx.csl, yMx, List.length_cons, List.length_nil, Nat.zero_add] at HA1
  go_wp2_with fail
  refine HA1.out.mono ?_
  rintro e w4 ⟨rfl, hY4⟩
  clear a0 a1 a2 a3 c0 c1 c2 c3 c4 c5
  obtain ⟨⟨a0, a1, a2, a3⟩, ⟨c0, c1, c2, c3, c4, c5⟩, hdi⟩ := HBX.out w4 hY4.box
  have HA2 := hid (yt_addZ hY4 _ hdi)
  have e1 : addT (newT 0) (Dx.dn ⟨0, 1, false, yMx (Q + 2) gyx, some ⟨Q + 3, 0, none⟩, 1, [yCx gyy]⟩) = (0, yZ) := y_a2
  rw [e1] at HA2
  clear hY4 hdi e1 HA1
  simp only [encDx, Mx.ksl, Mx.rsl, Dx.csl, yMx, List.length_cons, List.length_nil, Nat.zero_add] at HA2
  go_wp2_with fail
  refine HA2.out.mono ?_
  rintro e w5 ⟨rfl, hY5⟩
  clear a0 a1 a2 a3 c0 c1 c2 c3 c4 c5 HA2
  have HY5 := hid hY5
  obtain ⟨B5, C5, hq5, hr5, _⟩ := hY5.ex
  have HL1 := hid (S.len hq5)
  have HL2 : Hid (∀ w, Below w5.heap.size w5 w → Calls Try.prog 13 #[.pointer (some ⟨h, 0, none⟩)] w fun e w' => e = .returned (.int .i64 0) ∧ Below w.heap.size w w') := fun w hb => S.len (TrackApi.on hr5 hb)
  have HSM : Hid (∀ w, Below w5.heap.size w5 w → Calls Try.prog 15 #[.pointer (some ⟨h, 0, none⟩)] w fun e w' => e = .returned (.int .u64 1) ∧ Below w.heap.size w w') := fun w hb => S.sum (TrackApi.on hr5 hb)
  have HLI : Hid (∀ w, Below w5.heap.size w5 w → Calls Try.prog 17 #[.pointer (some ⟨g, 0, none⟩)] w fun e w' => ListPost w [yDn] e w') := fun w hb => S.list (TrackApi.on hq5 hb)
  have e1 : ((yT.kept.length : Nat) : Int) = 1 := rfl
  rw [e1] at HL1
  clear hY5 hq5 hr5 e1
  go_wp2_with fail
  refine HL1.out.mono ?_
  rintro e w6 ⟨rfl, hb6⟩
  have HB6 := hid hb6
  have H1 := hid (HL2.out w6 hb6)
  clear hb6 HL1 HL2
  go_wp2_with fail
  refine H1.out.mono ?_
  rintro e w7 ⟨rfl, hb7⟩
  have HB7 := hid (bel_then HB6.out HB6.out.size hb7)
  have H2 := hid (HSM.out w7 HB7.out)
  clear hb7 H1 HSM
  go_wp2_with fail
  refine H2.out.mono ?_
  rintro e w8 ⟨rfl, hb8⟩
  have HB8 := hid (bel_then HB7.out HB7.out.size hb8)
  have H3 := hid (HLI.out w8 HB8.out)
  clear hb8 H2 HLI
  go_wp2_with fail
  refine H3.out.mono ?_
  rintro e w9 ⟨u, ds, rfl, ho9, _, _, hm9, hb9⟩
  have hd1 : ds.length = 1 := by
    have := congrArg List.length hm9
    rw [List.length_map] at this
    exact this
  obtain ⟨p9, c9, rfl⟩ := Kind.own_shape ho9
  have hY9 := (HY5.out.on HB8.out).on hb9
  have HY9 := hid hY9
  have hs9 := hY9.le
  obtain ⟨⟨a0, a1, a2, a3⟩, _, _⟩ := HBX.out w9 hY9.box
  clear ho9 hm9 hb9 H3 HY5 hY9
  have hlz : ((ds.length : Nat) : Int) = 1 := by omega
  obtain ⟨R, hR⟩ : ∃ R, w9.heap.size = R := ⟨_, rfl⟩
  have hbX : Below w9.heap.size w9 ((w9.alloc (.cells #[.string ⟨#[65]⟩, .string ⟨#[121]⟩] 67)).alloc (.cells #[.string ⟨#[65]⟩, .string ⟨#[120]⟩, .bool false, .slice none 0 0, .bool true, .slice none 0 0] 70)) := ((Below.refl _ _).alloc (Nat.le_refl _) _).alloc (by simp) _
  have r0 : ((w9.alloc (.cells #[.string ⟨#[65]⟩, .string ⟨#[121]⟩] 67)).alloc (.cells #[.string ⟨#[65]⟩, .string ⟨#[120]⟩, .bool false, .slice none 0 0, .bool true, .slice none 0 0] 70)).heap[R]? = some (.cells #[.string ⟨#[65]⟩, .string ⟨#[121]⟩] 67 (0, 0)) := by rw [← hR]; exact (Below.heap_alloc _ _ _ (by simp)).trans (heap_alloc_new w9 _)
  have r1 : ((w9.alloc (.cells #[.string ⟨#[65]⟩, .string ⟨#[121]⟩] 67)).alloc (.cells #[.string ⟨#[65]⟩, .string ⟨#[120]⟩, .bool false, .slice none 0 0, .bool true, .slice none 0 0] 70)).heap[R + 1]? = some (.cells #[.string ⟨#[65]⟩, .string ⟨#[120]⟩, .bool false, .slice none 0 0, .bool true, .slice none 0 0] 70 (0, 0)) := by
    have := heap_alloc_new (w9.alloc (.cells #[.string ⟨#[65]⟩, .string ⟨#[121]⟩] 67)) (.cells #[.string ⟨#[65]⟩, .string ⟨#[120]⟩, .bool false, .slice none 0 0, .bool true, .slice none 0 0] 70)
    rw [World.size_alloc, hR] at this
    exact this
  obtain ⟨X, hX⟩ : ∃ X, (w9.alloc (.cells #[.string ⟨#[65]⟩, .string ⟨#[121]⟩] 67)).alloc (.cells #[.string ⟨#[65]⟩, .string ⟨#[120]⟩, .bool false, .slice none 0 0, .bool true, .slice none 0 0] 70) = X := ⟨_, rfl⟩
  rw [hX] at hbX r0 r1
  have hYX := HY9.out.on hbX
  obtain ⟨BX, CX, hqX, _⟩ := hYX.ex
  have HK2 := hid (S.check hqX 0 (yMx R gyy) (.slice (some ⟨R + 1, 0, none⟩) 1 1) [yCx gyx] (by omega) (by omega) (y_min (k := gyy) r0) (y_chg (k := gyx) r1) (y_sz (Or.inr rfl) (Or.inl rfl)))
  have e1 : checkT yT 0 (Mx.mk' (yMx R gyy)) ([yCx gyx].map Cx.ch) = (false, 11) := y_c2
  rw [e1] at HK2
  have HYX := hid hYX
  clear hbX r0 r1 hYX hqX e1
  simp only [encMx, Mx.ksl, Mx.rsl, yMx, List.length_cons, List.length_nil, Nat.zero_add] at HK2
  obtain ⟨⟨x0, x1, x2, x3⟩, _, _⟩ := HBX.out (w9.alloc (.cells #[.string ⟨#[65]⟩, .string ⟨#[121]⟩] 67)) (HY9.out.on ((Below.refl _ _).alloc (Nat.le_refl _) _)).box
  go_wp2_with fail
  try rw [hR]
  try rw [hX]
  refine HK2.out.mono ?_
  rintro e w10 ⟨rfl, hb10⟩
  have hY10 := HYX.out.on hb10
  clear a0 a1 a2 a3 x0 x1 x2 x3
  obtain ⟨⟨a0, a1, a2, a3⟩, _, _⟩ := HBX.out w10 hY10.box
  have hbU : Below w10.heap.size w10 (w10.alloc (.cells #[.string ⟨#[65]⟩, .string ⟨#[121]⟩] 67)) := (Below.refl _ _).alloc (Nat.le_refl _) _
  have hYU := hY10.on hbU
  obtain ⟨BU, CU, hqU, _⟩ := hYU.ex
  have HK3 := hid (S.check hqU 0 (yMx w10.heap.size gyy) (.slice none 0 0) [] (by omega) (by omega) (y_min (k := gyy) (heap_alloc_new w10 _)) (y_chg0 _) (y_sz1 (Or.inr rfl)))
  have e1 : checkT yT 0 (Mx.mk' (yMx w10.heap.size gyy)) (([] : List Cx).map Cx.ch) = (true, 0) := y_c3
  rw [e1] at HK3
  have HYU := hid hYU
  clear hb10 hY10 hbU hYU hqU e1 HK2 HY9 HYX hX hR
  simp only [encMx, Mx.ksl, Mx.rsl, yMx, List.length_cons, List.length_nil, Nat.zero_add] at HK3
  go_wp2_with fail
  refine HK3.out.mono ?_
  rintro e w11 ⟨rfl, hb11⟩
  have hY11 := HYU.out.on hb11
  obtain ⟨B11, C11, hq11, hr11, _⟩ := hY11.ex
  have HK4 := hid (S.check hr11 0 yM0 (.slice none 0 0) [] (by omega) (by omega) (y_min0 _) (y_chg0 _) y_sz0)
  have e1 : checkT yZ 0 (Mx.mk' yM0) (([] : List Cx).map Cx.ch) = (false, 11) := y_c4
  rw [e1] at HK4
  have HY11 := hid hY11
  clear hb11 hY11 hq11 hr11 e1 HK3 HYU a0 a1 a2 a3
  simp only [encMx, Mx.ksl, Mx.rsl, yM0, List.length_nil] at HK4
  go_wp2_with fail
  refine HK4.out.mono ?_
  rintro e w12 ⟨rfl, hb12⟩
  have hY12 := HY11.out.on hb12
  obtain ⟨B12, C12, hq12, _⟩ := hY12.ex
  have hDR : Calls Try.prog 21 #[.pointer (some ⟨g, 0, none⟩), .int .u64 1] w12 fun e w' => e = .returned (.int .i64 1) ∧ Below W.heap.size W w' :=
    (S.drop hq12 hY12.bel.size 1 (by omega) (by omega)).mono fun e w' q => ⟨by rw [q.1, y_d], by
      obtain ⟨B', _, f, _⟩ := q.2
      exact hY12.bel.trans (f.below hY12.bel.size fun k hk => (S.blk hq12 k hk).1)⟩
  have HDR := hid hDR
  clear hb12 hY12 hq12 hDR HK4 HY11
  go_wp2_with (go_at_call 21; refine HDR.out.mono ?_; rintro e w13 ⟨rfl, hb13⟩; have HB13 := hid hb13; clear hb13)
  go_ret
  exact ⟨rfl, HB13.out⟩

end Go.Proofs.Ytmihddbnddgfhaa

/-
  For every number and all tries the Go function TrackSerial of package foliolaw13 returns true, and its arguments read behind the call as they read before; no condition; over the contracts of package track.
-/
namespace Go.Proofs.Ytmihddbnddgfhaa
open Go.ChangeShapes Go.WideShapes Go.ChangeAt Go.RowKit Go.Joins

set_option maxRecDepth 100000 in
theorem trackserial_walked (S : TrackApi) {H : Type} {enc : TypeId × Value → H} (W : World) (base : Nat) (args : Array Value) (ds gs : List (DataW H)) (before : List MemPlace)
    (hval : ∀ (j : Nat) t v, Try.f6.params[j]? = some t → args[j]? = some v → Value.okWide Try.prog W .any base t v)
    (hW : DataW.Whole enc Try.prog Try.f6.params.toList Rows.trackSerialSpec.vars false W args.toList ds gs before)
    (hZ : (DataW.weightsEach Try.prog (Try.f6.params.toList ++ (OpenSpec.ofChange Rows.trackSerialSpec).bare.plain.varTypes Try.prog) (ds ++ gs)).all (· ≤ reachBytes) = true) :
    Calls Try.prog 6 args W fun e W' => ∃ v, e = .returned v ∧ Rows.trackSerialSpec.post enc Try.prog Try.f6 false true false false W args v W' := by
  have hW' := hW
  obtain ⟨p, q, hA0, hV, rfl, _, _⟩ := hW
  have hA : DataW.TrodAll enc Try.prog W 0 (fun _ => true) true Try.f6.params.toList args.toList ds p := hA0
  rw [Try.params6] at hA hval hZ
  obtain ⟨v0, vs0, d0, ds0, p0, q0, hargs, rfl, rfl, h0, r0⟩ := trodAll_cons hA
  obtain ⟨v1, vs1, d1, ds1, p1, q1, rfl, rfl, rfl, h1, r1⟩ := trodAll_cons r0
  obtain ⟨rfl, rfl, rfl⟩ := trodAll_nil r1
  obtain rfl : args = #[v0, v1] := by cases args; simp_all
  obtain ⟨rfl, rfl⟩ := trodVars_none hV
  have lt0 : ∀ x ∈ p0, x.block < W.heap.size := by obtain ⟨m, hm⟩ := h0; exact DataW.trod_lt m _ _ _ hm
  have lt1 : ∀ x ∈ p1, x.block < W.heap.size := by obtain ⟨m, hm⟩ := h1; exact DataW.trod_lt m _ _ _ hm
  have k0 := h0
  have k1 := h1
  have hwalk : Calls Try.prog 6 #[v0, v1] W fun e w' => e = .returned (.bool true) ∧ Below W.heap.size W w' := by
    have z1 : ∀ n ∈ d1.weights Try.prog 55, n ≤ reachBytes := fun n hn => by
      have := List.all_eq_true.1 hZ n (DataW.weights_mem_each (j := 1) rfl rfl n hn)
      simpa using this
    obtain ⟨t, rfl, ht0, ht1⟩ := open_intM (hval 0 3 v0 rfl rfl) h0
    obtain ⟨ts, hp1, hp2, hp3⟩ := open_triesY (hval 1 55 v1 rfl rfl) h1 z1
    exact tserial13_any S (fixed13_any S) t v1 ts W hp1 hp2 hp3
  clear hA0
  refine hwalk.mono fun o W' ⟨he, bel⟩ => ?_
  subst he
  exact ⟨_, rfl, _, _, _, [], _, [], hW', trodAll_mk1 (shut_bool Try.underlying4 _),
    (trodAll_cons_mk (Below.trod Try.laidOut (by kernel_rfl) (of_decide_eq_true (by kernel_rfl)) k0 bel lt0) (trodAll_cons_mk (Below.trod Try.laidOut (by kernel_rfl) (of_decide_eq_true (by kernel_rfl)) k1 bel lt1) trodAll_mk0)), rfl, bel.frame _, fun h => by cases h⟩

set_option maxRecDepth 100000 in
theorem trackserial_free (S : TrackApi) (os : Os) (started : os.Started) (H : Type) (enc : TypeId × Value → H) :
    ReturnsInHanded {} Try.checked os 6 .any (Rows.trackSerialSpec.pre6 enc Try.prog Try.f6 Rows.trackSerialRow.domain false) (Rows.trackSerialSpec.post enc Try.prog Try.f6 false true false false) := by
  refine returnsInHanded_of_change_sized (C := Try.checked) Try.own started (by kernel_rfl) Try.func6
    (ChangeSpec.witness6 (enc := enc) (C := Try.checked) false ⟨#[], #[.int .i64 0, .slice none 0 0], []⟩ 8 (by kernel_rfl) (by kernel_rfl) (by kernel_rfl) (by kernel_rfl)) ?_
  intro W base args ds gs before hval hW _ hZ _
  exact trackserial_walked S W base args ds gs before hval hW hZ

theorem trackserial_of (S : TrackApi) : Rows.TrackSerialSaid :=
  OpenClaim.holds_of_wide 6 Try.f6 rfl rfl rfl rfl rfl rfl rfl ⟨rfl, rfl, rfl, rfl, rfl⟩ rfl rfl rfl rfl rfl (by kernel_rfl) Try.func6 (by kernel_rfl)
    (of_decide_eq_true (by kernel_rfl)) (by unfold Func.isWrapper; first | (rw [if_pos (by decide +kernel)]; kernel_rfl) | (rw [if_neg (by decide +kernel)]; exact ⟨rfl, rfl⟩))
    (fun os started H enc _ => trackserial_free S os started H enc)

end Go.Proofs.Ytmihddbnddgfhaa
