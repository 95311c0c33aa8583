/-
  Texts of this claim, one behind the other: Mlh Mfd Mfw Ma2.
-/
import Derived.Test.YthdakljoabbghaaPc
import Derived.Test.YthdakljoabbghaaPd
import Derived.Test.YthdakljoabbghaaRows
import Derived.Test.YthdakljoabbghaaPe
/-
  MarksHits (stage 12): which changes hit which marks. (fixed: a premise, filled in where it is walked.)
-/
namespace Go.Proofs.Ythdakljoabbghaa
open Go.RowKit

set_option linter.unusedSimpArgs false in
set_option maxHeartbeats 8000000 in
set_option maxRecDepth 100000 in
theorem mhits12_any (S : MarksApi) (hF : Fixed12) (m : Mx) (v : Value) (l : List Cx) (w : World) (hm : MIn w m) (hw : LenM m) (hc : ChgIn w v l) (hl : l.length < 1500000000000) :
    Calls Try.prog 4 #[.agg (encMx m).toArray, v] w fun e w' => e = .returned (.bool true) ∧ Below w.heap.size w w' := by
  obtain ⟨V, hV⟩ : ∃ V, w.alloc (.cells (encMx m).toArray 25) = V := ⟨_, rfl⟩
  obtain ⟨M, hM⟩ : ∃ M, w.heap.size = M := ⟨_, rfl⟩
  obtain ⟨hbV, h1, hs⟩ := one_box w (encMx m).toArray 25
  rw [hV] at hbV h1 hs
  rw [hM] at h1 hs
  obtain ⟨p, cap, rfl, _⟩ := id hc.is
  have HF := hid (hF V)
  have HIN : Hid (∀ W', Below V.heap.size V W' → MIn W' m ∧ ChgIn W' (.slice p l.length cap) l ∧ Below w.heap.size w W' ∧ W'.cell? ⟨M, 0, none⟩ = some m.ksl ∧ W'.cell? ⟨M, 1, none⟩ = some m.rsl) := fun W' hW => by
    have hb : Below w.heap.size w W' := bel_then hbV hbV.size hW
    have e1 := (hW.block M (by omega)).trans h1
    exact ⟨hm.on hb, hc.on hb, hb, by rw [Lib.cell_of_heap e1]; rfl, by rw [Lib.cell_of_heap e1]; rfl⟩
  have HWP : Hid (∀ W', Below V.heap.size V W' → Calls Try.prog 18 #[.agg (encMx m).toArray, .slice p l.length cap] W' fun e w' => KeyRPost W' (whichM m.mk' (l.map Cx.ch)) e w') := fun W' hW => S.which W' m _ l (HIN.out W' hW).1 hw (HIN.out W' hW).2.1 hl
  have HHP : Hid (∀ W', Below V.heap.size V W' → Calls Try.prog 19 #[.agg (encMx m).toArray, .slice p l.length cap] W' fun e w' => BoolPost W' (hitsM m.mk' (l.map Cx.ch)) e w') := fun W' hW => S.hits W' m _ l (HIN.out W' hW).1 hw (HIN.out W' hW).2.1 hl
  have HWR : Hid (∀ W', Below V.heap.size V W' → Calls Try.prog 22 #[.agg (encMx m).toArray, .slice p l.length cap] W' fun e w' => KeyRPost W' (whichM m.mk' (l.map Cx.ch)) e w') := fun W' hW => which12_any m _ l W' (HIN.out W' hW).1 hw (HIN.out W' hW).2.1.is (HIN.out W' hW).2.1.each (by omega)
  have HHR : Hid (∀ W', Below V.heap.size V W' → Calls Try.prog 20 #[.agg (encMx m).toArray, .slice p l.length cap] W' fun e w' => e = .returned (.bool (hitsM m.mk' (l.map Cx.ch))) ∧ Below W'.heap.size W' w') := fun W' hW => hits12_any m _ l W' (HIN.out W' hW).1 hw (HIN.out W' hW).2.1.is (HIN.out W' hW).2.1.each (by omega)
  have HTP : Hid (∀ W' r c, Below V.heap.size V W' → r ∈ m.rs → c ∈ l → Calls Try.prog 23 #[.agg (encRx r).toArray, .agg (encCx c).toArray] W' fun e w' => BoolPost W' (touchesM r.rg c.ch) e w') := fun W' r c hW hr h => S.touches W' r c ((HIN.out W' hW).1.each r hr) ((HIN.out W' hW).2.1.each c h)
  have HTR : Hid (∀ W' r c, Below V.heap.size V W' → r ∈ m.rs → c ∈ l → Calls Try.prog 24 #[.agg (encRx r).toArray, .agg (encCx c).toArray] W' fun e w' => e = .returned (.bool (touchesM r.rg c.ch)) ∧ Below W'.heap.size W' w') := fun W' r c hW hr h => touches12_any r c W' ((HIN.out W' hW).1.each r hr) ((HIN.out W' hW).2.1.each c h)
  have hHW := hits_which m.mk' (l.map Cx.ch)
  have hwl : (whichM m.mk' (l.map Cx.ch)).length < 1500000000000 := by
    have := which_len m.mk' (l.map Cx.ch) []
    rw [List.length_map, List.length_nil] at this
    unfold whichM
    omega
  obtain ⟨B, hB⟩ : ∃ B, hitsM m.mk' (l.map Cx.ch) = B := ⟨_, rfl⟩
  obtain ⟨X, hX⟩ : ∃ X, whichM m.mk' (l.map Cx.ch) = X := ⟨_, rfl⟩
  rw [hB] at HHP HHR hHW
  rw [hX] at HWP HWR hHW hwl
  have HHW := hid hHW
  have hw2 := hw.2
  obtain ⟨_, _, _, a0, a1⟩ := HIN.out V (Below.refl _ _)
  clear hm hw hc hbV h1 hs hF hB hX hHW
  obtain ⟨kp, kc, ks, rp, rc, rs⟩ := m
  simp only [encMx, Mx.ksl, Mx.rsl] at *
  go_enter Try.func4, Try.ntmps4
  go_wp2_with fail
  try rw [hV]
  try rw [hM]
  clear hV a0 a1
  refine HF.out.mono ?_
  rintro e w1 ⟨rfl, hb1⟩
  obtain ⟨_, _, _, a0, a1⟩ := HIN.out w1 hb1
  have H1 := hid (HWP.out w1 hb1)
  have HB1 := hid hb1
  clear hb1 HF HWP
  go_wp2_with fail
  refine H1.out.mono ?_
  rintro e w2 ⟨u2, rfl, ho2, hb2⟩
  obtain ⟨p2, c2, rfl⟩ := Kind.own_shape ho2
  have hb2' : Below V.heap.size V w2 := bel_then HB1.out HB1.out.size hb2
  obtain ⟨_, _, _, a0, a1⟩ := HIN.out w2 hb2'
  have HO2 := hid (Kind.own_is ho2)
  have HB2 := hid hb2'
  have H2 := hid (HHP.out w2.drew (bel_drewN hb2' 1))
  clear ho2 hb2 hb2' H1 HB1
  go_wp2_with fail
  refine wp_region_held_drew (S := fun w' => w'.cell? ⟨M, 0, none⟩ = some (.slice kp ks.length kc) ∧ w'.cell? ⟨M, 1, none⟩ = some (.slice rp rs.length rc)) (by kernel_rfl) ⟨a0, a1⟩ (fun hHeld => ?_)
  refine take_val (i := 0) (.agg #[.slice kp ks.length kc, .slice rp rs.length rc]) rfl (by kernel_rfl) (by kernel_rfl) (by kernel_rfl) (fun _ _ _ h => h) (by rfl) (fun w hSw => by go_simp) hHeld ?_
  simp only [Act.put, List.setIfInBounds_toArray, List.set_cons_zero, List.set_cons_succ]
  refine take_val (i := 1) (.slice p l.length cap) rfl (by kernel_rfl) (by kernel_rfl) (by kernel_rfl) (fun _ _ _ h => h) (by rfl) (fun w hSw => by go_simp) hHeld ?_
  simp only [Act.put, List.setIfInBounds_toArray, List.set_cons_zero, List.set_cons_succ]
  refine take_val (i := 3) (.agg #[.slice kp ks.length kc, .slice rp rs.length rc]) rfl (by kernel_rfl) (by kernel_rfl) (by kernel_rfl) (fun _ _ _ h => h) (by rfl) (fun w hSw => by go_simp) hHeld ?_
  simp only [Act.put, List.setIfInBounds_toArray, List.set_cons_zero, List.set_cons_succ]
  refine take_val (i := 4) (.slice p l.length cap) rfl (by kernel_rfl) (by kernel_rfl) (by kernel_rfl) (fun _ _ _ h => h) (by rfl) (fun w hSw => by go_simp) hHeld ?_
  simp only [Act.put, List.setIfInBounds_toArray, List.set_cons_zero, List.set_cons_succ]
  clear hHeld a0 a1
  refine wpAnyH_ready (rs := [2]) (by kernel_rfl) (by simp) ?_
  refine AllReadyH.cons (at_drop0 rfl) (fun K hK => ?_) AllReadyH.nil
  rw [if_pos (by rfl)]
  go_simp
  refine H2.out.mono ?_
  rintro e w3 ⟨rfl, hb3⟩
  have hb3' : Below w2.heap.size w2 w3 := (bel_drewN (Below.refl _ _) 1).trans hb3
  obtain ⟨_, _, _, a0, a1⟩ := HIN.out w3 (bel_then HB2.out HB2.out.size hb3')
  have H3 := hid (HHR.out w3 (bel_then HB2.out HB2.out.size hb3'))
  have HB3 := hid hb3'
  clear hb3 hb3' H2
  go_wp2_with fail
  refine hK.out _ _ (⟨a0, a1⟩) (fun hHeld => ?_)
  clear hK K
  try simp only [Act.put, List.setIfInBounds_toArray, List.set_cons_zero, List.set_cons_succ]
  clear hHeld a0 a1
  refine wpAnyH_ready (rs := [5]) (by kernel_rfl) (by simp) ?_
  refine AllReadyH.cons (at_drop0 rfl) (fun K hK => ?_) AllReadyH.nil
  rw [if_pos (by rfl)]
  go_simp
  refine H3.out.mono ?_
  rintro e w4 ⟨rfl, hb4⟩
  have hb4' : Below w2.heap.size w2 w4 := bel_then HB3.out HB3.out.size hb4
  obtain ⟨_, _, _, a0, a1⟩ := HIN.out w4 (bel_then HB2.out HB2.out.size hb4')
  have H4 := hid (HWR.out w4 (bel_then HB2.out HB2.out.size hb4'))
  have HB4 := hid hb4'
  clear hb4 hb4' H3 HB3
  have hbb : (B != B) = false := by cases B <;> rfl
  go_wp2_with fail
  refine hK.out _ _ (⟨a0, a1⟩) (fun hHeld => ?_)
  clear hK K
  try simp only [Act.put, List.setIfInBounds_toArray, List.set_cons_zero, List.set_cons_succ]
  refine take_val (i := 6) (.bool false) rfl (by kernel_rfl) (by kernel_rfl) (by kernel_rfl) (fun _ _ _ h => h) (by rfl) (fun w hSw => by go_simp) hHeld ?_
  simp only [Act.put, List.setIfInBounds_toArray, List.set_cons_zero, List.set_cons_succ]
  refine take_val (i := 7) (.bool false) rfl (by kernel_rfl) (by kernel_rfl) (by kernel_rfl) (fun _ _ _ h => h) (by rfl) (fun w hSw => by go_simp) hHeld ?_
  simp only [Act.put, List.setIfInBounds_toArray, List.set_cons_zero, List.set_cons_succ]
  refine take_val (i := 8) (.slice p2 X.length c2) rfl (by kernel_rfl) (by kernel_rfl) (by kernel_rfl) (fun _ _ _ h => h) (by rfl) (fun w hSw => by go_simp) hHeld ?_
  simp only [Act.put, List.setIfInBounds_toArray, List.set_cons_zero, List.set_cons_succ]
  refine take_val (i := 9) (.agg #[.slice kp ks.length kc, .slice rp rs.length rc]) rfl (by kernel_rfl) (by kernel_rfl) (by kernel_rfl) (fun _ _ _ h => h) (by rfl) (fun w hSw => by go_simp) hHeld ?_
  simp only [Act.put, List.setIfInBounds_toArray, List.set_cons_zero, List.set_cons_succ]
  refine take_val (i := 10) (.slice p l.length cap) rfl (by kernel_rfl) (by kernel_rfl) (by kernel_rfl) (fun _ _ _ h => h) (by rfl) (fun w hSw => by go_simp) hHeld ?_
  simp only [Act.put, List.setIfInBounds_toArray, List.set_cons_zero, List.set_cons_succ]
  clear hHeld a0 a1
  refine wpAnyH_ready (rs := [11]) (by kernel_rfl) (by simp) ?_
  refine AllReadyH.cons (at_drop0 rfl) (fun K hK => ?_) AllReadyH.nil
  rw [if_pos (by rfl)]
  go_simp
  refine H4.out.mono ?_
  rintro e w5 ⟨u5, rfl, ho5, hb5⟩
  have hb5' : Below w2.heap.size w2 w5 := bel_then HB4.out HB4.out.size hb5
  obtain ⟨_, _, _, a0, a1⟩ := HIN.out w5 (bel_then HB2.out HB2.out.size hb5')
  have H5 := hid (Z.zsame_any (.slice p2 X.length c2) u5 X X w5 (keys_isZ12 (Kind.is_kept HO2.out hb5')) (keys_isZ12 (Kind.own_is ho5)) (by unfold maxLen; omega) (by unfold maxLen; omega))
  rw [decide_eq_true rfl] at H5
  have HB5 := hid hb5'
  clear ho5 hb5 hb5' H4 HB4
  go_wp2_with fail
  refine hK.out _ _ (⟨a0, a1⟩) (fun hHeld => ?_)
  clear hK K
  try simp only [Act.put, List.setIfInBounds_toArray, List.set_cons_zero, List.set_cons_succ]
  clear hHeld a0 a1
  refine wpAnyH_ready (rs := [12]) (by kernel_rfl) (by simp) ?_
  refine AllReadyH.cons (at_drop0 rfl) (fun K hK => ?_) AllReadyH.nil
  rw [if_pos (by rfl)]
  go_simp
  refine H5.out.mono ?_
  rintro e w6 ⟨rfl, n6, rfl⟩
  have hb6' : Below w2.heap.size w2 (w5.drewN n6) := bel_drewN HB5.out n6
  obtain ⟨w6, hw6⟩ : ∃ w6, w5.drewN n6 = w6 := ⟨_, rfl⟩
  rw [hw6] at hb6' ⊢
  obtain ⟨_, _, _, a0, a1⟩ := HIN.out w6 (bel_then HB2.out HB2.out.size hb6')
  have H6 := hid (HHP.out w6 (bel_then HB2.out HB2.out.size hb6'))
  have HB6 := hid hb6'
  clear hb6' H5 HB5 hw6
  go_wp2_with fail
  refine hK.out _ _ (⟨a0, a1⟩) (fun hHeld => ?_)
  clear hK K
  try simp only [Act.put, List.setIfInBounds_toArray, List.set_cons_zero, List.set_cons_succ]
  refine take_val (i := 13) (.bool false) rfl (by kernel_rfl) (by kernel_rfl) (by kernel_rfl) (fun _ _ _ h => h) (by rfl) (fun w hSw => by go_simp) hHeld ?_
  simp only [Act.put, List.setIfInBounds_toArray, List.set_cons_zero, List.set_cons_succ]
  refine take_val (i := 14) (.bool false) rfl (by kernel_rfl) (by kernel_rfl) (by kernel_rfl) (fun _ _ _ h => h) (by rfl) (fun w hSw => by go_simp) hHeld ?_
  simp only [Act.put, List.setIfInBounds_toArray, List.set_cons_zero, List.set_cons_succ]
  refine take_val (i := 15) (.bool false) rfl (by kernel_rfl) (by kernel_rfl) (by kernel_rfl) (fun _ _ _ h => h) (by rfl) (fun w hSw => by go_simp) hHeld ?_
  simp only [Act.put, List.setIfInBounds_toArray, List.set_cons_zero, List.set_cons_succ]
  refine take_val (i := 16) (.agg #[.slice kp ks.length kc, .slice rp rs.length rc]) rfl (by kernel_rfl) (by kernel_rfl) (by kernel_rfl) (fun _ _ _ h => h) (by rfl) (fun w hSw => by go_simp) hHeld ?_
  simp only [Act.put, List.setIfInBounds_toArray, List.set_cons_zero, List.set_cons_succ]
  refine take_val (i := 17) (.slice p l.length cap) rfl (by kernel_rfl) (by kernel_rfl) (by kernel_rfl) (fun _ _ _ h => h) (by rfl) (fun w hSw => by go_simp) hHeld ?_
  simp only [Act.put, List.setIfInBounds_toArray, List.set_cons_zero, List.set_cons_succ]
  refine take_val (i := 19) (.slice p2 X.length c2) rfl (by kernel_rfl) (by kernel_rfl) (by kernel_rfl) (fun _ _ _ h => h) (by rfl) (fun w hSw => by go_simp) hHeld ?_
  simp only [Act.put, List.setIfInBounds_toArray, List.set_cons_zero, List.set_cons_succ]
  have hg2 : decide (0 < X.length) = B := HHW.out.symm
  have hg1 : decide ((0 : Int) < (X.length : Int)) = B := by
    rw [← hg2]
    by_cases h : 0 < X.length
    · rw [decide_eq_true h, decide_eq_true (by omega)]
    · rw [decide_eq_false h, decide_eq_false (by omega)]
  refine take_val (i := 20) (.int .i64 X.length) rfl (by kernel_rfl) (by kernel_rfl) (by kernel_rfl) (fun _ _ _ h => h) (by rfl) (fun w hSw => by go_simp) hHeld ?_
  simp only [Act.put, List.setIfInBounds_toArray, List.set_cons_zero, List.set_cons_succ]
  refine take_val (i := 21) (.bool B) rfl (by kernel_rfl) (by kernel_rfl) (by kernel_rfl) (fun _ _ _ h => h) (by rfl) (fun w hSw => by go_simp) hHeld ?_
  simp only [Act.put, List.setIfInBounds_toArray, List.set_cons_zero, List.set_cons_succ]
  clear hHeld a0 a1
  refine wpAnyH_ready (rs := [18]) (by kernel_rfl) (by simp) ?_
  refine AllReadyH.cons (at_drop0 rfl) (fun K hK => ?_) AllReadyH.nil
  rw [if_pos (by rfl)]
  go_simp
  refine H6.out.mono ?_
  rintro e w7 ⟨rfl, hb7⟩
  have hb7' : Below V.heap.size V w7 := bel_then HB2.out HB2.out.size (bel_then HB6.out HB6.out.size hb7)
  obtain ⟨_, _, _, a0, a1⟩ := HIN.out w7 hb7'
  have HB7 := hid hb7'
  clear hb7 hb7' H6 HB6 HHP HHR HWR
  go_wp2_with fail
  refine hK.out _ _ (⟨a0, a1⟩) (fun hHeld => ?_)
  clear hK K
  try simp only [Act.put, List.setIfInBounds_toArray, List.set_cons_zero, List.set_cons_succ]
  refine take_val (i := 22) (.bool false) rfl (by kernel_rfl) (by kernel_rfl) (by kernel_rfl) (fun _ _ _ h => h) (by rfl) (fun w hSw => by go_simp) hHeld ?_
  simp only [Act.put, List.setIfInBounds_toArray, List.set_cons_zero, List.set_cons_succ]
  refine take_val (i := 23) (.bool false) rfl (by kernel_rfl) (by kernel_rfl) (by kernel_rfl) (fun _ _ _ h => h) (by rfl) (fun w hSw => by go_simp) hHeld ?_
  simp only [Act.put, List.setIfInBounds_toArray, List.set_cons_zero, List.set_cons_succ]
  refine wpAnyH_done (by kernel_rfl) ?_ _
  clear hHeld a0 a1 hg1 hg2 hbb HO2 HB2
  go_wp2_with fail
  go_loopg [41] l.length (fun gg vi wr => ∃ i : Nat, vi = .int .i64 i ∧ i ≤ l.length ∧ l.length - i ≤ gg ∧ Hid (Below V.heap.size V wr))
  case atStart => exact ⟨0, rfl, by omega, by omega, HB7.out⟩
  case round =>
    clear HB7
    obtain ⟨i, rfl, hi, hgk, HI⟩ := hrel
    obtain ⟨hma, hch, hbe, a0, a1⟩ := HIN.out wr HI.out
    by_cases hlt : i < l.length
    · have hltz : (i : Int) < (l.length : Int) := by omega
      have hiz : (0 : Int) ≤ i := by omega
      obtain ⟨b7, o7, rfl, k7⟩ : ∃ b off, p = some ⟨b, off, none⟩ ∧ KCx.At wr b off l := by
        obtain ⟨p', c', he, h⟩ := hch.is
        injection he with e1 _ _
        subst e1
        rcases h with h | h
        · rw [h] at hlt; simp at hlt
        · exact h
      obtain ⟨y0, y1, y2, y3, y4, y5⟩ := kcx_at k7 i hlt
      have hmem : l[i] ∈ l := List.getElem_mem hlt
      generalize l[i] = c at *
      obtain ⟨U, hU⟩ : ∃ U, wr.alloc (.cells (encCx c).toArray 43) = U := ⟨_, rfl⟩
      obtain ⟨O, hO⟩ : ∃ O, wr.heap.size = O := ⟨_, rfl⟩
      have hbU : Below wr.heap.size wr U := by rw [← hU]; exact (Below.refl _ _).alloc (Nat.le_refl _) _
      have hUo : U.heap[O]? = some (.cells (encCx c).toArray 43 (0, 0)) := by rw [← hU, ← hO]; exact heap_alloc_new wr _
      have hUs : U.heap.size = O + 1 := by rw [← hU, ← hO]; simp
      have HBU : Hid (Below V.heap.size V U) := bel_then HI.out HI.out.size hbU
      have HCB : Hid (∀ W' : World, Below U.heap.size U W' → (W'.cell? ⟨O, 0, none⟩ = some (.string c.a) ∧ W'.cell? ⟨O, 1, none⟩ = some (.string c.b) ∧ W'.cell? ⟨O, 2, none⟩ = some (.bool c.wl) ∧ W'.cell? ⟨O, 3, none⟩ = some (.slice c.wp c.wo.length c.wc) ∧ W'.cell? ⟨O, 4, none⟩ = some (.bool c.il) ∧ W'.cell? ⟨O, 5, none⟩ = some (.slice c.ip c.io.length c.ic)) ∧ Below V.heap.size V W') := fun W' hW => by
        have e1 := (hW.block O (by omega)).trans hUo
        exact ⟨⟨by rw [Lib.cell_of_heap e1]; rfl, by rw [Lib.cell_of_heap e1]; rfl, by rw [Lib.cell_of_heap e1]; rfl, by rw [Lib.cell_of_heap e1]; rfl, by rw [Lib.cell_of_heap e1]; rfl, by rw [Lib.cell_of_heap e1]; rfl⟩, bel_then HBU.out HBU.out.size hW⟩
      have HTP1 : Hid (∀ W' r, Below V.heap.size V W' → r ∈ rs → Calls Try.prog 23 #[.agg (encRx r).toArray, .agg (encCx c).toArray] W' fun e w' => BoolPost W' (touchesM r.rg c.ch) e w') := fun W' r hW hr => HTP.out W' r c hW hr hmem
      have HTR1 : Hid (∀ W' r, Below V.heap.size V W' → r ∈ rs → Calls Try.prog 24 #[.agg (encRx r).toArray, .agg (encCx c).toArray] W' fun e w' => e = .returned (.bool (touchesM r.rg c.ch)) ∧ Below W'.heap.size W' w') := fun W' r hW hr => HTR.out W' r c hW hr hmem
      obtain ⟨_, _, _, d0, d1⟩ := HIN.out U HBU.out
      clear hma hch hbe k7 hmem HI hbU hUo hUs
      obtain ⟨ca, cb, wl, wp, wc, wo, il, ip, ic, io⟩ := c
      simp only [encCx] at *
      go_wp2_with fail
      try rw [hU]
      try rw [hO]
      clear y0 y1 y2 y3 y4 y5 a0 a1 d0 d1 hU
      go_loopg [48] rs.length (fun gg vj wr => ∃ j : Nat, vj = .int .i64 j ∧ j ≤ rs.length ∧ rs.length - j ≤ gg ∧ Hid (Below U.heap.size U wr))
      case atStart => exact ⟨0, rfl, by omega, by omega, Below.refl _ _⟩
      case round =>
        obtain ⟨j, rfl, hj, hgj, HJ⟩ := hrel
        obtain ⟨⟨v0, v1, v2, v3, v4, v5⟩, hbV⟩ := HCB.out wr HJ.out
        obtain ⟨hma, _, _, _, _⟩ := HIN.out wr hbV
        by_cases hjt : j < rs.length
        · have hjz : (j : Int) < (rs.length : Int) := by omega
          have hj0 : (0 : Int) ≤ j := by omega
          obtain ⟨b8, o8, rfl, k8⟩ : ∃ b off, rp = some ⟨b, off, none⟩ ∧ KRx.At wr b off rs := by
            obtain ⟨p', c', he, h⟩ := hma.rows
            injection he with e1 _ _
            subst e1
            rcases h with h | h
            · have h' : rs = [] := h
              rw [h'] at hjt; simp at hjt
            · exact h
          obtain ⟨z0, z1⟩ := krx_at k8 j hjt
          have hmem : rs[j] ∈ rs := List.getElem_mem hjt
          generalize rs[j] = r at *
          obtain ⟨T, hT⟩ : ∃ T, wr.alloc (.cells (encRx r).toArray 34) = T := ⟨_, rfl⟩
          obtain ⟨Q, hQ⟩ : ∃ Q, wr.heap.size = Q := ⟨_, rfl⟩
          have hbT : Below wr.heap.size wr T := by rw [← hT]; exact (Below.refl _ _).alloc (Nat.le_refl _) _
          have hTo : T.heap[Q]? = some (.cells (encRx r).toArray 34 (0, 0)) := by rw [← hT, ← hQ]; exact heap_alloc_new wr _
          have hTs : T.heap.size = Q + 1 := by rw [← hT, ← hQ]; simp
          have hbUT : Below U.heap.size U T := bel_then HJ.out HJ.out.size hbT
          have HAL : Hid (∀ W', Below T.heap.size T W' → (W'.cell? ⟨Q, 0, none⟩ = some (.string r.typ) ∧ W'.cell? ⟨Q, 1, none⟩ = some r.sl) ∧ (W'.cell? ⟨O, 0, none⟩ = some (.string ca) ∧ W'.cell? ⟨O, 1, none⟩ = some (.string cb) ∧ W'.cell? ⟨O, 2, none⟩ = some (.bool wl) ∧ W'.cell? ⟨O, 3, none⟩ = some (.slice wp wo.length wc) ∧ W'.cell? ⟨O, 4, none⟩ = some (.bool il) ∧ W'.cell? ⟨O, 5, none⟩ = some (.slice ip io.length ic)) ∧ Below U.heap.size U W' ∧ Below V.heap.size V W') := fun W' hW => by
            have e1 := (hW.block Q (by omega)).trans hTo
            have hb := bel_then hbUT hbUT.size hW
            obtain ⟨h1, h2⟩ := HCB.out W' hb
            exact ⟨⟨by rw [Lib.cell_of_heap e1]; rfl, by rw [Lib.cell_of_heap e1]; rfl⟩, h1, hb, h2⟩
          have HP1 : Hid (∀ W', Below T.heap.size T W' → Calls Try.prog 23 #[.agg (encRx r).toArray, .agg #[.string ca, .string cb, .bool wl, .slice wp wo.length wc, .bool il, .slice ip io.length ic]] W' fun e w' => BoolPost W' (touchesM r.rg (⟨ca, cb, wl, wp, wc, wo, il, ip, ic, io⟩ : Cx).ch) e w') := fun W' hW => HTP1.out W' r (HAL.out W' hW).2.2.2 hmem
          have HP2 : Hid (∀ W', Below T.heap.size T W' → Calls Try.prog 24 #[.agg (encRx r).toArray, .agg #[.string ca, .string cb, .bool wl, .slice wp wo.length wc, .bool il, .slice ip io.length ic]] W' fun e w' => e = .returned (.bool (touchesM r.rg (⟨ca, cb, wl, wp, wc, wo, il, ip, ic, io⟩ : Cx).ch)) ∧ Below W'.heap.size W' w') := fun W' hW => HTR1.out W' r (HAL.out W' hW).2.2.2 hmem
          generalize touchesM r.rg (⟨ca, cb, wl, wp, wc, wo, il, ip, ic, io⟩ : Cx).ch = D at *
          clear hma k8 hmem HJ hbT hTo hTs hbUT hbV
          obtain ⟨xt, xp, xc, xm⟩ := r
          simp only [encRx, Rx.sl] at *
          obtain ⟨⟨s0, s1⟩, ⟨t0, t1, t2, t3, t4, t5⟩, _, _⟩ := HAL.out T (Below.refl _ _)
          have hdd : (D != D) = false := by cases D <;> rfl
          go_wp2_with fail
          try rw [hT]
          try rw [hQ]
          clear v0 v1 v2 v3 v4 v5 z0 z1 hT
          refine wp_region_held_drew (S := fun w' => w'.cell? ⟨Q, 0, none⟩ = some (.string xt) ∧ w'.cell? ⟨Q, 1, none⟩ = some (.slice xp xm.length xc) ∧ w'.cell? ⟨O, 0, none⟩ = some (.string ca) ∧ w'.cell? ⟨O, 1, none⟩ = some (.string cb) ∧ w'.cell? ⟨O, 2, none⟩ = some (.bool wl) ∧ w'.cell? ⟨O, 3, none⟩ = some (.slice wp wo.length wc) ∧ w'.cell? ⟨O, 4, none⟩ = some (.bool il) ∧ w'.cell? ⟨O, 5, none⟩ = some (.slice ip io.length ic)) (by kernel_rfl) ⟨s0, s1, t0, t1, t2, t3, t4, t5⟩ (fun hHeld => ?_)
          refine take_val (i := 0) (.agg #[.string xt, .slice xp xm.length xc]) rfl (by kernel_rfl) (by kernel_rfl) (by kernel_rfl) (fun _ _ _ h => h) (by rfl) (fun w hSw => by go_simp) hHeld ?_
          simp only [Act.put, List.setIfInBounds_toArray, List.set_cons_zero, List.set_cons_succ]
          refine take_val (i := 1) (.agg #[.string ca, .string cb, .bool wl, .slice wp wo.length wc, .bool il, .slice ip io.length ic]) rfl (by kernel_rfl) (by kernel_rfl) (by kernel_rfl) (fun _ _ _ h => h) (by rfl) (fun w hSw => by go_simp) hHeld ?_
          simp only [Act.put, List.setIfInBounds_toArray, List.set_cons_zero, List.set_cons_succ]
          refine take_val (i := 3) (.agg #[.string xt, .slice xp xm.length xc]) rfl (by kernel_rfl) (by kernel_rfl) (by kernel_rfl) (fun _ _ _ h => h) (by rfl) (fun w hSw => by go_simp) hHeld ?_
          simp only [Act.put, List.setIfInBounds_toArray, List.set_cons_zero, List.set_cons_succ]
          refine take_val (i := 4) (.agg #[.string ca, .string cb, .bool wl, .slice wp wo.length wc, .bool il, .slice ip io.length ic]) rfl (by kernel_rfl) (by kernel_rfl) (by kernel_rfl) (fun _ _ _ h => h) (by rfl) (fun w hSw => by go_simp) hHeld ?_
          simp only [Act.put, List.setIfInBounds_toArray, List.set_cons_zero, List.set_cons_succ]
          clear hHeld s0 s1 t0 t1 t2 t3 t4 t5
          refine wpAnyH_ready (rs := [2]) (by kernel_rfl) (by simp) ?_
          refine AllReadyH.cons (at_drop0 rfl) (fun K hK => ?_) AllReadyH.nil
          rw [if_pos (by rfl)]
          go_simp
          refine (HP1.out T.drew (bel_drewN (Below.refl _ _) 1)).mono ?_
          rintro e x1 ⟨rfl, hx1⟩
          have hx1' : Below T.heap.size T x1 := (bel_drewN (Below.refl _ _) 1).trans hx1
          obtain ⟨⟨s0, s1⟩, ⟨t0, t1, t2, t3, t4, t5⟩, _, _⟩ := HAL.out x1 hx1'
          have HX1 := hid hx1'
          have HP3 := hid (HP2.out x1 hx1')
          clear hx1 hx1' HP1 HP2
          go_wp2_with fail
          refine hK.out _ _ (⟨s0, s1, t0, t1, t2, t3, t4, t5⟩) (fun hHeld => ?_)
          clear hK K
          try simp only [Act.put, List.setIfInBounds_toArray, List.set_cons_zero, List.set_cons_succ]
          clear hHeld s0 s1 t0 t1 t2 t3 t4 t5
          refine wpAnyH_ready (rs := [5]) (by kernel_rfl) (by simp) ?_
          refine AllReadyH.cons (at_drop0 rfl) (fun K hK => ?_) AllReadyH.nil
          rw [if_pos (by rfl)]
          go_simp
          refine HP3.out.mono ?_
          rintro e x2 ⟨rfl, hx2⟩
          obtain ⟨⟨s0, s1⟩, ⟨t0, t1, t2, t3, t4, t5⟩, hbe, _⟩ := HAL.out x2 (bel_then HX1.out HX1.out.size hx2)
          have HE := hid hbe
          clear hx2 hbe HP3 HAL
          go_wp2_with fail
          refine hK.out _ _ (⟨s0, s1, t0, t1, t2, t3, t4, t5⟩) (fun hHeld => ?_)
          clear hK K
          try simp only [Act.put, List.setIfInBounds_toArray, List.set_cons_zero, List.set_cons_succ]
          refine take_val (i := 6) (.bool false) rfl (by kernel_rfl) (by kernel_rfl) (by kernel_rfl) (fun _ _ _ h => h) (by rfl) (fun w hSw => by go_simp) hHeld ?_
          simp only [Act.put, List.setIfInBounds_toArray, List.set_cons_zero, List.set_cons_succ]
          refine wpAnyH_done (by kernel_rfl) ?_ _
          clear hHeld s0 s1 t0 t1 t2 t3 t4 t5 hdd
          go_wp2_with fail
          go_roundg (rs.length - (j + 1))
          case measure => omega
          exact ⟨j + 1, by go_num, by omega, by omega, HE.out⟩
        · have hjz : ¬ (j : Int) < (rs.length : Int) := by omega
          have HE := hid hbV
          clear hma hbV HJ v0 v1 v2 v3 v4 v5
          go_wp2_with fail
          go_roundg (l.length - (i + 1))
          case measure => omega
          exact ⟨i + 1, by go_num, by omega, by omega, HE.out⟩
    · have hltz : ¬ (i : Int) < (l.length : Int) := by omega
      have HE := hid hbe
      clear hma hch hbe HI a0 a1
      go_wp2_with fail
      go_ret
      first | exact ⟨rfl, HE.out⟩ | exact ⟨rfl, by rw [← hM]; exact HE.out⟩

end Go.Proofs.Ythdakljoabbghaa

/-
  The laws of stage 12: the chapter's examples, as data.
-/
namespace Go.Proofs.Ythdakljoabbghaa
open Go.RowKit

def gmA : ByteArray := ⟨#[65]⟩
def gma : Ky := (⟨#[65]⟩, ⟨#[97]⟩)
def gmt : Tm := (⟨#[110]⟩, 1, ⟨#[120]⟩)
def gmX : List Fld := [(⟨#[110]⟩, [⟨#[120]⟩])]
def gmY : List Fld := [(⟨#[110]⟩, [⟨#[121]⟩])]
def gmR : Rg := (⟨#[65]⟩, [gmt])
def gmC : Ch := ⟨gma, true, gmX, true, gmY⟩
def gmD : Ch := ⟨gma, false, [], true, gmY⟩
def gmM : Mk := ([gma], [gmR])
theorem gm_tc : touchesM gmR gmC = true := by decide +kernel
theorem gm_td : touchesM gmR gmD = false := by decide +kernel
theorem gm_key : keyM ([], []) gma = ([gma], []) := by rfl
theorem gm_range : rangeM ([gma], []) gmR = gmM := by rfl
theorem gm_hits : hitsM gmM [gmD] = true := by decide
theorem gm_hitc : hitM gmM gmC = true := by decide
theorem gm_which : whichM gmM [gmC] = [gma] := by
  unfold whichM
  rw [List.foldl_cons, if_pos gm_hitc]
  rfl
theorem gm_union : unionM gmM gmM = gmM := by
  have h1 : gmM.1.foldl (fun acc k => insR ltKy k acc) (sortK gmM.1) = gmM.1 := by
    refine rising_uniqR totK (inss_spec _ _ (sortK_spec _).1).1 (List.pairwise_singleton _ _) fun z => ?_
    rw [(inss_spec _ _ (sortK_spec _).1).2, (sortK_spec _).2]
    simp
  have h2 : gmM.2.foldl putR (gmM.2.foldl putR []) = gmM.2 := by
    show putR (putR [] gmR) gmR = [gmR]
    have e : putR [] gmR = [gmR] := rfl
    rw [e]
    unfold putR
    rw [if_pos (by simp)]
  unfold unionM
  rw [h1, h2]
theorem gm_ne : decide (gmM = (([], []) : Mk)) = false := decide_eq_false fun h => by
  have := congrArg (fun m : Mk => m.1.length) h
  simp [gmM] at this
theorem gm_fit : FitKy12 gma := ⟨by decide, by decide⟩

end Go.Proofs.Ythdakljoabbghaa

/-
  The laws of stage 12: the chapter's examples, walked.
-/
namespace Go.Proofs.Ythdakljoabbghaa
open Go.RowKit

/-- The field n with one text, as it lies. -/
def gmF (t : ByteArray) (b : Nat) : List Fx := [⟨⟨#[110]⟩, some ⟨b, 0, none⟩, 1, [t]⟩]
theorem gmf_is {W : World} {t : ByteArray} {b c : Nat} (h1 : W.heap[c]? = some (.cells #[.string ⟨#[110]⟩, .slice (some ⟨b, 0, none⟩) 1 1] 64 (0, 0))) (h2 : W.heap[b]? = some (.cells #[.string t] 9 (0, 0))) : IsXs W (.slice (some ⟨c, 0, none⟩) 1 1) (gmF t b) := by
  refine ⟨_, _, rfl, Or.inr ⟨_, _, rfl, fun i hi => ?_⟩, fun x hx => ?_⟩
  · have hi' : i = 0 := by simpa [gmF] using hi
    subst hi'
    exact ⟨by rw [Lib.cell_of_heap h1]; rfl, by rw [Lib.cell_of_heap h1]; rfl⟩
  · rw [gmF, List.mem_singleton] at hx
    subst hx
    refine Or.inr ⟨_, _, rfl, fun i hi => ?_⟩
    have hi' : i = 0 := by simpa using hi
    subst hi'
    rw [Lib.cell_of_heap h2]; rfl
theorem gmf_cp (t : ByteArray) (b : Nat) : CopyX (gmF t b) := by
  refine ⟨by simp [gmF], fun x hx => ?_⟩
  rw [gmF, List.mem_singleton] at hx
  subst hx
  show 1 * 16 ≤ _
  omega
theorem copyX_nil : CopyX [] := ⟨by simp, fun x hx => by cases hx⟩
theorem gmf_fit (t : ByteArray) (b : Nat) (h : t.size ≤ 1) : FitX (gmF t b) := by
  refine ⟨by unfold maxLen; simp [gmF], fun x hx => ?_⟩
  rw [gmF, List.mem_singleton] at hx
  subst hx
  refine ⟨show (⟨#[110]⟩ : ByteArray).size ≤ maxLen by decide, show [t].length ≤ maxLen by unfold maxLen; simp, fun t' ht => ?_⟩
  have e : t' = t := by simpa [Fx.fld] using ht
  subst e
  unfold maxLen
  omega

/-- The nine blocks that are laid first. -/
def gmBlocks (N : Nat) : List (Array Value × TypeId) := [
  (#[.string ⟨#[120]⟩], 9), (#[.string ⟨#[110]⟩, .slice (some ⟨N, 0, none⟩) 1 1], 64),
  (#[.string ⟨#[121]⟩], 9), (#[.string ⟨#[110]⟩, .slice (some ⟨N + 2, 0, none⟩) 1 1], 64),
  (#[.string ⟨#[65]⟩, .string ⟨#[97]⟩], 27),
  (#[.string ⟨#[110]⟩, .int .i64 1, .string ⟨#[120]⟩], 58), (#[.string ⟨#[65]⟩, .slice (some ⟨N + 5, 0, none⟩) 1 1], 34),
  (#[.string ⟨#[65]⟩, .string ⟨#[97]⟩, .bool true, .slice (some ⟨N + 1, 0, none⟩) 1 1, .bool true, .slice (some ⟨N + 3, 0, none⟩) 1 1], 43),
  (#[.string ⟨#[65]⟩, .string ⟨#[97]⟩, .bool false, .slice none 0 0, .bool true, .slice (some ⟨N + 3, 0, none⟩) 1 1], 43)]
/-- Blocks laid one behind the other. -/
def laidB (w : World) (l : List (Array Value × TypeId)) : World := l.foldl (fun w x => w.alloc (.cells x.1 x.2)) w
theorem laidB_spec : ∀ (l : List (Array Value × TypeId)) (w : World), Below w.heap.size w (laidB w l) ∧ (laidB w l).heap.size = w.heap.size + l.length ∧ ∀ i (h : i < l.length), (laidB w l).heap[w.heap.size + i]? = some (.cells (l[i]).1 (l[i]).2 (0, 0))
  | [], w => ⟨Below.refl _ _, rfl, fun i h => by simp at h⟩
  | x :: r, w => by
    obtain ⟨h1, h2, h3⟩ := laidB_spec r (w.alloc (.cells x.1 x.2))
    have hs : (w.alloc (.cells x.1 x.2)).heap.size = w.heap.size + 1 := by simp
    have hb : Below w.heap.size w (w.alloc (.cells x.1 x.2)) := (Below.refl _ _).alloc (Nat.le_refl _) _
    have e : laidB w (x :: r) = laidB (w.alloc (.cells x.1 x.2)) r := rfl
    rw [e]
    refine ⟨bel_then hb (by omega) h1, by rw [h2, hs, List.length_cons]; omega, fun i h => ?_⟩
    cases i with
    | zero =>
      rw [Nat.add_zero, h1.block _ (by omega)]
      exact heap_alloc_new w _
    | succ i =>
      have := h3 i (by simpa using h)
      rw [hs] at this
      rw [show w.heap.size + (i + 1) = w.heap.size + 1 + i by omega]
      exact this

/-- The state between the calls of 'm := marks.Range(marks.Key(..), ..)'. -/
def GmSt (V : World) (k : Nat) (fl : List Bool) (v27 v30 v7 : Value) (w : World) : Prop := ∃ (B : Nat) (m1 m : Mx), Below V.heap.size V w ∧ (k = 3 → fl = [true]) ∧
  (fl = [true] → v7 = .pointer (some ⟨B, 0, none⟩) ∧ V.heap.size ≤ B ∧ w.heap[B]? = some (.cells (if k = 3 then (encMx m).toArray else #[.slice none 0 0, .slice none 0 0]) 25 (0, 0))) ∧
  (1 ≤ k → v27 = .agg (encMx m1).toArray ∧ m1.mk' = ([gma], []) ∧ ∀ w', Fr (fun b => fl = [true] ∧ b = B) w w' → MIn w' m1) ∧
  (2 ≤ k → v30 = .agg (encMx m).toArray ∧ m.mk' = gmM ∧ ∀ w', Fr (fun b => fl = [true] ∧ b = B) w w' → MIn w' m)

theorem gmSt_start {V w : World} (v27 v30 v7 : Value) (h : Below V.heap.size V w) : GmSt V 0 [false] v27 v30 v7 w :=
  ⟨0, default, default, h, (fun h => by omega), (fun h => by cases h), (fun h => by omega), (fun h => by omega)⟩
theorem gmSt_key {V w w2 : World} {fl : List Bool} {v27 v30 v7 : Value} {m2 : Mx} (h : GmSt V 0 fl v27 v30 v7 w) (ho : MOwn w.heap.size w2 m2) (hk : m2.mk' = ([gma], [])) (hb2 : Below w.heap.size w w2) : GmSt V 1 fl (.agg (encMx m2).toArray) v30 v7 w2 := by
  obtain ⟨B, m1, m, hb, hg3, hbox, hm1, hm⟩ := h
  exact ⟨B, m2, m, bel_then hb hb.size hb2, (fun h => by omega), (fun h => by
    obtain ⟨h1, h2, h3⟩ := hbox h
    exact ⟨h1, h2, (hb2.block B (Array.getElem?_eq_some_iff.1 h3).1).trans h3⟩), (fun _ => ⟨rfl, hk, fun w3 f => (ho.fr f fun k hk => by
      obtain ⟨h, rfl⟩ := hk
      exact (Array.getElem?_eq_some_iff.1 (hbox h).2.2).1).inn⟩), (fun h => by omega)⟩
theorem gmSt_range {V w w2 : World} {fl : List Bool} {v27 v30 v7 : Value} {m2 : Mx} (h : GmSt V 1 fl v27 v30 v7 w) (ho : MOwn w.heap.size w2 m2) (hk : m2.mk' = gmM) (hb2 : Below w.heap.size w w2) : GmSt V 2 fl v27 (.agg (encMx m2).toArray) v7 w2 := by
  obtain ⟨B, m1, m, hb, hg3, hbox, hm1, hm⟩ := h
  exact ⟨B, m1, m2, bel_then hb hb.size hb2, (fun h => by omega), (fun h => by
    obtain ⟨h1, h2, h3⟩ := hbox h
    exact ⟨h1, h2, (hb2.block B (Array.getElem?_eq_some_iff.1 h3).1).trans h3⟩), (fun _ => by
    obtain ⟨h1, h2, h3⟩ := hm1 (Nat.le_refl _)
    exact ⟨h1, h2, fun w3 f => h3 w3 ((Fr.of_below hb2).then f fun k hk => Or.inl hk)⟩), (fun _ => ⟨rfl, hk, fun w3 f => (ho.fr f fun k hk => by
      obtain ⟨h, rfl⟩ := hk
      exact (Array.getElem?_eq_some_iff.1 (hbox h).2.2).1).inn⟩)⟩
theorem gmSt_alloc {V w : World} {k : Nat} {v27 v30 v7 : Value} (h : GmSt V k [false] v27 v30 v7 w) (hk3 : k ≤ 3) : GmSt V k [true] v27 v30 (.pointer (some ⟨w.heap.size, 0, none⟩)) (w.alloc (.cells #[.slice none 0 0, .slice none 0 0] 25)) := by
  obtain ⟨B, m1, m, hb, hg3, hbox, hm1, hm⟩ := h
  have hk : k ≤ 2 := by
    rcases Nat.lt_or_ge k 3 with h | h
    · omega
    · have := hg3 (by omega)
      cases this
  have hal : Below w.heap.size w (w.alloc (.cells #[.slice none 0 0, .slice none 0 0] 25)) := (Below.refl _ _).alloc (Nat.le_refl _) _
  have hfr : ∀ w', Fr (fun b => [true] = [true] ∧ b = w.heap.size) (w.alloc (.cells #[.slice none 0 0, .slice none 0 0] 25)) w' → Fr (fun b => [false] = [true] ∧ b = B) w w' := fun w' f => (Fr.of_below hal).then f fun k hk => Or.inr (Nat.le_of_eq hk.2.symm)
  refine ⟨w.heap.size, m1, m, bel_then hb hb.size hal, (fun _ => rfl), (fun _ => ⟨rfl, hb.size, ?_⟩), (fun h => ?_), (fun h => ?_)⟩
  · rw [if_neg (by omega)]
    exact heap_alloc_new w _
  · obtain ⟨h1, h2, h3⟩ := hm1 h
    exact ⟨h1, h2, fun w3 f => h3 w3 (hfr w3 f)⟩
  · obtain ⟨h1, h2, h3⟩ := hm h
    exact ⟨h1, h2, fun w3 f => h3 w3 (hfr w3 f)⟩
/-- A row of one change in a block of its own. -/
theorem one_at {W : World} {Z : Nat} {c : Cx} (h : W.heap[Z]? = some (.cells (encCx c).toArray 43 (0, 0))) : KCx.At W Z 0 [c] := fun i hi j u hu => by
  have hi' : i = 0 := by simpa using hi
  subst hi'
  have hj : j < 6 := (List.getElem?_eq_some_iff.1 hu).1
  rw [Lib.cell_of_heap h]
  rcases j with _ | _ | _ | _ | _ | _ | j
  all_goals first | exact hu | omega
/-- What lies behind the region: the marks in a box. -/
structure GmEnd (V : World) (B : Nat) (m : Mx) (w : World) : Prop where
  bel : Below V.heap.size V w
  low : V.heap.size ≤ B
  box : w.heap[B]? = some (.cells (encMx m).toArray 25 (0, 0))
  is : m.mk' = gmM
  inn : MIn w m
theorem gmSt_store {V w : World} {v27 v30 v7 : Value} (h : GmSt V 2 [true] v27 v30 v7 w) : ∃ B m, v7 = .pointer (some ⟨B, 0, none⟩) ∧ v30 = .agg (encMx m).toArray ∧ (w.cell? ⟨B, 0, none⟩ = some (.slice none 0 0) ∧ w.cell? ⟨B, 1, none⟩ = some (.slice none 0 0) ∧ w.frozen? ⟨B, 0, none⟩ = false ∧ w.frozen? ⟨B, 1, none⟩ = false) ∧ GmSt V 3 [true] v27 v30 v7 ((w.setCell ⟨B, 0, none⟩ m.ksl).setCell ⟨B, 1, none⟩ m.rsl) := by
  obtain ⟨B, m1, m, hb, hg3, hbox, hm1, hm⟩ := h
  obtain ⟨h1, h2, h3⟩ := hbox rfl
  rw [if_neg (by omega)] at h3
  obtain ⟨h4, h5, h6⟩ := hm (Nat.le_refl _)
  refine ⟨B, m, h1, h4, ⟨by rw [Lib.cell_of_heap h3]; rfl, by rw [Lib.cell_of_heap h3]; rfl, Lib.frozen_of_heap h3 0, Lib.frozen_of_heap h3 1⟩, ?_⟩
  have hlt := (Array.getElem?_eq_some_iff.1 h3).1
  have e1 : (w.setCell ⟨B, 0, none⟩ m.ksl).heap[B]? = some (.cells #[m.ksl, .slice none 0 0] 25 (0, 0)) := heap_setCell_same w B 0 _ _ _ h3
  have e2 : ((w.setCell ⟨B, 0, none⟩ m.ksl).setCell ⟨B, 1, none⟩ m.rsl).heap[B]? = some (.cells #[m.ksl, m.rsl] 25 (0, 0)) := heap_setCell_same _ B 1 _ _ _ e1
  have hfr : Fr (fun b => [true] = [true] ∧ b = B) w ((w.setCell ⟨B, 0, none⟩ m.ksl).setCell ⟨B, 1, none⟩ m.rsl) := ⟨rfl, rfl, rfl, by simp, fun k _ hn => by
    rw [heap_setCell_other _ _ k _ (fun e => hn ⟨rfl, e⟩), heap_setCell_other _ _ k _ (fun e => hn ⟨rfl, e⟩)]⟩
  refine ⟨B, m1, m, hb.trans (hfr.below (by have := hb.size; omega) fun k hk => by have := hk.2; omega), (fun _ => rfl), (fun _ => ⟨h1, h2, ?_⟩), (fun _ => ?_), (fun _ => ⟨h4, h5, fun w3 f => h6 w3 (hfr.then f fun k hk => Or.inl hk)⟩)⟩
  · rw [if_pos rfl]
    exact e2
  · obtain ⟨h7, h8, h9⟩ := hm1 (by omega)
    exact ⟨h7, h8, fun w3 f => h9 w3 (hfr.then f fun k hk => Or.inl hk)⟩
theorem gmSt_end {V w : World} {v27 v30 v7 : Value} (h : GmSt V 3 [true] v27 v30 v7 w) : ∃ B m, v7 = .pointer (some ⟨B, 0, none⟩) ∧ GmEnd V B m w := by
  obtain ⟨B, m1, m, hb, hg3, hbox, hm1, hm⟩ := h
  obtain ⟨h1, h2, h3⟩ := hbox rfl
  obtain ⟨h4, h5, h6⟩ := hm (by omega)
  rw [if_pos rfl] at h3
  exact ⟨B, m, h1, hb, h2, h3, h5, h6 w (Fr.refl _ _)⟩

set_option linter.unusedSimpArgs false in
set_option maxHeartbeats 8000000 in
set_option maxRecDepth 100000 in
theorem fixed12_any (S : MarksApi) : Fixed12 := by
  intro w
  obtain ⟨N, hN⟩ : ∃ N, w.heap.size = N := ⟨_, rfl⟩
  obtain ⟨V, hV⟩ : ∃ V, laidB w (gmBlocks N) = V := ⟨_, rfl⟩
  obtain ⟨hbV, hsV, hcV⟩ := laidB_spec (gmBlocks N) w
  rw [hV] at hbV hsV hcV
  rw [hN] at hsV hcV
  have hsV' : V.heap.size = N + 9 := hsV
  have HBL : Hid (∀ W', Below V.heap.size V W' → ∀ i (h : i < 9), W'.heap[N + i]? = some (.cells ((gmBlocks N)[i]'h).1 ((gmBlocks N)[i]'h).2 (0, 0))) := fun W' hW i h => (hW.block _ (by omega)).trans (hcV i h)
  have hV' : ((((((((w.alloc (.cells #[.string ⟨#[120]⟩] 9)).alloc (.cells #[.string ⟨#[110]⟩, .slice (some ⟨N, 0, none⟩) 1 1] 64)).alloc (.cells #[.string ⟨#[121]⟩] 9)).alloc (.cells #[.string ⟨#[110]⟩, .slice (some ⟨N + 2, 0, none⟩) 1 1] 64)).alloc (.cells #[.string ⟨#[65]⟩, .string ⟨#[97]⟩] 27)).alloc (.cells #[.string ⟨#[110]⟩, .int .i64 1, .string ⟨#[120]⟩] 58)).alloc (.cells #[.string ⟨#[65]⟩, .slice (some ⟨N + 5, 0, none⟩) 1 1] 34)).alloc (.cells #[.string ⟨#[65]⟩, .string ⟨#[97]⟩, .bool true, .slice (some ⟨N + 1, 0, none⟩) 1 1, .bool true, .slice (some ⟨N + 3, 0, none⟩) 1 1] 43)).alloc (.cells #[.string ⟨#[65]⟩, .string ⟨#[97]⟩, .bool false, .slice none 0 0, .bool true, .slice (some ⟨N + 3, 0, none⟩) 1 1] 43) = V := hV
  clear hV hcV hsV
  go_enter Try.func9, Try.ntmps9
  go_upto_region 6 with fail
  simp only [Nat.add_assoc, Nat.reduceAdd]
  try rw [hV']
  clear hV'
  have HS6 : Hid (∀ W', Below V.heap.size V W' → W'.cell? ⟨N + 4, 0, none⟩ = some (.string ⟨#[65]⟩) ∧ W'.cell? ⟨N + 4, 1, none⟩ = some (.string ⟨#[97]⟩) ∧ W'.cell? ⟨N + 6, 0, none⟩ = some (.string ⟨#[65]⟩) ∧ W'.cell? ⟨N + 6, 1, none⟩ = some (.slice (some ⟨N + 5, 0, none⟩) 1 1)) := fun W' hW => by
    have e4 := HBL.out W' hW 4 (by omega)
    have e6 := HBL.out W' hW 6 (by omega)
    exact ⟨by rw [Lib.cell_of_heap e4]; rfl, by rw [Lib.cell_of_heap e4]; rfl, by rw [Lib.cell_of_heap e6]; rfl, by rw [Lib.cell_of_heap e6]; rfl⟩
  have HRG : Hid (∀ W', Below V.heap.size V W' → (⟨⟨#[65]⟩, some ⟨N + 5, 0, none⟩, 1, [gmt]⟩ : Rx).at W') := fun W' hW => by
    have e5 := HBL.out W' hW 5 (by omega)
    refine ⟨⟨_, _, rfl, Or.inr ⟨_, _, rfl, fun i hi j u hu => ?_⟩⟩, ⟨⟨by unfold maxLen; simp, fun x hx => ?_⟩, by simp⟩⟩
    · have hi' : i = 0 := by simpa using hi
      subst hi'
      have hj : j < 3 := (List.getElem?_eq_some_iff.1 hu).1
      rw [Lib.cell_of_heap e5]
      rcases j with _ | _ | _ | j
      all_goals first | exact hu | omega
    · obtain rfl : x = gmt := by simpa using hx
      exact ⟨by decide, by decide, by decide, by decide⟩
  refine wp_region_held_drew (S := fun w' => w'.cell? ⟨N + 4, 0, none⟩ = some (.string ⟨#[65]⟩) ∧ w'.cell? ⟨N + 4, 1, none⟩ = some (.string ⟨#[97]⟩) ∧ w'.cell? ⟨N + 6, 0, none⟩ = some (.string ⟨#[65]⟩) ∧ w'.cell? ⟨N + 6, 1, none⟩ = some (.slice (some ⟨N + 5, 0, none⟩) 1 1)) (by kernel_rfl) (HS6.out V.drew (bel_drewN (Below.refl _ _) 1)) (fun hHeld => ?_)
  refine take_val (i := 0) (.agg #[.slice none 0 0, .slice none 0 0]) rfl (by kernel_rfl) (by kernel_rfl) (by kernel_rfl) (fun _ _ _ h => h) (by rfl) (fun w hSw => by go_simp) hHeld ?_
  simp only [Act.put, List.setIfInBounds_toArray, List.set_cons_zero, List.set_cons_succ]
  refine take_val (i := 1) (.agg #[.string ⟨#[65]⟩, .string ⟨#[97]⟩]) rfl (by kernel_rfl) (by kernel_rfl) (by kernel_rfl) (fun _ _ _ h => h) (by rfl) (fun w hSw => by go_simp) hHeld ?_
  simp only [Act.put, List.setIfInBounds_toArray, List.set_cons_zero, List.set_cons_succ]
  refine take_val (i := 3) (.pointer (some ⟨N + 6, 1, none⟩)) rfl (by kernel_rfl) (by kernel_rfl) (by kernel_rfl) (fun _ _ _ h => h) (by rfl) (fun w hSw => by go_simp) hHeld ?_
  simp only [Act.put, List.setIfInBounds_toArray, List.set_cons_zero, List.set_cons_succ]
  refine take_val (i := 4) (.slice (some ⟨N + 5, 0, none⟩) 1 1) rfl (by kernel_rfl) (by kernel_rfl) (by kernel_rfl) (fun _ _ _ h => h) (by rfl) (fun w hSw => by go_simp) hHeld ?_
  simp only [Act.put, List.setIfInBounds_toArray, List.set_cons_zero, List.set_cons_succ]
  clear hHeld
  refine wpAnyH_floats [2, 5, 7] [6] (fun a0 k fl a w' => ∃ v27 v30 v7, a = putS a0 [(27, v27), (30, v30), (7, v7)] ∧ GmSt V k fl v27 v30 v7 w') (by kernel_rfl) (by decide) ⟨_, _, _, (putS_self _ [27, 30, 7]).symm, gmSt_start _ _ _ (bel_drewN (Below.refl _ _) 1)⟩ ?hS ?hmain ?halloc ?hend
  case hS =>
    rintro k fl a w' ⟨v27, v30, v7, _, B, m1, m, hb, _⟩
    exact HS6.out w' hb
  case hmain =>
    rintro k i fl a w' hk hfl hrd ⟨v27, v30, v7, rfl, hst⟩
    rcases k with _ | _ | _ | k
    · obtain rfl : i = 2 := by simpa using hk.symm
      have HK := hid (S.key w' ⟨none, 0, [], none, 0, []⟩ gma ⟨KK.is_nil w', KRx.is_nil w', fun r hr => by cases hr⟩ ⟨by decide, by decide⟩ gm_fit (fun x hx => by cases hx))
      simp only [encMx, Mx.ksl, Mx.rsl, gma, List.length_nil] at HK
      have HST := hid hst
      clear hrd hst
      refine ⟨_, at_drop0 rfl, fun K hK => ?_⟩
      simp only [putS, List.foldl_cons, List.foldl_nil, Act.put, List.setIfInBounds_toArray, List.set_cons_zero, List.set_cons_succ]
      rw [if_pos (by rfl)]
      go_simp
      refine HK.out.mono ?_
      rintro e w2 ⟨m2, rfl, ho2, hk2, hb2⟩
      have HST2 := hid (gmSt_key HST.out ho2 hk2 hb2)
      clear hk2 ho2 hb2 HST
      go_wp2_with fail
      exact hK.out _ _ ⟨_, v30, v7, rfl, HST2.out⟩
    · obtain rfl : i = 5 := by simpa using hk.symm
      obtain ⟨B, m1, m, hb, _, hbox, hm1, hm⟩ := id hst
      obtain ⟨e1, e2, e3⟩ := hm1 (Nat.le_refl _)
      have e4 : m1.ks = [gma] := congrArg Prod.fst e2
      have e5 : m1.rs = [] := List.map_eq_nil_iff.1 (congrArg Prod.snd e2)
      have HK := hid (S.range w' m1 ⟨⟨#[65]⟩, some ⟨N + 5, 0, none⟩, 1, [gmt]⟩ (e3 w' (Fr.refl _ _)) ⟨by rw [e4]; decide, by rw [e5]; decide⟩ (HRG.out w' hb))
      rw [e2] at HK
      have HST := hid hst
      subst e1
      clear hrd hst hbox hm1 hm e2 e3
      obtain ⟨kp, kc, ks, rp, rc, rs⟩ := m1
      simp only at e4 e5
      subst e4 e5
      simp only [encMx, Mx.ksl, Mx.rsl, Rx.sl, List.length_cons, List.length_nil, Nat.zero_add] at HK HST
      refine ⟨_, at_drop0 rfl, fun K hK => ?_⟩
      simp only [encMx, Mx.ksl, Mx.rsl, List.length_cons, List.length_nil, Nat.zero_add, putS, List.foldl_cons, List.foldl_nil, Act.put, List.setIfInBounds_toArray, List.set_cons_zero, List.set_cons_succ]
      rw [if_pos (by rfl)]
      go_simp
      refine HK.out.mono ?_
      rintro e w2 ⟨m2, rfl, ho2, hk2, hb2⟩
      have HST2 := hid (gmSt_range HST.out ho2 hk2 hb2)
      clear hk2 ho2 hb2 HST
      go_wp2_with fail
      exact hK.out _ _ ⟨_, _, v7, rfl, HST2.out⟩
    · obtain rfl : i = 7 := by simpa using hk.symm
      obtain ⟨b, rfl⟩ : ∃ b, fl = [b] := by
        match fl, hfl with
        | [b], _ => exact ⟨b, rfl⟩
      cases b with
      | false => exact (not_ready hrd (by kernel_rfl)).elim
      | true =>
        obtain ⟨B, m, rfl, rfl, ⟨c0, c1, z0, z1⟩, hst2⟩ := gmSt_store hst
        have HST2 := hid hst2
        clear hrd hst hst2
        obtain ⟨kp, kc, ks, rp, rc, rs⟩ := m
        simp only [encMx, Mx.ksl, Mx.rsl] at HST2
        refine ⟨_, at_drop0 rfl, fun K hK => ?_⟩
        simp only [encMx, Mx.ksl, Mx.rsl, putS, List.foldl_cons, List.foldl_nil, Act.put, List.setIfInBounds_toArray, List.set_cons_zero, List.set_cons_succ]
        rw [if_pos (by rfl)]
        go_simp
        go_wp2_with fail
        exact hK.out _ _ ⟨v27, _, _, rfl, HST2.out⟩
    · simp at hk
  case halloc =>
    rintro j i k fl a w' hj hk hfl hf ⟨v27, v30, v7, rfl, hst⟩
    obtain ⟨b, rfl⟩ : ∃ b, fl = [b] := by
      match fl, hfl with
      | [b], _ => exact ⟨b, rfl⟩
    rcases j with _ | j
    · obtain rfl : i = 6 := by simpa using hj.symm
      obtain rfl : b = false := by simpa using hf
      have HST2 := hid (gmSt_alloc hst hk)
      clear hst hf hj hk
      refine ⟨_, at_drop0 rfl, fun K hK => ?_⟩
      simp only [putS, List.foldl_cons, List.foldl_nil, Act.put, List.setIfInBounds_toArray, List.set_cons_zero, List.set_cons_succ]
      rw [if_pos (by rfl)]
      go_simp
      go_wp2_with fail
      exact hK.out _ _ ⟨v27, v30, _, rfl, HST2.out⟩
    · simp at hj
  case hend =>
    rintro a w' ⟨v27, v30, v7, rfl, hst⟩
    obtain ⟨B, m, rfl, hE⟩ := gmSt_end hst
    clear hst
    simp only [putS, List.foldl_cons, List.foldl_nil, Act.put, List.setIfInBounds_toArray, List.set_cons_zero, List.set_cons_succ]
    obtain ⟨kp, kc, ks, rp, rc, rs⟩ := m
    obtain rfl : ks = [gma] := congrArg Prod.fst hE.is
    obtain ⟨r1, rfl⟩ : ∃ r1, rs = [r1] := by
      have := congrArg (fun x : Mk => x.2.length) hE.is
      simp only [Mx.mk', List.length_map] at this
      match rs, this with
      | [r1], _ => exact ⟨r1, rfl⟩
    have HE := hid hE
    have hlB : B < w'.heap.size := (Array.getElem?_eq_some_iff.1 hE.box).1
    have HIN : Hid (∀ W', Below w'.heap.size w' W' → (W'.cell? ⟨N + 6, 0, none⟩ = some (.string ⟨#[65]⟩) ∧ W'.cell? ⟨N + 6, 1, none⟩ = some (.slice (some ⟨N + 5, 0, none⟩) 1 1) ∧ W'.cell? ⟨N + 7, 0, none⟩ = some (.string ⟨#[65]⟩) ∧ W'.cell? ⟨N + 7, 1, none⟩ = some (.string ⟨#[97]⟩) ∧ W'.cell? ⟨N + 7, 2, none⟩ = some (.bool true) ∧ W'.cell? ⟨N + 7, 3, none⟩ = some (.slice (some ⟨N + 1, 0, none⟩) 1 1) ∧ W'.cell? ⟨N + 7, 4, none⟩ = some (.bool true) ∧ W'.cell? ⟨N + 7, 5, none⟩ = some (.slice (some ⟨N + 3, 0, none⟩) 1 1) ∧ W'.cell? ⟨N + 8, 0, none⟩ = some (.string ⟨#[65]⟩) ∧ W'.cell? ⟨N + 8, 1, none⟩ = some (.string ⟨#[97]⟩) ∧ W'.cell? ⟨N + 8, 2, none⟩ = some (.bool false) ∧ W'.cell? ⟨N + 8, 3, none⟩ = some (.slice none 0 0) ∧ W'.cell? ⟨N + 8, 4, none⟩ = some (.bool true) ∧ W'.cell? ⟨N + 8, 5, none⟩ = some (.slice (some ⟨N + 3, 0, none⟩) 1 1) ∧ W'.cell? ⟨B, 0, none⟩ = some (.slice kp 1 kc) ∧ W'.cell? ⟨B, 1, none⟩ = some (.slice rp 1 rc)) ∧ MIn W' ⟨kp, kc, [gma], rp, rc, [r1]⟩ ∧ Below V.heap.size V W') := fun W' hW => by
      have hVW : Below V.heap.size V W' := bel_then HE.out.bel HE.out.bel.size hW
      have e6 := HBL.out W' hVW 6 (by omega)
      have e7 := HBL.out W' hVW 7 (by omega)
      have e8 := HBL.out W' hVW 8 (by omega)
      have eB := (hW.block B hlB).trans HE.out.box
      refine ⟨⟨?_, ?_, ?_, ?_, ?_, ?_, ?_, ?_, ?_, ?_, ?_, ?_, ?_, ?_, ?_, ?_⟩, HE.out.inn.on hW, hVW⟩
      · rw [Lib.cell_of_heap e6]; rfl
      · rw [Lib.cell_of_heap e6]; rfl
      iterate 6 (· rw [Lib.cell_of_heap e7]; rfl)
      iterate 6 (· rw [Lib.cell_of_heap e8]; rfl)
      · rw [Lib.cell_of_heap eB]; rfl
      · rw [Lib.cell_of_heap eB]; rfl
    have HC : Hid (∀ W', Below V.heap.size V W' → CIn W' ⟨⟨#[65]⟩, ⟨#[97]⟩, true, some ⟨N + 1, 0, none⟩, 1, gmF ⟨#[120]⟩ N, true, some ⟨N + 3, 0, none⟩, 1, gmF ⟨#[121]⟩ (N + 2)⟩) := fun W' hW =>
      ⟨gmf_is (HBL.out W' hW 1 (by omega)) (HBL.out W' hW 0 (by omega)), gmf_fit _ _ (by decide), gmf_is (HBL.out W' hW 3 (by omega)) (HBL.out W' hW 2 (by omega)), gmf_fit _ _ (by decide), gmf_cp _ _, gmf_cp _ _⟩
    have HD : Hid (∀ W', Below V.heap.size V W' → CIn W' ⟨⟨#[65]⟩, ⟨#[97]⟩, false, none, 0, [], true, some ⟨N + 3, 0, none⟩, 1, gmF ⟨#[121]⟩ (N + 2)⟩) := fun W' hW =>
      ⟨⟨_, _, rfl, Or.inl rfl, fun x hx => by cases hx⟩, ⟨by unfold maxLen; simp, fun x hx => by cases hx⟩, gmf_is (HBL.out W' hW 3 (by omega)) (HBL.out W' hW 2 (by omega)), gmf_fit _ _ (by decide), copyX_nil, gmf_cp _ _⟩
    have HTC : Hid (∀ W', Below w'.heap.size w' W' → Calls Try.prog 23 #[.agg #[.string ⟨#[65]⟩, .slice (some ⟨N + 5, 0, none⟩) 1 1], .agg #[.string ⟨#[65]⟩, .string ⟨#[97]⟩, .bool true, .slice (some ⟨N + 1, 0, none⟩) 1 1, .bool true, .slice (some ⟨N + 3, 0, none⟩) 1 1]] W' fun e w' => BoolPost W' true e w') := fun W' hW => by
      have := S.touches W' _ _ (HRG.out W' (HIN.out W' hW).2.2) (HC.out W' (HIN.out W' hW).2.2)
      refine this.mono fun e x h => ?_
      have h' : e = .returned (.bool (touchesM gmR gmC)) ∧ Below W'.heap.size W' x := h
      rw [gm_tc] at h'
      exact h'
    have HTD : Hid (∀ W', Below w'.heap.size w' W' → Calls Try.prog 23 #[.agg #[.string ⟨#[65]⟩, .slice (some ⟨N + 5, 0, none⟩) 1 1], .agg #[.string ⟨#[65]⟩, .string ⟨#[97]⟩, .bool false, .slice none 0 0, .bool true, .slice (some ⟨N + 3, 0, none⟩) 1 1]] W' fun e w' => BoolPost W' false e w') := fun W' hW => by
      have := S.touches W' _ _ (HRG.out W' (HIN.out W' hW).2.2) (HD.out W' (HIN.out W' hW).2.2)
      refine this.mono fun e x h => ?_
      have h' : e = .returned (.bool (touchesM gmR gmD)) ∧ Below W'.heap.size W' x := h
      rw [gm_td] at h'
      exact h'
    have hfew : FewM ⟨kp, kc, [gma], rp, rc, [r1]⟩ := ⟨by show 1 < _; decide, by show 1 < _; decide⟩
    have HHI : Hid (∀ W' Z, Below w'.heap.size w' W' → W'.heap[Z]? = some (.cells #[.string ⟨#[65]⟩, .string ⟨#[97]⟩, .bool false, .slice none 0 0, .bool true, .slice (some ⟨N + 3, 0, none⟩) 1 1] 43 (0, 0)) → Calls Try.prog 19 #[.agg #[.slice kp 1 kc, .slice rp 1 rc], .slice (some ⟨Z, 0, none⟩) 1 1] W' fun e w' => BoolPost W' true e w') := fun W' Z hW hZ => by
      have := S.hits W' ⟨kp, kc, [gma], rp, rc, [r1]⟩ (.slice (some ⟨Z, 0, none⟩) 1 1) [⟨⟨#[65]⟩, ⟨#[97]⟩, false, none, 0, [], true, some ⟨N + 3, 0, none⟩, 1, gmF ⟨#[121]⟩ (N + 2)⟩] (HIN.out W' hW).2.1 hfew.len ⟨⟨_, _, rfl, Or.inr ⟨_, _, rfl, one_at hZ⟩⟩, fun c hc => by rw [List.mem_singleton] at hc; subst hc; exact HD.out W' (HIN.out W' hW).2.2⟩ (by show 1 < _; decide)
      rw [HE.out.is] at this
      refine this.mono fun e x h => ?_
      have h' : e = .returned (.bool (hitsM gmM [gmD])) ∧ Below W'.heap.size W' x := h
      rw [gm_hits] at h'
      exact h'
    have HWH : Hid (∀ W' Z, Below w'.heap.size w' W' → W'.heap[Z]? = some (.cells #[.string ⟨#[65]⟩, .string ⟨#[97]⟩, .bool true, .slice (some ⟨N + 1, 0, none⟩) 1 1, .bool true, .slice (some ⟨N + 3, 0, none⟩) 1 1] 43 (0, 0)) → Calls Try.prog 18 #[.agg #[.slice kp 1 kc, .slice rp 1 rc], .slice (some ⟨Z, 0, none⟩) 1 1] W' fun e w' => KeyRPost W' [gma] e w') := fun W' Z hW hZ => by
      have := S.which W' ⟨kp, kc, [gma], rp, rc, [r1]⟩ (.slice (some ⟨Z, 0, none⟩) 1 1) [⟨⟨#[65]⟩, ⟨#[97]⟩, true, some ⟨N + 1, 0, none⟩, 1, gmF ⟨#[120]⟩ N, true, some ⟨N + 3, 0, none⟩, 1, gmF ⟨#[121]⟩ (N + 2)⟩] (HIN.out W' hW).2.1 hfew.len ⟨⟨_, _, rfl, Or.inr ⟨_, _, rfl, one_at hZ⟩⟩, fun c hc => by rw [List.mem_singleton] at hc; subst hc; exact HC.out W' (HIN.out W' hW).2.2⟩ (by show 1 < _; decide)
      rw [HE.out.is] at this
      refine this.mono fun e x h => ?_
      have h' : KeyRPost W' (whichM gmM [gmC]) e x := h
      rw [gm_which] at h'
      exact h'
    have HUN : Hid (∀ W', Below w'.heap.size w' W' → Calls Try.prog 12 #[.agg #[.slice kp 1 kc, .slice rp 1 rc], .agg #[.slice kp 1 kc, .slice rp 1 rc]] W' fun e w' => MOwnPost W' gmM e w') := fun W' hW => by
      have := S.union W' ⟨kp, kc, [gma], rp, rc, [r1]⟩ ⟨kp, kc, [gma], rp, rc, [r1]⟩ (HIN.out W' hW).2.1 (HIN.out W' hW).2.1 hfew hfew (fun x hx => by rw [List.mem_singleton] at hx; subst hx; exact gm_fit) (fun x hx => by rw [List.mem_singleton] at hx; subst hx; exact gm_fit)
      rw [HE.out.is, gm_union] at this
      exact this
    have HEQ : Hid (∀ W' m2, Below w'.heap.size w' W' → MIn W' m2 → LenM m2 → Calls Try.prog 15 #[.agg #[.slice kp 1 kc, .slice rp 1 rc], .agg #[m2.ksl, m2.rsl]] W' fun e w' => BoolPost W' (decide (gmM = m2.mk')) e w') := fun W' m2 hW h1 h2 => by
      have := S.equal W' ⟨kp, kc, [gma], rp, rc, [r1]⟩ m2 (HIN.out W' hW).2.1 h1 hfew.len h2
      rw [HE.out.is] at this
      exact this
    have HMI : Hid (∀ W', Below w'.heap.size w' W' → Below w.heap.size w W') := fun W' hW => bel_then hbV hbV.size (HIN.out W' hW).2.2
    clear hE hfew
    go_upto_region 7 with fail
    refine wp_region_held_drew (S := fun W => W.cell? ⟨N + 6, 0, none⟩ = some (.string ⟨#[65]⟩) ∧ W.cell? ⟨N + 6, 1, none⟩ = some (.slice (some ⟨N + 5, 0, none⟩) 1 1) ∧ W.cell? ⟨N + 7, 0, none⟩ = some (.string ⟨#[65]⟩) ∧ W.cell? ⟨N + 7, 1, none⟩ = some (.string ⟨#[97]⟩) ∧ W.cell? ⟨N + 7, 2, none⟩ = some (.bool true) ∧ W.cell? ⟨N + 7, 3, none⟩ = some (.slice (some ⟨N + 1, 0, none⟩) 1 1) ∧ W.cell? ⟨N + 7, 4, none⟩ = some (.bool true) ∧ W.cell? ⟨N + 7, 5, none⟩ = some (.slice (some ⟨N + 3, 0, none⟩) 1 1) ∧ W.cell? ⟨N + 8, 0, none⟩ = some (.string ⟨#[65]⟩) ∧ W.cell? ⟨N + 8, 1, none⟩ = some (.string ⟨#[97]⟩) ∧ W.cell? ⟨N + 8, 2, none⟩ = some (.bool false) ∧ W.cell? ⟨N + 8, 3, none⟩ = some (.slice none 0 0) ∧ W.cell? ⟨N + 8, 4, none⟩ = some (.bool true) ∧ W.cell? ⟨N + 8, 5, none⟩ = some (.slice (some ⟨N + 3, 0, none⟩) 1 1) ∧ W.cell? ⟨B, 0, none⟩ = some (.slice kp 1 kc) ∧ W.cell? ⟨B, 1, none⟩ = some (.slice rp 1 rc)) (by kernel_rfl) (HIN.out w'.drew (bel_drewN (Below.refl _ _) 1)).1 (fun hHeld => ?_)
    refine take_val (i := 0) (.agg #[.string ⟨#[65]⟩, .slice (some ⟨N + 5, 0, none⟩) 1 1]) rfl (by kernel_rfl) (by kernel_rfl) (by kernel_rfl) (fun _ _ _ h => h) (by rfl) (fun w hSw => by go_simp) hHeld ?_
    simp only [Act.put, List.setIfInBounds_toArray, List.set_cons_zero, List.set_cons_succ]
    refine take_val (i := 1) (.agg #[.string ⟨#[65]⟩, .string ⟨#[97]⟩, .bool true, .slice (some ⟨N + 1, 0, none⟩) 1 1, .bool true, .slice (some ⟨N + 3, 0, none⟩) 1 1]) rfl (by kernel_rfl) (by kernel_rfl) (by kernel_rfl) (fun _ _ _ h => h) (by rfl) (fun w hSw => by go_simp) hHeld ?_
    simp only [Act.put, List.setIfInBounds_toArray, List.set_cons_zero, List.set_cons_succ]
    clear hHeld
    refine wpAnyH_ready (rs := [2]) (by kernel_rfl) (by simp) ?_
    refine AllReadyH.cons (at_drop0 rfl) (fun K hK => ?_) AllReadyH.nil
    rw [if_pos (by rfl)]
    go_simp
    refine (HTC.out _ (bel_drewN (Below.refl _ _) 1)).mono ?_
    rintro e w1 ⟨rfl, hb1⟩
    have HB1 : Hid (Below w'.heap.size w' w1) := (bel_drewN (Below.refl w'.heap.size w') 1).trans hb1
    clear hb1
    go_wp2_with fail
    refine hK.out _ _ ((HIN.out w1 HB1.out).1) (fun hHeld => ?_)
    clear hK K
    try simp only [Act.put, List.setIfInBounds_toArray, List.set_cons_zero, List.set_cons_succ]
    refine take_val (i := 3) (.bool true) rfl (by kernel_rfl) (by kernel_rfl) (by kernel_rfl) (fun _ _ _ h => h) (by rfl) (fun w hSw => by go_simp) hHeld ?_
    simp only [Act.put, List.setIfInBounds_toArray, List.set_cons_zero, List.set_cons_succ]
    refine take_val (i := 4) (.agg #[.string ⟨#[65]⟩, .slice (some ⟨N + 5, 0, none⟩) 1 1]) rfl (by kernel_rfl) (by kernel_rfl) (by kernel_rfl) (fun _ _ _ h => h) (by rfl) (fun w hSw => by go_simp) hHeld ?_
    simp only [Act.put, List.setIfInBounds_toArray, List.set_cons_zero, List.set_cons_succ]
    refine take_val (i := 5) (.agg #[.string ⟨#[65]⟩, .string ⟨#[97]⟩, .bool false, .slice none 0 0, .bool true, .slice (some ⟨N + 3, 0, none⟩) 1 1]) rfl (by kernel_rfl) (by kernel_rfl) (by kernel_rfl) (fun _ _ _ h => h) (by rfl) (fun w hSw => by go_simp) hHeld ?_
    simp only [Act.put, List.setIfInBounds_toArray, List.set_cons_zero, List.set_cons_succ]
    clear hHeld
    refine wpAnyH_ready (rs := [6]) (by kernel_rfl) (by simp) ?_
    refine AllReadyH.cons (at_drop0 rfl) (fun K hK => ?_) AllReadyH.nil
    rw [if_pos (by rfl)]
    go_simp
    refine (HTD.out w1 HB1.out).mono ?_
    rintro e w2 ⟨rfl, hb2⟩
    have HB2 : Hid (Below w'.heap.size w' w2) := bel_then HB1.out HB1.out.size hb2
    clear hb2 HB1
    go_wp2_with fail
    refine hK.out _ _ ((HIN.out w2 HB2.out).1) (fun hHeld => ?_)
    clear hK K
    try simp only [Act.put, List.setIfInBounds_toArray, List.set_cons_zero, List.set_cons_succ]
    refine take_val (i := 7) (.bool true) rfl (by kernel_rfl) (by kernel_rfl) (by kernel_rfl) (fun _ _ _ h => h) (by rfl) (fun w hSw => by go_simp) hHeld ?_
    simp only [Act.put, List.setIfInBounds_toArray, List.set_cons_zero, List.set_cons_succ]
    refine take_val (i := 8) (.bool true) rfl (by kernel_rfl) (by kernel_rfl) (by kernel_rfl) (fun _ _ _ h => h) (by rfl) (fun w hSw => by go_simp) hHeld ?_
    simp only [Act.put, List.setIfInBounds_toArray, List.set_cons_zero, List.set_cons_succ]
    refine take_val (i := 9) (.bool true) rfl (by kernel_rfl) (by kernel_rfl) (by kernel_rfl) (fun _ _ _ h => h) (by rfl) (fun w hSw => by go_simp) hHeld ?_
    simp only [Act.put, List.setIfInBounds_toArray, List.set_cons_zero, List.set_cons_succ]
    refine take_val (i := 10) (.pointer (some ⟨B, 0, none⟩)) rfl (by kernel_rfl) (by kernel_rfl) (by kernel_rfl) (fun _ _ _ h => h) (by rfl) (fun w hSw => by go_simp) hHeld ?_
    simp only [Act.put, List.setIfInBounds_toArray, List.set_cons_zero, List.set_cons_succ]
    refine take_val (i := 11) (.slice kp 1 kc) rfl (by kernel_rfl) (by kernel_rfl) (by kernel_rfl) (fun _ _ _ h => h) (by rfl) (fun w hSw => by go_simp) hHeld ?_
    simp only [Act.put, List.setIfInBounds_toArray, List.set_cons_zero, List.set_cons_succ]
    refine take_val (i := 12) (.int .i64 1) rfl (by kernel_rfl) (by kernel_rfl) (by kernel_rfl) (fun _ _ _ h => h) (by rfl) (fun w hSw => by go_simp) hHeld ?_
    simp only [Act.put, List.setIfInBounds_toArray, List.set_cons_zero, List.set_cons_succ]
    refine take_val (i := 13) (.bool true) rfl (by kernel_rfl) (by kernel_rfl) (by kernel_rfl) (fun _ _ _ h => h) (by rfl) (fun w hSw => by go_simp) hHeld ?_
    simp only [Act.put, List.setIfInBounds_toArray, List.set_cons_zero, List.set_cons_succ]
    refine take_val (i := 14) (.bool true) rfl (by kernel_rfl) (by kernel_rfl) (by kernel_rfl) (fun _ _ _ h => h) (by rfl) (fun w hSw => by go_simp) hHeld ?_
    simp only [Act.put, List.setIfInBounds_toArray, List.set_cons_zero, List.set_cons_succ]
    refine take_val (i := 15) (.bool true) rfl (by kernel_rfl) (by kernel_rfl) (by kernel_rfl) (fun _ _ _ h => h) (by rfl) (fun w hSw => by go_simp) hHeld ?_
    simp only [Act.put, List.setIfInBounds_toArray, List.set_cons_zero, List.set_cons_succ]
    refine take_val (i := 16) (.pointer (some ⟨B, 1, none⟩)) rfl (by kernel_rfl) (by kernel_rfl) (by kernel_rfl) (fun _ _ _ h => h) (by rfl) (fun w hSw => by go_simp) hHeld ?_
    simp only [Act.put, List.setIfInBounds_toArray, List.set_cons_zero, List.set_cons_succ]
    refine take_val (i := 17) (.slice rp 1 rc) rfl (by kernel_rfl) (by kernel_rfl) (by kernel_rfl) (fun _ _ _ h => h) (by rfl) (fun w hSw => by go_simp) hHeld ?_
    simp only [Act.put, List.setIfInBounds_toArray, List.set_cons_zero, List.set_cons_succ]
    refine take_val (i := 18) (.int .i64 1) rfl (by kernel_rfl) (by kernel_rfl) (by kernel_rfl) (fun _ _ _ h => h) (by rfl) (fun w hSw => by go_simp) hHeld ?_
    simp only [Act.put, List.setIfInBounds_toArray, List.set_cons_zero, List.set_cons_succ]
    refine take_val (i := 19) (.bool true) rfl (by kernel_rfl) (by kernel_rfl) (by kernel_rfl) (fun _ _ _ h => h) (by rfl) (fun w hSw => by go_simp) hHeld ?_
    simp only [Act.put, List.setIfInBounds_toArray, List.set_cons_zero, List.set_cons_succ]
    refine take_val (i := 20) (.bool true) rfl (by kernel_rfl) (by kernel_rfl) (by kernel_rfl) (fun _ _ _ h => h) (by rfl) (fun w hSw => by go_simp) hHeld ?_
    simp only [Act.put, List.setIfInBounds_toArray, List.set_cons_zero, List.set_cons_succ]
    refine take_val (i := 21) (.bool true) rfl (by kernel_rfl) (by kernel_rfl) (by kernel_rfl) (fun _ _ _ h => h) (by rfl) (fun w hSw => by go_simp) hHeld ?_
    simp only [Act.put, List.setIfInBounds_toArray, List.set_cons_zero, List.set_cons_succ]
    refine take_val (i := 22) (.agg #[.slice kp 1 kc, .slice rp 1 rc]) rfl (by kernel_rfl) (by kernel_rfl) (by kernel_rfl) (fun _ _ _ h => h) (by rfl) (fun w hSw => by go_simp) hHeld ?_
    simp only [Act.put, List.setIfInBounds_toArray, List.set_cons_zero, List.set_cons_succ]
    refine take_val (i := 23) (.agg #[.string ⟨#[65]⟩, .string ⟨#[97]⟩, .bool false, .slice none 0 0, .bool true, .slice (some ⟨N + 3, 0, none⟩) 1 1]) rfl (by kernel_rfl) (by kernel_rfl) (by kernel_rfl) (fun _ _ _ h => h) (by rfl) (fun w hSw => by go_simp) hHeld ?_
    simp only [Act.put, List.setIfInBounds_toArray, List.set_cons_zero, List.set_cons_succ]
    clear hHeld
    have hnew3 := heap_alloc_new w2 (.cells #[.string ⟨#[65]⟩, .string ⟨#[97]⟩, .bool false, .slice none 0 0, .bool true, .slice (some ⟨N + 3, 0, none⟩) 1 1] 43)
    obtain ⟨w3, hw3⟩ : ∃ w3, w2.alloc (.cells #[.string ⟨#[65]⟩, .string ⟨#[97]⟩, .bool false, .slice none 0 0, .bool true, .slice (some ⟨N + 3, 0, none⟩) 1 1] 43) = w3 := ⟨_, rfl⟩
    obtain ⟨Z3, hZ3⟩ : ∃ Z3, w2.heap.size = Z3 := ⟨_, rfl⟩
    have HB3 : Hid (Below w'.heap.size w' w3) := by rw [← hw3]; exact bel_then HB2.out HB2.out.size ((Below.refl _ _).alloc (Nat.le_refl _) _)
    rw [hw3, hZ3] at hnew3
    have HN3 := hid hnew3
    have HZ3 := hid hZ3
    have HW3 := hid hw3
    clear hnew3 hZ3 hw3
    refine wpAnyH_ready (rs := [24]) (by kernel_rfl) (by simp) ?_
    refine AllReadyH.cons (at_drop0 rfl) (fun K hK => ?_) AllReadyH.nil
    rw [if_pos (by rfl)]
    go_simp
    go_wp2_with fail
    try rw [HW3.out]
    try rw [HZ3.out]
    refine hK.out _ _ ((HIN.out w3 HB3.out).1) (fun hHeld => ?_)
    clear hK K
    try simp only [Act.put, List.setIfInBounds_toArray, List.set_cons_zero, List.set_cons_succ]
    clear hHeld
    refine wpAnyH_ready (rs := [25]) (by kernel_rfl) (by simp) ?_
    refine AllReadyH.cons (at_drop0 rfl) (fun K hK => ?_) AllReadyH.nil
    rw [if_pos (by rfl)]
    go_simp
    refine (HHI.out w3 Z3 HB3.out HN3.out).mono ?_
    rintro e w4 ⟨rfl, hb4⟩
    have HB4 : Hid (Below w'.heap.size w' w4) := bel_then HB3.out HB3.out.size hb4
    clear hb4 HB3 HN3 HB2 HW3 HZ3
    go_wp2_with fail
    refine hK.out _ _ ((HIN.out w4 HB4.out).1) (fun hHeld => ?_)
    clear hK K
    try simp only [Act.put, List.setIfInBounds_toArray, List.set_cons_zero, List.set_cons_succ]
    refine take_val (i := 26) (.bool true) rfl (by kernel_rfl) (by kernel_rfl) (by kernel_rfl) (fun _ _ _ h => h) (by rfl) (fun w hSw => by go_simp) hHeld ?_
    simp only [Act.put, List.setIfInBounds_toArray, List.set_cons_zero, List.set_cons_succ]
    refine take_val (i := 27) (.bool true) rfl (by kernel_rfl) (by kernel_rfl) (by kernel_rfl) (fun _ _ _ h => h) (by rfl) (fun w hSw => by go_simp) hHeld ?_
    simp only [Act.put, List.setIfInBounds_toArray, List.set_cons_zero, List.set_cons_succ]
    refine take_val (i := 28) (.agg #[.slice kp 1 kc, .slice rp 1 rc]) rfl (by kernel_rfl) (by kernel_rfl) (by kernel_rfl) (fun _ _ _ h => h) (by rfl) (fun w hSw => by go_simp) hHeld ?_
    simp only [Act.put, List.setIfInBounds_toArray, List.set_cons_zero, List.set_cons_succ]
    refine take_val (i := 29) (.agg #[.string ⟨#[65]⟩, .string ⟨#[97]⟩, .bool true, .slice (some ⟨N + 1, 0, none⟩) 1 1, .bool true, .slice (some ⟨N + 3, 0, none⟩) 1 1]) rfl (by kernel_rfl) (by kernel_rfl) (by kernel_rfl) (fun _ _ _ h => h) (by rfl) (fun w hSw => by go_simp) hHeld ?_
    simp only [Act.put, List.setIfInBounds_toArray, List.set_cons_zero, List.set_cons_succ]
    clear hHeld
    have hnew5 := heap_alloc_new w4 (.cells #[.string ⟨#[65]⟩, .string ⟨#[97]⟩, .bool true, .slice (some ⟨N + 1, 0, none⟩) 1 1, .bool true, .slice (some ⟨N + 3, 0, none⟩) 1 1] 43)
    obtain ⟨w5, hw5⟩ : ∃ w5, w4.alloc (.cells #[.string ⟨#[65]⟩, .string ⟨#[97]⟩, .bool true, .slice (some ⟨N + 1, 0, none⟩) 1 1, .bool true, .slice (some ⟨N + 3, 0, none⟩) 1 1] 43) = w5 := ⟨_, rfl⟩
    obtain ⟨Z5, hZ5⟩ : ∃ Z5, w4.heap.size = Z5 := ⟨_, rfl⟩
    have HB5 : Hid (Below w'.heap.size w' w5) := by rw [← hw5]; exact bel_then HB4.out HB4.out.size ((Below.refl _ _).alloc (Nat.le_refl _) _)
    rw [hw5, hZ5] at hnew5
    have HN5 := hid hnew5
    have HZ5 := hid hZ5
    have HW5 := hid hw5
    clear hnew5 hZ5 hw5
    refine wpAnyH_ready (rs := [30]) (by kernel_rfl) (by simp) ?_
    refine AllReadyH.cons (at_drop0 rfl) (fun K hK => ?_) AllReadyH.nil
    rw [if_pos (by rfl)]
    go_simp
    go_wp2_with fail
    try rw [HW5.out]
    try rw [HZ5.out]
    refine hK.out _ _ ((HIN.out w5 HB5.out).1) (fun hHeld => ?_)
    clear hK K
    try simp only [Act.put, List.setIfInBounds_toArray, List.set_cons_zero, List.set_cons_succ]
    clear hHeld
    refine wpAnyH_ready (rs := [31]) (by kernel_rfl) (by simp) ?_
    refine AllReadyH.cons (at_drop0 rfl) (fun K hK => ?_) AllReadyH.nil
    rw [if_pos (by rfl)]
    go_simp
    refine (HWH.out w5 Z5 HB5.out HN5.out).mono ?_
    rintro e w6 ⟨u6, rfl, ho6, hb6⟩
    obtain ⟨p6, c6, rfl⟩ := Kind.own_shape ho6
    have HB6 : Hid (Below w'.heap.size w' w6) := bel_then HB5.out HB5.out.size hb6
    clear hb6 HB5 HN5 HB4 HW5 HZ5 ho6
    simp only [List.length_cons, List.length_nil, Nat.zero_add]
    go_wp2_with fail
    refine hK.out _ _ ((HIN.out w6 HB6.out).1) (fun hHeld => ?_)
    clear hK K
    try simp only [Act.put, List.setIfInBounds_toArray, List.set_cons_zero, List.set_cons_succ]
    refine take_val (i := 32) (.int .i64 1) rfl (by kernel_rfl) (by kernel_rfl) (by kernel_rfl) (fun _ _ _ h => h) (by rfl) (fun w hSw => by go_simp) hHeld ?_
    simp only [Act.put, List.setIfInBounds_toArray, List.set_cons_zero, List.set_cons_succ]
    refine take_val (i := 33) (.bool true) rfl (by kernel_rfl) (by kernel_rfl) (by kernel_rfl) (fun _ _ _ h => h) (by rfl) (fun w hSw => by go_simp) hHeld ?_
    simp only [Act.put, List.setIfInBounds_toArray, List.set_cons_zero, List.set_cons_succ]
    refine take_val (i := 34) (.bool true) rfl (by kernel_rfl) (by kernel_rfl) (by kernel_rfl) (fun _ _ _ h => h) (by rfl) (fun w hSw => by go_simp) hHeld ?_
    simp only [Act.put, List.setIfInBounds_toArray, List.set_cons_zero, List.set_cons_succ]
    refine take_val (i := 35) (.bool true) rfl (by kernel_rfl) (by kernel_rfl) (by kernel_rfl) (fun _ _ _ h => h) (by rfl) (fun w hSw => by go_simp) hHeld ?_
    simp only [Act.put, List.setIfInBounds_toArray, List.set_cons_zero, List.set_cons_succ]
    refine take_val (i := 36) (.agg #[.slice kp 1 kc, .slice rp 1 rc]) rfl (by kernel_rfl) (by kernel_rfl) (by kernel_rfl) (fun _ _ _ h => h) (by rfl) (fun w hSw => by go_simp) hHeld ?_
    simp only [Act.put, List.setIfInBounds_toArray, List.set_cons_zero, List.set_cons_succ]
    refine take_val (i := 37) (.agg #[.slice kp 1 kc, .slice rp 1 rc]) rfl (by kernel_rfl) (by kernel_rfl) (by kernel_rfl) (fun _ _ _ h => h) (by rfl) (fun w hSw => by go_simp) hHeld ?_
    simp only [Act.put, List.setIfInBounds_toArray, List.set_cons_zero, List.set_cons_succ]
    refine take_val (i := 38) (.agg #[.slice kp 1 kc, .slice rp 1 rc]) rfl (by kernel_rfl) (by kernel_rfl) (by kernel_rfl) (fun _ _ _ h => h) (by rfl) (fun w hSw => by go_simp) hHeld ?_
    simp only [Act.put, List.setIfInBounds_toArray, List.set_cons_zero, List.set_cons_succ]
    clear hHeld
    refine wpAnyH_ready (rs := [39]) (by kernel_rfl) (by simp) ?_
    refine AllReadyH.cons (at_drop0 rfl) (fun K hK => ?_) AllReadyH.nil
    rw [if_pos (by rfl)]
    go_simp
    refine (HUN.out w6 HB6.out).mono ?_
    rintro e w7 ⟨m7, rfl, ho7, hk7, hb7⟩
    have HB7 : Hid (Below w'.heap.size w' w7) := bel_then HB6.out HB6.out.size hb7
    have HQ := hid (HEQ.out w7 m7 HB7.out ho7.inn (by
      constructor
      · rw [show m7.ks = gmM.1 from congrArg Prod.fst hk7]; decide
      · have := congrArg (fun x : Mk => x.2.length) hk7
        simp only [Mx.mk', List.length_map] at this
        rw [this]; decide))
    rw [hk7, decide_eq_true rfl] at HQ
    clear hb7 HB6 ho7 hk7
    obtain ⟨kp7, kc7, ks7, rp7, rc7, rs7⟩ := m7
    simp only [encMx, Mx.ksl, Mx.rsl] at HQ ⊢
    go_wp2_with fail
    refine hK.out _ _ ((HIN.out w7 HB7.out).1) (fun hHeld => ?_)
    clear hK K
    try simp only [Act.put, List.setIfInBounds_toArray, List.set_cons_zero, List.set_cons_succ]
    clear hHeld
    refine wpAnyH_ready (rs := [40]) (by kernel_rfl) (by simp) ?_
    refine AllReadyH.cons (at_drop0 rfl) (fun K hK => ?_) AllReadyH.nil
    rw [if_pos (by rfl)]
    go_simp
    refine HQ.out.mono ?_
    rintro e w8 ⟨rfl, hb8⟩
    have HB8 : Hid (Below w'.heap.size w' w8) := bel_then HB7.out HB7.out.size hb8
    clear hb8 HB7 HQ
    go_wp2_with fail
    refine hK.out _ _ ((HIN.out w8 HB8.out).1) (fun hHeld => ?_)
    clear hK K
    try simp only [Act.put, List.setIfInBounds_toArray, List.set_cons_zero, List.set_cons_succ]
    refine take_val (i := 41) (.bool true) rfl (by kernel_rfl) (by kernel_rfl) (by kernel_rfl) (fun _ _ _ h => h) (by rfl) (fun w hSw => by go_simp) hHeld ?_
    simp only [Act.put, List.setIfInBounds_toArray, List.set_cons_zero, List.set_cons_succ]
    refine take_val (i := 42) (.bool true) rfl (by kernel_rfl) (by kernel_rfl) (by kernel_rfl) (fun _ _ _ h => h) (by rfl) (fun w hSw => by go_simp) hHeld ?_
    simp only [Act.put, List.setIfInBounds_toArray, List.set_cons_zero, List.set_cons_succ]
    refine take_val (i := 43) (.agg #[.slice kp 1 kc, .slice rp 1 rc]) rfl (by kernel_rfl) (by kernel_rfl) (by kernel_rfl) (fun _ _ _ h => h) (by rfl) (fun w hSw => by go_simp) hHeld ?_
    simp only [Act.put, List.setIfInBounds_toArray, List.set_cons_zero, List.set_cons_succ]
    refine take_val (i := 44) (.agg #[.slice none 0 0, .slice none 0 0]) rfl (by kernel_rfl) (by kernel_rfl) (by kernel_rfl) (fun _ _ _ h => h) (by rfl) (fun w hSw => by go_simp) hHeld ?_
    simp only [Act.put, List.setIfInBounds_toArray, List.set_cons_zero, List.set_cons_succ]
    clear hHeld
    have HQ := hid (HEQ.out w8 ⟨none, 0, [], none, 0, []⟩ HB8.out ⟨KK.is_nil w8, KRx.is_nil w8, fun r hr => by cases hr⟩ ⟨by decide, by decide⟩)
    rw [show decide (gmM = (⟨none, 0, [], none, 0, []⟩ : Mx).mk') = false from gm_ne] at HQ
    simp only [Mx.ksl, Mx.rsl, List.length_nil] at HQ
    refine wpAnyH_ready (rs := [45]) (by kernel_rfl) (by simp) ?_
    refine AllReadyH.cons (at_drop0 rfl) (fun K hK => ?_) AllReadyH.nil
    rw [if_pos (by rfl)]
    go_simp
    refine HQ.out.mono ?_
    rintro e w9 ⟨rfl, hb9⟩
    have HB9 : Hid (Below w'.heap.size w' w9) := bel_then HB8.out HB8.out.size hb9
    clear hb9 HB8 HQ
    go_wp2_with fail
    refine hK.out _ _ ((HIN.out w9 HB9.out).1) (fun hHeld => ?_)
    clear hK K
    try simp only [Act.put, List.setIfInBounds_toArray, List.set_cons_zero, List.set_cons_succ]
    refine take_val (i := 46) (.bool true) rfl (by kernel_rfl) (by kernel_rfl) (by kernel_rfl) (fun _ _ _ h => h) (by rfl) (fun w hSw => by go_simp) hHeld ?_
    simp only [Act.put, List.setIfInBounds_toArray, List.set_cons_zero, List.set_cons_succ]
    refine take_val (i := 47) (.bool true) rfl (by kernel_rfl) (by kernel_rfl) (by kernel_rfl) (fun _ _ _ h => h) (by rfl) (fun w hSw => by go_simp) hHeld ?_
    simp only [Act.put, List.setIfInBounds_toArray, List.set_cons_zero, List.set_cons_succ]
    refine take_val (i := 48) (.bool true) rfl (by kernel_rfl) (by kernel_rfl) (by kernel_rfl) (fun _ _ _ h => h) (by rfl) (fun w hSw => by go_simp) hHeld ?_
    simp only [Act.put, List.setIfInBounds_toArray, List.set_cons_zero, List.set_cons_succ]
    refine wpAnyH_done (by kernel_rfl) ?_ _
    clear hHeld
    have HM9 := hid (HMI.out w9 HB9.out)
    go_wp2_with fail
    go_ret
    exact ⟨rfl, HM9.out⟩

end Go.Proofs.Ythdakljoabbghaa

/-
  For every marks and all changes the Go function MarksHits of package foliolaw12 returns true, and its arguments read behind the call as they read before; no condition; over the contracts of package marks.
-/
namespace Go.Proofs.Ythdakljoabbghaa
open Go.ChangeShapes Go.WideShapes Go.ChangeAt Go.RowKit Go.Joins

set_option maxRecDepth 100000 in
theorem markshits_walked (S : MarksApi) {H : Type} {enc : TypeId × Value → H} (W : World) (base : Nat) (args : Array Value) (ds gs : List (DataW H)) (before : List MemPlace)
    (hval : ∀ (j : Nat) t v, Try.f4.params[j]? = some t → args[j]? = some v → Value.okWide Try.prog W .any base t v)
    (hW : DataW.Whole enc Try.prog Try.f4.params.toList Rows.marksHitsSpec.vars false W args.toList ds gs before)
    (hZ : (DataW.weightsEach Try.prog (Try.f4.params.toList ++ (OpenSpec.ofChange Rows.marksHitsSpec).bare.plain.varTypes Try.prog) (ds ++ gs)).all (· ≤ reachBytes) = true) :
    Calls Try.prog 4 args W fun e W' => ∃ v, e = .returned v ∧ Rows.marksHitsSpec.post enc Try.prog Try.f4 false true false false W args v W' := by
  have hW' := hW
  obtain ⟨p, q, hA0, hV, rfl, _, _⟩ := hW
  have hA : DataW.TrodAll enc Try.prog W 0 (fun _ => true) true Try.f4.params.toList args.toList ds p := hA0
  rw [Try.params4] at hA hval hZ
  obtain ⟨v0, vs0, d0, ds0, p0, q0, hargs, rfl, rfl, h0, r0⟩ := trodAll_cons hA
  obtain ⟨v1, vs1, d1, ds1, p1, q1, rfl, rfl, rfl, h1, r1⟩ := trodAll_cons r0
  obtain ⟨rfl, rfl, rfl⟩ := trodAll_nil r1
  obtain rfl : args = #[v0, v1] := by cases args; simp_all
  obtain ⟨rfl, rfl⟩ := trodVars_none hV
  have lt0 : ∀ x ∈ p0, x.block < W.heap.size := by obtain ⟨m, hm⟩ := h0; exact DataW.trod_lt m _ _ _ hm
  have lt1 : ∀ x ∈ p1, x.block < W.heap.size := by obtain ⟨m, hm⟩ := h1; exact DataW.trod_lt m _ _ _ hm
  have k0 := h0
  have k1 := h1
  have hwalk : Calls Try.prog 4 #[v0, v1] W fun e w' => e = .returned (.bool true) ∧ Below W.heap.size W w' := by
    have z0 : ∀ n ∈ d0.weights Try.prog 25, n ≤ reachBytes := fun n hn => by
      have := List.all_eq_true.1 hZ n (DataW.weights_mem_each (j := 0) rfl rfl n hn)
      simpa using this
    have z1 : ∀ n ∈ d1.weights Try.prog 37, n ≤ reachBytes := fun n hn => by
      have := List.all_eq_true.1 hZ n (DataW.weights_mem_each (j := 1) rfl rfl n hn)
      simpa using this
    obtain ⟨a, rfl, hai, hak, ha1, ha2, hal⟩ := open_marksM (hval 0 25 v0 rfl rfl) h0 z0
    obtain ⟨p, cap, l, rfl, hli, hlc, hlk, hl1, hl2⟩ := open_changesM (hval 1 37 v1 rfl rfl) h1 z1
    exact mhits12_any S (fixed12_any S) a _ l W hai hal hli hl2
  clear hA0
  refine hwalk.mono fun o W' ⟨he, bel⟩ => ?_
  subst he
  exact ⟨_, rfl, _, _, _, [], _, [], hW', trodAll_mk1 (shut_bool Try.underlying4 _),
    (trodAll_cons_mk (Below.trod Try.laidOut (by kernel_rfl) (of_decide_eq_true (by kernel_rfl)) k0 bel lt0) (trodAll_cons_mk (Below.trod Try.laidOut (by kernel_rfl) (of_decide_eq_true (by kernel_rfl)) k1 bel lt1) trodAll_mk0)), rfl, bel.frame _, fun h => by cases h⟩

set_option maxRecDepth 100000 in
theorem markshits_free (S : MarksApi) (os : Os) (started : os.Started) (H : Type) (enc : TypeId × Value → H) :
    ReturnsInHanded {} Try.checked os 4 .any (Rows.marksHitsSpec.pre6 enc Try.prog Try.f4 Rows.marksHitsRow.domain false) (Rows.marksHitsSpec.post enc Try.prog Try.f4 false true false false) := by
  refine returnsInHanded_of_change_sized (C := Try.checked) Try.own started (by kernel_rfl) Try.func4
    (ChangeSpec.witness6 (enc := enc) (C := Try.checked) false ⟨#[], #[.agg #[.slice none 0 0, .slice none 0 0], .slice none 0 0], []⟩ 8 (by kernel_rfl) (by kernel_rfl) (by kernel_rfl) (by kernel_rfl)) ?_
  intro W base args ds gs before hval hW _ hZ _
  exact markshits_walked S W base args ds gs before hval hW hZ

theorem markshits_of (S : MarksApi) : Rows.MarksHitsSaid :=
  OpenClaim.holds_of_wide 4 Try.f4 rfl rfl rfl rfl rfl rfl rfl ⟨rfl, rfl, rfl, rfl, rfl⟩ rfl rfl rfl rfl rfl (by kernel_rfl) Try.func4 (by kernel_rfl)
    (of_decide_eq_true (by kernel_rfl)) (by unfold Func.isWrapper; first | (rw [if_pos (by decide +kernel)]; kernel_rfl) | (rw [if_neg (by decide +kernel)]; exact ⟨rfl, rfl⟩))
    (fun os started H enc _ => markshits_free S os started H enc)

end Go.Proofs.Ythdakljoabbghaa
