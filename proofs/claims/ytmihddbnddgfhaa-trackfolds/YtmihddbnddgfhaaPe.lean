/-
  Texts of this claim, one behind the other: Yq3 Mq1 Pc5 Mq2 Mq5 Mq6 Mq7 Mq8 Mq9 Yq4 Yqm Yq5 Mq3 Mq4 Yq6 Yq8 Yr2 Yq9.
-/
import Derived.Test.YtmihddbnddgfhaaPd
import Derived.Test.YtmihddbnddgfhaaPb
import Derived.Test.YtmihddbnddgfhaaPa
import Derived.Deep.RegionHeld3
import Derived.Lib.AppendZerosOnto
import Derived.Test.YtmihddbnddgfhaaPc
import Derived.Laws.CopyRow
import Derived.Laws.IdiomCopy
import Derived.Lib.Overlaps
import Derived.Deep.RegionLaw
/-
  Package track (stage 13): ownChange; a copy of changes.
-/
namespace Go.Proofs.Ytmihddbnddgfhaa
open Go.RowKit

/-- A change in memory of its own. -/
def QC : MadeK Cx where
  E N w x := COwn N w x
  Blk x k := BlkCx x k
  fr h f hP := h.fr f hP
  blk h k hk := h.blk k hk
  weak h hM := h.weak hM

theorem enters_ownC : ∀ args w, (callFunc 50 args).run Try.prog w = .ok (.enter 50 args) w := enters_of Try.func50 (by kernel_rfl) rfl

set_option linter.unusedSimpArgs false in
set_option maxHeartbeats 8000000 in
set_option maxRecDepth 100000 in
theorem ownC_any (x : Cx) (w : World) (hx : CIn w x) : Calls Try.prog 50 #[.agg (encCx x).toArray] w fun e w' => MadePost KCx QC Cx.ch w x.ch e w' := by
  obtain ⟨hbV, h1, h2, hs⟩ := two_boxes w (encCx x).toArray #[.string ⟨#[]⟩, .string ⟨#[]⟩, .bool false, .slice none 0 0, .bool false, .slice none 0 0] 70 70
  obtain ⟨V, hV⟩ : ∃ V, (w.alloc (.cells (encCx x).toArray 70)).alloc (.cells #[.string ⟨#[]⟩, .string ⟨#[]⟩, .bool false, .slice none 0 0, .bool false, .slice none 0 0] 70) = V := ⟨_, rfl⟩
  obtain ⟨G, hG⟩ : ∃ G, w.heap.size = G := ⟨_, rfl⟩
  rw [hV] at hbV h1 h2 hs
  rw [hG] at h1 h2 hs
  have HBX : Hid (V.drew.heap[G]? = some (.cells #[.string x.a, .string x.b, .bool x.wl, .slice x.wp x.wo.length x.wc, .bool x.il, .slice x.ip x.io.length x.ic] 70 (0, 0))) := h1
  have HZ : Hid (V.drew.heap[G + 1]? = some (.cells #[.string ⟨#[]⟩, .string ⟨#[]⟩, .bool false, .slice none 0 0, .bool false, .slice none 0 0] 70 (0, 0))) := h2
  have HVS : Hid (V.drew.heap.size = G + 2) := hs
  have hsV : G < V.drew.heap.size := (Array.getElem?_eq_some_iff.1 HBX.out).1
  have HBL : Hid (∀ W', Fr (fun b => b = G) V.drew W' → Below w.heap.size w W') := fun W' f => hbV.drew.trans (f.below hbV.drew.size fun k hk => by omega)
  have HF1 : Hid (∀ W', Fr (fun b => b = G) V.drew W' → Calls Try.prog 61 #[.slice x.wp x.wo.length x.wc, .func (.func 62) #[] #[]] W' fun e w' => ∃ u o, e = .returned u ∧ OwnJ W'.heap.size w' u o ∧ o.map Fx.fld = x.wo.map Fx.fld ∧ Below W'.heap.size W' w') := fun W' f => copyF_any _ x.wo W' (hx.was.kept (HBL.out W' f)) hx.wcp
  have HF2 : Hid (∀ W', Fr (fun b => b = G) V.drew W' → Calls Try.prog 61 #[.slice x.ip x.io.length x.ic, .func (.func 62) #[] #[]] W' fun e w' => ∃ u o, e = .returned u ∧ OwnJ W'.heap.size w' u o ∧ o.map Fx.fld = x.io.map Fx.fld ∧ Below W'.heap.size W' w') := fun W' f => copyF_any _ x.io W' (hx.is.kept (HBL.out W' f)) hx.icp
  have HX := hid hx
  clear hx hbV h1 h2 hs
  simp only [encCx] at *
  go_enter Try.func50, Try.ntmps50
  go_wp2_with fail
  try rw [hV]
  try rw [hG]
  clear hV
  have HG := hid hG
  clear hG
  refine wp_region_held_drew (S := fun _ => True) (by kernel_rfl) trivial (fun hHeld => ?_)
  refine take_val (i := 0) (.pointer (some ⟨G, 3, none⟩)) rfl (by kernel_rfl) (by kernel_rfl) (by kernel_rfl) (fun _ _ _ h => h) (by rfl) (fun w hSw => by go_simp) hHeld ?_
  simp only [Act.put, List.setIfInBounds_toArray, List.set_cons_zero, List.set_cons_succ]
  refine take_val (i := 3) (.pointer (some ⟨G, 5, none⟩)) rfl (by kernel_rfl) (by kernel_rfl) (by kernel_rfl) (fun _ _ _ h => h) (by rfl) (fun w hSw => by go_simp) hHeld ?_
  simp only [Act.put, List.setIfInBounds_toArray, List.set_cons_zero, List.set_cons_succ]
  clear hHeld
  refine wpAnyH_floats [2, 5, 7, 8, 9] [1, 4, 6] (fun a0 k fl a w' => ∃ t1 t2 t3 t4 t5 t6, a = putS a0 [(4, t1), (5, t2), (7, t3), (8, t4), (9, t5), (10, t6)] ∧ ChSt13 V.drew G x (kk13 k) (fl.take 2) t1 t2 t3 t4 w' ∧ (fl[2]? = some true → t5 = .pointer (some ⟨G, 3, none⟩)) ∧ (4 ≤ k → t6 = .pointer (some ⟨G, 5, none⟩))) (by kernel_rfl) (by decide) ⟨_, _, _, _, _, _, (putS_self _ [4, 5, 7, 8, 9, 10]).symm, ch13_start HBX.out _ _ _ _, (fun h => by cases h), (fun h => by omega)⟩ ?hS ?hmain ?halloc ?hend
  case hS =>
    intros
    trivial
  case hmain =>
    rintro k i' fl a w' hk hfl hrd ⟨t1, t2, t3, t4, t5, t6, rfl, hst, hp5, hp6⟩
    obtain ⟨f1, f2, f3, rfl⟩ : ∃ f1 f2 f3, fl = [f1, f2, f3] := by
      match fl, hfl with
      | [f1, f2, f3], _ => exact ⟨f1, f2, f3, rfl⟩
    rcases k with _ | _ | _ | _ | _ | k
    · obtain rfl : i' = 2 := by simpa using hk.symm
      cases f1 with
      | false => exact (not_ready hrd (by cases f2 <;> cases f3 <;> kernel_rfl)).elim
      | true =>
        obtain rfl := hst.f1 rfl
        have HST := hid hst
        have HP5 := hid hp5
        clear hst hrd hk hfl hp5 hp6
        refine ⟨_, at_drop0 rfl, fun K hK => ?_⟩
        simp only [putS, List.foldl_cons, List.foldl_nil, Act.put, List.setIfInBounds_toArray, List.set_cons_zero, List.set_cons_succ]
        rw [if_pos (by rfl)]
        go_simp
        refine (HF1.out w' HST.out.fr).mono ?_
        rintro e w2 ⟨u, o, rfl, ho, hm, hb2⟩
        have HS2 := hid (ch13_call1 HST.out hsV hb2 ho hm)
        clear ho hm hb2
        go_wp2_with fail
        exact hK.out _ _ ⟨_, u, t3, t4, t5, t6, rfl, HS2.out, HP5.out, (fun h => by omega)⟩
    · obtain rfl : i' = 5 := by simpa using hk.symm
      have h1 := hst.d1 (by decide)
      obtain rfl : f1 = true := by simpa using h1
      cases f2 with
      | false => exact (not_ready hrd (by cases f3 <;> kernel_rfl)).elim
      | true =>
        obtain rfl := hst.f2 rfl
        have HST := hid hst
        have HP5 := hid hp5
        clear hst hrd hk hfl h1 hp5 hp6
        refine ⟨_, at_drop0 rfl, fun K hK => ?_⟩
        simp only [putS, List.foldl_cons, List.foldl_nil, Act.put, List.setIfInBounds_toArray, List.set_cons_zero, List.set_cons_succ]
        rw [if_pos (by rfl)]
        go_simp
        refine (HF2.out w' HST.out.fr).mono ?_
        rintro e w2 ⟨u, o, rfl, ho, hm, hb2⟩
        have HS2 := hid (ch13_call2 HST.out hsV hb2 ho hm)
        clear ho hm hb2
        go_wp2_with fail
        exact hK.out _ _ ⟨t1, t2, _, u, t5, t6, rfl, HS2.out, HP5.out, (fun h => by omega)⟩
    · obtain rfl : i' = 7 := by simpa using hk.symm
      have h1 := hst.d1 (by decide)
      obtain rfl : f1 = true := by simpa using h1
      have h2 := hst.d2 (by decide)
      obtain rfl : f2 = true := by simpa using h2
      obtain ⟨o, q1, _⟩ := hst.c1 (by decide)
      obtain ⟨pu, cu, rfl⟩ := ownJ_slice q1
      have c0 : w'.cell? ⟨G, 3, none⟩ = some (.slice x.wp x.wo.length x.wc) := by rw [Lib.cell_of_heap hst.box]; rfl
      have z0 : w'.frozen? ⟨G, 3, none⟩ = false := Lib.frozen_of_heap hst.box 3
      have HS2 := hid (ch13_store1 hst hsV)
      cases f3 with
      | false => exact (not_ready hrd (by kernel_rfl)).elim
      | true =>
      obtain rfl := hp5 rfl
      clear hst hrd hk hfl h1 h2 q1 hp5 hp6
      refine ⟨_, at_drop0 rfl, fun K hK => ?_⟩
      simp only [putS, List.foldl_cons, List.foldl_nil, Act.put, List.setIfInBounds_toArray, List.set_cons_zero, List.set_cons_succ]
      rw [if_pos (by rfl)]
      go_simp
      go_wp2_with fail
      exact hK.out _ _ ⟨t1, _, t3, t4, _, t6, rfl, HS2.out, (fun _ => rfl), (fun h => by omega)⟩
    · obtain rfl : i' = 8 := by simpa using hk.symm
      have HST := hid hst
      have HP5 := hid hp5
      clear hst hrd hk hfl hp5 hp6
      refine ⟨_, at_drop0 rfl, fun K hK => ?_⟩
      simp only [putS, List.foldl_cons, List.foldl_nil, Act.put, List.setIfInBounds_toArray, List.set_cons_zero, List.set_cons_succ]
      rw [if_pos (by rfl)]
      go_simp
      go_wp2_with fail
      exact hK.out _ _ ⟨t1, t2, t3, t4, t5, _, rfl, HST.out, HP5.out, (fun _ => rfl)⟩
    · obtain rfl : i' = 9 := by simpa using hk.symm
      have h1 := hst.d1 (by decide)
      obtain rfl : f1 = true := by simpa using h1
      have h2 := hst.d2 (by decide)
      obtain rfl : f2 = true := by simpa using h2
      obtain ⟨o, _, _, q1⟩ := hst.c1 (by decide)
      obtain ⟨o', q2, _⟩ := q1 (by decide)
      obtain ⟨pu, cu, rfl⟩ := ownJ_slice q2
      have c0 : w'.cell? ⟨G, 5, none⟩ = some (.slice x.ip x.io.length x.ic) := by rw [Lib.cell_of_heap hst.box]; rfl
      have z0 : w'.frozen? ⟨G, 5, none⟩ = false := Lib.frozen_of_heap hst.box 5
      have HS2 := hid (ch13_store2 hst hsV)
      obtain rfl := hp6 (by omega)
      have HP5 := hid hp5
      clear hst hrd hk hfl h1 h2 q1 q2 hp5 hp6
      refine ⟨_, at_drop0 rfl, fun K hK => ?_⟩
      simp only [putS, List.foldl_cons, List.foldl_nil, Act.put, List.setIfInBounds_toArray, List.set_cons_zero, List.set_cons_succ]
      rw [if_pos (by rfl)]
      go_simp
      go_wp2_with fail
      exact hK.out _ _ ⟨t1, t2, t3, _, t5, _, rfl, HS2.out, HP5.out, (fun _ => rfl)⟩
    · simp at hk
  case halloc =>
    rintro j i' k fl a w' hj hk hfl hf ⟨t1, t2, t3, t4, t5, t6, rfl, hst, hp5, hp6⟩
    have HP5 := hid hp5
    have HP6 := hid hp6
    clear hp5 hp6
    obtain ⟨f1, f2, f3, rfl⟩ : ∃ f1 f2 f3, fl = [f1, f2, f3] := by
      match fl, hfl with
      | [f1, f2, f3], _ => exact ⟨f1, f2, f3, rfl⟩
    rcases j with _ | _ | _ | j
    · obtain rfl : i' = 1 := by simpa using hj.symm
      obtain rfl : f1 = false := by simpa using hf
      have hk0 : kk13 k = 0 := by
        rcases Nat.eq_zero_or_pos (kk13 k) with h | h
        · exact h
        · have := hst.d1 h
          simp at this
      rw [hk0] at hst
      have HK0 := hid hk0
      clear hk0
      have c0 : w'.cell? ⟨G, 3, none⟩ = some (.slice x.wp x.wo.length x.wc) := by rw [Lib.cell_of_heap hst.box]; rfl
      have HS2 := hid (ch13_load1 hst)
      clear hst hf hj hk hfl
      refine ⟨_, at_drop0 rfl, fun K hK => ?_⟩
      simp only [putS, List.foldl_cons, List.foldl_nil, Act.put, List.setIfInBounds_toArray, List.set_cons_zero, List.set_cons_succ]
      rw [if_pos (by rfl)]
      go_simp
      go_wp2_with fail
      exact hK.out _ _ ⟨_, t2, t3, t4, t5, t6, rfl, by rw [HK0.out]; exact HS2.out, HP5.out, HP6.out⟩
    · obtain rfl : i' = 4 := by simpa using hj.symm
      obtain rfl : f2 = false := by simpa using hf
      have hk0 : ¬ 4 ≤ kk13 k := fun h => by
        have := hst.d2 (by omega)
        simp at this
      have c0 : w'.cell? ⟨G, 5, none⟩ = some (.slice x.ip x.io.length x.ic) := by
        rw [Lib.cell_of_heap hst.box, if_neg hk0]; rfl
      have HS2 := hid (ch13_load2 hst)
      clear hst hf hj hk hfl hk0
      refine ⟨_, at_drop0 rfl, fun K hK => ?_⟩
      simp only [putS, List.foldl_cons, List.foldl_nil, Act.put, List.setIfInBounds_toArray, List.set_cons_zero, List.set_cons_succ]
      rw [if_pos (by rfl)]
      go_simp
      go_wp2_with fail
      exact hK.out _ _ ⟨t1, t2, _, t4, t5, t6, rfl, HS2.out, HP5.out, HP6.out⟩
    · obtain rfl : i' = 6 := by simpa using hj.symm
      have HST := hid hst
      clear hst hf hj hk hfl
      refine ⟨_, at_drop0 rfl, fun K hK => ?_⟩
      simp only [putS, List.foldl_cons, List.foldl_nil, Act.put, List.setIfInBounds_toArray, List.set_cons_zero, List.set_cons_succ]
      rw [if_pos (by rfl)]
      go_simp
      go_wp2_with fail
      exact hK.out _ _ ⟨t1, t2, t3, t4, _, t6, rfl, HST.out, (fun _ => rfl), HP6.out⟩
    · simp at hj
  case hend =>
    rintro a w3 ⟨t1, t2, t3, t4, t5, t6, rfl, hst, _, _⟩
    obtain ⟨o, q1, q2, q3⟩ := hst.c1 (by decide)
    obtain ⟨o', q4, q5, q6⟩ := q3 (by decide)
    obtain ⟨pu, cu, rfl⟩ := ownJ_slice q1
    obtain ⟨pv, cv, rfl⟩ := ownJ_slice q4
    have hbx : w3.heap[G]? = some (.cells #[.string x.a, .string x.b, .bool x.wl, .slice pu o.length cu, .bool x.il, .slice pv o'.length cv] 70 (0, 0)) := hst.box
    have hz3 : w3.heap[G + 1]? = some (.cells #[.string ⟨#[]⟩, .string ⟨#[]⟩, .bool false, .slice none 0 0, .bool false, .slice none 0 0] 70 (0, 0)) := (hst.fr.block (G + 1) (by rw [HVS.out]; omega) (by omega)).trans HZ.out
    obtain ⟨W4, hW4⟩ : ∃ W4, ((((((w3.setCell ⟨G + 1, 0, none⟩ (.string x.a)).setCell ⟨G + 1, 1, none⟩ (.string x.b)).setCell ⟨G + 1, 2, none⟩ (.bool x.wl)).setCell ⟨G + 1, 3, none⟩ (.slice pu o.length cu)).setCell ⟨G + 1, 4, none⟩ (.bool x.il)).setCell ⟨G + 1, 5, none⟩ (.slice pv o'.length cv)) = W4 := ⟨_, rfl⟩
    have hz4 : W4.heap[G + 1]? = some (.cells #[.string x.a, .string x.b, .bool x.wl, .slice pu o.length cu, .bool x.il, .slice pv o'.length cv] 70 (0, 0)) := by
      rw [← hW4]
      exact heap_setCell_same _ (G + 1) 5 _ _ _ (heap_setCell_same _ (G + 1) 4 _ _ _ (heap_setCell_same _ (G + 1) 3 _ _ _ (heap_setCell_same _ (G + 1) 2 _ _ _ (heap_setCell_same _ (G + 1) 1 _ _ _ (heap_setCell_same _ (G + 1) 0 _ _ _ (hz3))))))
    have hf4 : Fr (fun b => b = G + 1) w3 W4 := by
      rw [← hW4]
      exact ((((((fr_set w3 (G + 1) 0 _).then (fr_set _ (G + 1) 1 _) fun k hk => Or.inl hk).then (fr_set _ (G + 1) 2 _) fun k hk => Or.inl hk).then (fr_set _ (G + 1) 3 _) fun k hk => Or.inl hk).then (fr_set _ (G + 1) 4 _) fun k hk => Or.inl hk).then (fr_set _ (G + 1) 5 _) fun k hk => Or.inl hk)
    have HY : Hid (COwn w.heap.size W4 ⟨x.a, x.b, x.wl, pu, cu, o, x.il, pv, cv, o'⟩ ∧ Below w.heap.size w W4 ∧ o.map Fx.fld = x.wo.map Fx.fld ∧ o'.map Fx.fld = x.io.map Fx.fld) := by
      have hVs := HVS.out
      have hc : COwn V.drew.heap.size w3 ⟨x.a, x.b, x.wl, pu, cu, o, x.il, pv, cv, o'⟩ := ⟨q1, q4, fit_same13 q2 HX.out.wfit, fit_same13 q5 HX.out.ifit, q6, copyX_same13 q2 HX.out.wcp, copyX_same13 q5 HX.out.icp⟩
      refine ⟨(hc.fr hf4 fun k hk hp => by have := (hc.blk k hk).1; omega).weak (by rw [HG.out]; omega), (HBL.out w3 hst.fr).trans (hf4.below (HBL.out w3 hst.fr).size fun k hk => by rw [HG.out]; omega), q2, q5⟩
    have d0 : w3.cell? ⟨G, 0, none⟩ = some (.string x.a) := by rw [Lib.cell_of_heap hbx]; rfl
    have d1 : w3.cell? ⟨G, 1, none⟩ = some (.string x.b) := by rw [Lib.cell_of_heap hbx]; rfl
    have d2 : w3.cell? ⟨G, 2, none⟩ = some (.bool x.wl) := by rw [Lib.cell_of_heap hbx]; rfl
    have d3 : w3.cell? ⟨G, 3, none⟩ = some (.slice pu o.length cu) := by rw [Lib.cell_of_heap hbx]; rfl
    have d4 : w3.cell? ⟨G, 4, none⟩ = some (.bool x.il) := by rw [Lib.cell_of_heap hbx]; rfl
    have d5 : w3.cell? ⟨G, 5, none⟩ = some (.slice pv o'.length cv) := by rw [Lib.cell_of_heap hbx]; rfl
    have k0 : w3.cell? ⟨G + 1, 0, none⟩ = some (.string ⟨#[]⟩) := by rw [Lib.cell_of_heap hz3]; rfl
    have k1 : w3.cell? ⟨G + 1, 1, none⟩ = some (.string ⟨#[]⟩) := by rw [Lib.cell_of_heap hz3]; rfl
    have k2 : w3.cell? ⟨G + 1, 2, none⟩ = some (.bool false) := by rw [Lib.cell_of_heap hz3]; rfl
    have k3 : w3.cell? ⟨G + 1, 3, none⟩ = some (.slice none 0 0) := by rw [Lib.cell_of_heap hz3]; rfl
    have k4 : w3.cell? ⟨G + 1, 4, none⟩ = some (.bool false) := by rw [Lib.cell_of_heap hz3]; rfl
    have k5 : w3.cell? ⟨G + 1, 5, none⟩ = some (.slice none 0 0) := by rw [Lib.cell_of_heap hz3]; rfl
    have r0 : w3.frozen? ⟨G + 1, 0, none⟩ = false := Lib.frozen_of_heap hz3 0
    have r1 : w3.frozen? ⟨G + 1, 1, none⟩ = false := Lib.frozen_of_heap hz3 1
    have r2 : w3.frozen? ⟨G + 1, 2, none⟩ = false := Lib.frozen_of_heap hz3 2
    have r3 : w3.frozen? ⟨G + 1, 3, none⟩ = false := Lib.frozen_of_heap hz3 3
    have r4 : w3.frozen? ⟨G + 1, 4, none⟩ = false := Lib.frozen_of_heap hz3 4
    have r5 : w3.frozen? ⟨G + 1, 5, none⟩ = false := Lib.frozen_of_heap hz3 5
    have HE : Hid (W4.cell? ⟨G + 1, 0, none⟩ = some (.string x.a) ∧ W4.cell? ⟨G + 1, 1, none⟩ = some (.string x.b) ∧ W4.cell? ⟨G + 1, 2, none⟩ = some (.bool x.wl) ∧ W4.cell? ⟨G + 1, 3, none⟩ = some (.slice pu o.length cu) ∧ W4.cell? ⟨G + 1, 4, none⟩ = some (.bool x.il) ∧ W4.cell? ⟨G + 1, 5, none⟩ = some (.slice pv o'.length cv)) := ⟨by rw [Lib.cell_of_heap hz4]; rfl, by rw [Lib.cell_of_heap hz4]; rfl, by rw [Lib.cell_of_heap hz4]; rfl, by rw [Lib.cell_of_heap hz4]; rfl, by rw [Lib.cell_of_heap hz4]; rfl, by rw [Lib.cell_of_heap hz4]; rfl⟩
    clear hst q1 q2 q3 q4 q5 q6 hbx hz3 hz4 hf4 HF1 HF2 HBX HZ
    simp only [putS, List.foldl_cons, List.foldl_nil, Act.put, List.setIfInBounds_toArray, List.set_cons_zero, List.set_cons_succ]
    go_wp2_with fail
    try rw [hW4]
    obtain ⟨g0, g1, g2, g3, g4, g5⟩ := HE.out
    refine bodyPost_ret (v := .agg #[.string x.a, .string x.b, .bool x.wl, .slice pu o.length cu, .bool x.il, .slice pv o'.length cv]) (by simp [results, Try.results50, go_sem, g0, g1, g2, g3, g4, g5]) rfl ⟨⟨x.a, x.b, x.wl, pu, cu, o, x.il, pv, cv, o'⟩, rfl, HY.out.1, ?_, HY.out.2.1⟩
    simp only [Cx.ch, HY.out.2.2.1, HY.out.2.2.2]

/-- Changes, copied. -/
theorem copyC_any (v : Value) (l : List Cx) (w : World) (hv : ChgIn w v l) (hl : l.length * 96 ≤ 140737488355328) :
    Calls Try.prog 49 #[v, .func (.func 50) #[] #[]] w fun e w' => EachPost KCx QC Cx.ch w (l.map Cx.ch) e w' :=
  eachC_any QC Cx.ch _ enters_ownC v l w hv.is hl fun W x hW hx => ownC_any x W ((hv.each x hx).on hW)

end Go.Proofs.Ytmihddbnddgfhaa

/-
  Package marks (stage 12): own, copied.
-/
namespace Go.Proofs.Ytmihddbnddgfhaa
open Go.RowKit

/-- What own leaves: the range, its terms in a row of their own. -/
def OwnPost (W : World) (r : Rx) (e : Ending) (w' : World) : Prop :=
  ∃ p c, e = .returned (.agg #[.string r.typ, .slice p r.tm.length c]) ∧ KM.Own W.heap.size w' (.slice p r.tm.length c) r.tm ∧ Below W.heap.size W w'

theorem infoRx12 : (Try.prog.info? 85).map (fun i => (i.zero, i.size, i.bytes)) = some (some (.agg #[.string ⟨#[]⟩, .slice none 0 0]), 2, 40) := by kernel_rfl

end Go.Proofs.Ytmihddbnddgfhaa

/-
  The contracts of holds and Match.
-/
namespace Go.Proofs.Ytmihddbnddgfhaa
open Go.RowKit Go.Lib

/-- A term in a block of its own. -/
def BoxM (w : World) (g : Nat) (x : Tm) : Prop := w.heap[g]? = some (.cells #[.string x.1, .int .i64 x.2.1, .string x.2.2] 87 (0, 0))
theorem BoxM.cells {w : World} {g : Nat} {x : Tm} (h : BoxM w g x) : w.cell? ⟨g, 0, none⟩ = some (.string x.1) ∧ w.cell? ⟨g, 1, none⟩ = some (.int .i64 x.2.1) ∧ w.cell? ⟨g, 2, none⟩ = some (.string x.2.2) := by
  rw [Lib.cell_of_heap h, Lib.cell_of_heap h, Lib.cell_of_heap h]
  exact ⟨rfl, rfl, rfl⟩
theorem BoxM.lt {w : World} {g : Nat} {x : Tm} (h : BoxM w g x) : g < w.heap.size := (Array.getElem?_eq_some_iff.1 h).1
theorem BoxM.on {w w' : World} {g : Nat} {x : Tm} (h : BoxM w g x) (hb : Below w.heap.size w w') : BoxM w' g x := (hb.block g h.lt).trans h
theorem boxM_new (w : World) (x : Tm) : BoxM (w.alloc (.cells #[.string x.1, .int .i64 x.2.1, .string x.2.2] 87)) w.heap.size x := heap_alloc_new w _

/-- What a term asks of a text. -/
def meetsT (x : Tm) (t : ByteArray) : Bool :=
  if x.2.1 = 1 ∨ x.2.1 = 2 then tokenB x.2.2 t else if x.2.1 = 3 then beginsB t x.2.2 else if x.2.1 = 4 then ltB t x.2.2 else if x.2.1 = 5 then ltB x.2.2 t else true

theorem begins_prefix (s t : ByteArray) : Lib.hasPrefix s.data.toList t.data.toList = beginsB s t := by
  unfold beginsB
  rw [toList_eq]
  by_cases h : t.size ≤ s.size
  · rw [decide_eq_true h, Bool.true_and]
    rw [Bool.eq_iff_iff, decide_eq_true_iff]
    have e : (s.extract 0 t.size).data.toList = s.data.toList.take t.size := by simp
    constructor
    · intro hp
      refine ba_eq ?_
      rw [e]
      have := List.prefix_iff_eq_take.1 (List.isPrefixOf_iff_prefix.1 hp)
      simpa using this.symm
    · intro he
      refine List.isPrefixOf_iff_prefix.2 ?_
      have : t.data.toList = s.data.toList.take t.size := by rw [← e, he]
      rw [this]
      exact List.take_prefix _ _
  · rw [decide_eq_false h, Bool.false_and, Bool.eq_false_iff]
    intro hp
    have := (List.isPrefixOf_iff_prefix.1 hp).length_le
    simp at this
    exact h this

/-- A text that a machine can hold. -/
def Bt : Type := { t : ByteArray // t.size ≤ maxLen }

theorem hasT_any (f : ByteArray → Bool) (k : Nat) (lb : Array Value) (ent : ∀ args w, (callFunc k args).run Try.prog w = .ok (.enter k args) w) (p : Option Addr) (cap : Nat) (ts : List ByteArray) (w : World) (h : TxtAt w p ts) (hf : FitT ts)
    (hk : ∀ (W : World) (t : ByteArray), Below w.heap.size w W → t.size ≤ maxLen → Calls Try.prog k (#[.string t] ++ lb) W fun e w' => e = .returned (.bool (f t)) ∧ ∃ q, w' = W.drewN q) :
    Calls Try.prog 84 #[.slice p ts.length cap, .func (.func k) #[] lb] w fun e w' => e = .returned (.bool (ts.any f)) ∧ ∃ q, w' = w.drewN q := by
  rcases h with rfl | ⟨b, off, rfl, hc⟩
  · refine (Try.slices_ContainsFunc_empty (α := ByteArray) p cap _ w).mono ?_
    rintro e w' ⟨rfl, rfl⟩
    exact ⟨rfl, 0, rfl⟩
  · have hl := hf.1
    unfold maxLen at hl
    obtain ⟨zs, hzs⟩ : ∃ zs : List Bt, zs.map (·.1) = ts := ⟨ts.attachWith _ hf.2, List.attachWith_map_subtype_val ..⟩
    have hzl : zs.length = ts.length := by rw [← hzs, List.length_map]
    letI : Inhabited Bt := ⟨⟨⟨#[]⟩, Nat.zero_le _⟩⟩
    refine (Try.slices_ContainsFunc (fun t : Bt => Value.string t.1) (fun t => f t.1) k lb ent b off ts.length cap zs w (fun W x hb => hk W x.1 hb x.2) (by omega) (by omega) ?_).mono ?_
    · intro j hj
      rw [getElem!_pos zs j hj]
      have e : (zs[j]).1 = ts[j]'(by omega) := by subst hzs; simp
      rw [e]
      exact hc j (by omega)
    · rintro e w' ⟨rfl, hq⟩
      refine ⟨ret_bool ?_, hq⟩
      rw [List.take_of_length_le (by omega), ← hzs]
      simp [List.any_map, Function.comp_def]

theorem enters_h1 : ∀ args w, (callFunc 77 args).run Try.prog w = .ok (.enter 77 args) w := enters_of Try.func77 (by kernel_rfl) rfl
theorem enters_h2 : ∀ args w, (callFunc 79 args).run Try.prog w = .ok (.enter 79 args) w := enters_of Try.func79 (by kernel_rfl) rfl
theorem enters_h3 : ∀ args w, (callFunc 81 args).run Try.prog w = .ok (.enter 81 args) w := enters_of Try.func81 (by kernel_rfl) rfl
theorem enters_h4 : ∀ args w, (callFunc 82 args).run Try.prog w = .ok (.enter 82 args) w := enters_of Try.func82 (by kernel_rfl) rfl
theorem enters_h5 : ∀ args w, (callFunc 83 args).run Try.prog w = .ok (.enter 83 args) w := enters_of Try.func83 (by kernel_rfl) rfl

set_option maxHeartbeats 1000000 in
theorem h1_any (g : Nat) (x : Tm) (t : ByteArray) (W : World) (hb : BoxM W g x) (hx : x.2.2.size ≤ maxLen) (ht : t.size ≤ maxLen) :
    Calls Try.prog 77 #[.string t, .pointer (some ⟨g, 0, none⟩)] W fun e w' => e = .returned (.bool (tokenB x.2.2 t)) ∧ ∃ q, w' = W.drewN q := by
  obtain ⟨_, _, c2⟩ := hb.cells
  have HX := hid hx
  have HT := hid ht
  clear hb hx ht
  go_enter Try.func77, Try.ntmps77
  go_wp2_with (go_at_call 78; refine (Token_any _ _ _ HX.out HT.out).mono ?_; rintro e w1 ⟨rfl, n, rfl⟩)
  go_ret
  exact ⟨rfl, n, rfl⟩

set_option maxHeartbeats 1000000 in
theorem h2_any (g : Nat) (x : Tm) (t : ByteArray) (W : World) (hb : BoxM W g x) :
    Calls Try.prog 79 #[.string t, .pointer (some ⟨g, 0, none⟩)] W fun e w' => e = .returned (.bool (beginsB t x.2.2)) ∧ ∃ q, w' = W.drewN q := by
  obtain ⟨_, _, c2⟩ := hb.cells
  have HE := hid (begins_prefix t x.2.2)
  clear hb
  go_enter Try.func79, Try.ntmps79
  go_wp2_with (go_at_call 80; refine (Try.strings_HasPrefix _ _ _).mono ?_; rintro e w1 ⟨rfl, rfl⟩)
  go_ret
  exact ⟨ret_bool HE.out, 0, rfl⟩

set_option maxHeartbeats 1000000 in
theorem h3_any (g : Nat) (x : Tm) (t : ByteArray) (W : World) (hb : BoxM W g x) :
    Calls Try.prog 81 #[.string t, .pointer (some ⟨g, 0, none⟩)] W fun e w' => e = .returned (.bool (ltB t x.2.2)) ∧ ∃ q, w' = W.drewN q := by
  obtain ⟨_, _, c2⟩ := hb.cells
  have HE := hid (sless_of (rfl : ltB t x.2.2 = _))
  clear hb
  go_enter Try.func81, Try.ntmps81
  go_wp2_with fail
  go_ret
  exact ⟨ret_bool HE.out, 0, rfl⟩

set_option maxHeartbeats 1000000 in
theorem h4_any (g : Nat) (x : Tm) (t : ByteArray) (W : World) (hb : BoxM W g x) :
    Calls Try.prog 82 #[.string t, .pointer (some ⟨g, 0, none⟩)] W fun e w' => e = .returned (.bool (ltB x.2.2 t)) ∧ ∃ q, w' = W.drewN q := by
  obtain ⟨_, _, c2⟩ := hb.cells
  have HE := hid (gtr_of t x.2.2)
  have HL := hid (sless_of (rfl : ltB t x.2.2 = _))
  clear hb
  go_enter Try.func82, Try.ntmps82
  go_wp2_with fail
  go_ret
  refine ⟨ret_bool ?_, 0, rfl⟩
  rw [← HE.out, HL.out]

set_option maxHeartbeats 1000000 in
theorem h5_any (t : ByteArray) (W : World) :
    Calls Try.prog 83 #[.string t] W fun e w' => e = .returned (.bool true) ∧ ∃ q, w' = W.drewN q := by
  go_enter Try.func83, Try.ntmps83
  go_wp2_with fail
  go_ret
  exact ⟨rfl, 0, rfl⟩

theorem any_true (ts : List ByteArray) : ts.any (fun _ => true) = decide (0 < ts.length) := by
  cases ts <;> simp

set_option maxHeartbeats 4000000 in
set_option maxRecDepth 100000 in
theorem pholds_any (x : Tm) (p : Option Addr) (cap : Nat) (ts : List ByteArray) (w : World) (h : TxtAt w p ts) (hf : FitT ts) (hx : x.2.2.size ≤ maxLen) :
    Calls Try.prog 74 #[.agg #[.string x.1, .int .i64 x.2.1, .string x.2.2], .slice p ts.length cap] w fun e w' => e = .returned (.bool (holdsT x ts)) ∧ Grown w w' := by
  obtain ⟨W, hW⟩ : ∃ W, w.alloc (.cells #[.string x.1, .int .i64 x.2.1, .string x.2.2] 87) = W := ⟨_, rfl⟩
  have hbw : Below w.heap.size w W := by rw [← hW]; exact (Below.refl _ _).alloc (Nat.le_refl _) _
  have HG : Hid (Grown w W) := by rw [← hW]; exact (Grown.refl _).alloc _
  have hbox : BoxM W w.heap.size x := by rw [← hW]; exact boxM_new w x
  have hmf : ∀ (fn : Fn) (first cap : Array Value) (w : World), (Instr.makeFunc fn first cap).run Try.prog w = .ok (.func fn first cap) w := fun _ _ _ _ => rfl
  have H1 := hid (hasT_any (tokenB x.2.2) 77 #[.pointer (some ⟨w.heap.size, 0, none⟩)] enters_h1 p cap ts W (h.kept hbw) hf (fun V t hb ht => h1_any w.heap.size x t V (hbox.on hb) hx ht))
  have H2 := hid (hasT_any (fun t => beginsB t x.2.2) 79 #[.pointer (some ⟨w.heap.size, 0, none⟩)] enters_h2 p cap ts W (h.kept hbw) hf (fun V t hb ht => h2_any w.heap.size x t V (hbox.on hb)))
  have H3 := hid (hasT_any (fun t => ltB t x.2.2) 81 #[.pointer (some ⟨w.heap.size, 0, none⟩)] enters_h3 p cap ts W (h.kept hbw) hf (fun V t hb ht => h3_any w.heap.size x t V (hbox.on hb)))
  have H4 := hid (hasT_any (fun t => ltB x.2.2 t) 82 #[.pointer (some ⟨w.heap.size, 0, none⟩)] enters_h4 p cap ts W (h.kept hbw) hf (fun V t hb ht => h4_any w.heap.size x t V (hbox.on hb)))
  have H5 := hid (hasT_any (fun _ => true) 83 #[] enters_h5 p cap ts W (h.kept hbw) hf (fun V t hb ht => h5_any t V))
  obtain ⟨c0, c1, c2⟩ := hbox.cells
  obtain ⟨r, hr⟩ : ∃ r, holdsT x ts = r := ⟨_, rfl⟩
  rw [hr]
  have HR := hid hr
  obtain ⟨xf, xo, xt⟩ := x
  simp only at hW c0 c1 c2 H1 H2 H3 H4
  unfold holdsT at HR
  simp only at HR
  rw [any_true] at H5
  obtain ⟨B1, hB1⟩ : ∃ B, ts.any (tokenB xt) = B := ⟨_, rfl⟩
  rw [hB1] at H1 HR
  obtain ⟨B2, hB2⟩ : ∃ B, ts.any (fun t => beginsB t xt) = B := ⟨_, rfl⟩
  rw [hB2] at H2 HR
  obtain ⟨B3, hB3⟩ : ∃ B, ts.any (fun t => ltB t xt) = B := ⟨_, rfl⟩
  rw [hB3] at H3 HR
  obtain ⟨B4, hB4⟩ : ∃ B, ts.any (fun t => ltB xt t) = B := ⟨_, rfl⟩
  rw [hB4] at H4 HR
  have e7 : decide (ts.length = 0) = !decide (0 < ts.length) := by cases ts <;> simp
  rw [e7] at HR
  obtain ⟨B5, hB5⟩ : ∃ B, decide (0 < ts.length) = B := ⟨_, rfl⟩
  rw [hB5] at H5 HR
  clear hr h hf hx hbox hbw hB1 hB2 hB3 hB4 hB5 e7
  by_cases hr7 : 1 ≤ xo ∧ xo ≤ 7
  · rcases (show xo = 1 ∨ xo = 2 ∨ xo = 3 ∨ xo = 4 ∨ xo = 5 ∨ xo = 6 ∨ xo = 7 by omega) with rfl | rfl | rfl | rfl | rfl | rfl | rfl
    · have HV : Hid (B1 = r) := by have := HR.out; show B1 = r; simpa using this
      go_enter Try.func74, Try.ntmps74
      go_wp2_with (go_at_call 84; refine H1.out.mono ?_; rintro e w1 ⟨rfl, n, rfl⟩)
      go_ret
      refine ⟨ret_bool ?_, HG.out.drewN n⟩
      rw [← HV.out]
    · have HV : Hid ((!B1) = r) := by have := HR.out; show (!B1) = r; simpa using this
      go_enter Try.func74, Try.ntmps74
      go_wp2_with (go_at_call 84; refine H1.out.mono ?_; rintro e w1 ⟨rfl, n, rfl⟩)
      go_ret
      refine ⟨ret_bool ?_, HG.out.drewN n⟩
      rw [← HV.out]
    · have HV : Hid (B2 = r) := by have := HR.out; show B2 = r; simpa using this
      go_enter Try.func74, Try.ntmps74
      go_wp2_with (go_at_call 84; refine H2.out.mono ?_; rintro e w1 ⟨rfl, n, rfl⟩)
      go_ret
      refine ⟨ret_bool ?_, HG.out.drewN n⟩
      rw [← HV.out]
    · have HV : Hid (B3 = r) := by have := HR.out; show B3 = r; simpa using this
      go_enter Try.func74, Try.ntmps74
      go_wp2_with (go_at_call 84; refine H3.out.mono ?_; rintro e w1 ⟨rfl, n, rfl⟩)
      go_ret
      refine ⟨ret_bool ?_, HG.out.drewN n⟩
      rw [← HV.out]
    · have HV : Hid (B4 = r) := by have := HR.out; show B4 = r; simpa using this
      go_enter Try.func74, Try.ntmps74
      go_wp2_with (go_at_call 84; refine H4.out.mono ?_; rintro e w1 ⟨rfl, n, rfl⟩)
      go_ret
      refine ⟨ret_bool ?_, HG.out.drewN n⟩
      rw [← HV.out]
    · have HV : Hid (B5 = r) := by have := HR.out; show B5 = r; simpa using this
      go_enter Try.func74, Try.ntmps74
      go_wp2_with (go_at_call 84; refine H5.out.mono ?_; rintro e w1 ⟨rfl, n, rfl⟩)
      go_ret
      refine ⟨ret_bool ?_, HG.out.drewN n⟩
      rw [← HV.out]
    · have HV : Hid ((!B5) = r) := by have := HR.out; show (!B5) = r; simpa using this
      go_enter Try.func74, Try.ntmps74
      go_wp2_with (go_at_call 84; refine H5.out.mono ?_; rintro e w1 ⟨rfl, n, rfl⟩)
      go_ret
      refine ⟨ret_bool ?_, HG.out.drewN n⟩
      rw [← HV.out]
  · have HV : Hid (false = r) := by
      have := HR.out
      rw [if_neg (by omega), if_neg (by omega), if_neg (by omega), if_neg (by omega), if_neg (by omega), if_neg (by omega), if_neg (by omega)] at this
      exact this
    have n1 : (xo == 1) = false := by simp; omega
    have n2 : (xo == 2) = false := by simp; omega
    have n3 : (xo == 3) = false := by simp; omega
    have n4 : (xo == 4) = false := by simp; omega
    have n5 : (xo == 5) = false := by simp; omega
    have n6 : (xo == 6) = false := by simp; omega
    have n7 : (xo == 7) = false := by simp; omega
    clear hr7
    go_enter Try.func74, Try.ntmps74
    go_wp2_with fail
    go_ret
    exact ⟨ret_bool HV.out, HG.out⟩

set_option maxHeartbeats 8000000 in
set_option maxRecDepth 100000 in
theorem pmatch_any (u v : Value) (p : List Tm) (d : List Fx) (w : World) (hu : KM.Is w u p) (hp : FitM p) (hv : IsXs w v d) (hf : FitX d) (h16 : ∀ x ∈ d, x.txt.length * 16 ≤ 140737488355328) :
    Calls Try.prog 72 #[u, v] w fun e w' => e = .returned (.bool (matchM p (d.map Fx.fld))) ∧ Below w.heap.size w w' := by
  obtain ⟨q, cap, rfl, hd⟩ := hu
  have hl := hp.1
  unfold maxLen at hl
  have HD := hid hd
  have HV := hid hv
  have HF := hid hf
  have HP := hid hp
  have H16 := hid h16
  obtain ⟨r, hr⟩ : ∃ r, matchM p (d.map Fx.fld) = r := ⟨_, rfl⟩
  rw [hr]
  have HR := hid hr
  clear hd hv hf hp h16 hr
  go_enter Try.func72, Try.ntmps72
  go_wp2_with fail
  go_loopg [9] p.length (fun g vi wr => ∃ i : Nat, vi = .int .i64 i ∧ i ≤ p.length ∧ p.length - i ≤ g ∧ Below w.heap.size w wr ∧ Hid (∀ j (h : j < p.length), j < i → holdsM p[j] (d.map Fx.fld) = true))
  case atStart => exact ⟨0, rfl, by omega, by omega, Below.refl _ _, fun j _ h => by omega⟩
  case round =>
    obtain ⟨i, rfl, hi, hg, hb, HJ⟩ := hrel
    by_cases hlt : i < p.length
    · have hltz : (i : Int) < (p.length : Int) := by omega
      have hiz : (0 : Int) ≤ i := by omega
      obtain ⟨b, off, rfl, hat⟩ : ∃ b off, q = some ⟨b, off, none⟩ ∧ KM.At w b off p := by
        rcases HD.out with h | h
        · rw [h] at hlt; simp at hlt
        · exact h
      obtain ⟨c0, c1, c2⟩ := km_cells (Kind.at_kept hat hb) i hlt
      have hfx := HP.out.2 _ (List.getElem_mem hlt)
      have hno : holdsM p[i] (d.map Fx.fld) = false → r = false := fun h => by
        rw [← HR.out]
        unfold matchM
        rw [List.all_eq_false]
        exact ⟨_, List.getElem_mem hlt, by rw [h]; simp⟩
      have hyes : holdsM p[i] (d.map Fx.fld) = true → ∀ j (h : j < p.length), j < i + 1 → holdsM p[j] (d.map Fx.fld) = true := fun e j h hj => by
        by_cases ej : j = i
        · subst ej; exact e
        · exact HJ.out j h (by omega)
      obtain ⟨x, hx⟩ : ∃ x, p[i] = x := ⟨_, rfl⟩
      rw [hx] at c0 c1 c2 hfx hno hyes
      have HNO := hid hno
      have HYES := hid hyes
      have HB := hid hb
      have hsz := hb.size
      obtain ⟨xf, xo, xt⟩ := x
      simp only at c0 c1 c2 hfx
      clear hat hx hno hyes hb
      go_wp2_with fail
      obtain ⟨F, hF⟩ : ∃ F, wr.heap.size = F := ⟨_, rfl⟩
      obtain ⟨W, hW⟩ : ∃ W, wr.alloc (.cells #[.string xf, .int .i64 xo, .string xt] 87) = W := ⟨_, rfl⟩
      have hbox : BoxM W F (xf, xo, xt) := by rw [← hW, ← hF]; exact boxM_new wr (xf, xo, xt)
      have hbW : Below w.heap.size w W := by rw [← hW]; exact HB.out.alloc hsz _
      have HBW := hid hbW
      have HT := hid (texts_any v xf d W.drew (HV.out.kept hbW.drew) HF.out H16.out)
      have hFl : F < W.heap.size := hbox.lt
      have q0 : W.drew.cell? ⟨F, 0, none⟩ = some (.string xf) ∧ W.drew.cell? ⟨F, 1, none⟩ = some (.int .i64 xo) ∧ W.drew.cell? ⟨F, 2, none⟩ = some (.string xt) := hbox.cells
      have KS : Hid (∀ w' : World, Below W.drew.heap.size W.drew w' → w'.cell? ⟨F, 0, none⟩ = some (.string xf) ∧ w'.cell? ⟨F, 1, none⟩ = some (.int .i64 xo) ∧ w'.cell? ⟨F, 2, none⟩ = some (.string xt)) := fun w' h => (BoxM.on (w := W.drew) hbox h).cells
      have HTF : Hid (FitT (textsOf (d.map Fx.fld) xf)) := by
        show FitT _
        unfold textsOf
        cases hfd : (d.map Fx.fld).find? (fun f => decide (f.1 = xf)) with
        | none => exact ⟨Nat.zero_le _, fun t ht => by simp at ht⟩
        | some f =>
          obtain ⟨y, hy, rfl⟩ := List.mem_map.1 (List.mem_of_find?_eq_some hfd)
          exact (HF.out.2 y hy).2
      obtain ⟨ts, hts⟩ : ∃ ts, textsOf (d.map Fx.fld) xf = ts := ⟨_, rfl⟩
      rw [hts] at HT HTF
      have HXT : Hid (holdsM (xf, xo, xt) (d.map Fx.fld) = holdsT (xf, xo, xt) ts) := by show _ = _; unfold holdsM; rw [hts]
      clear hts hbox hbW
      rw [hF, hW]
      clear hF hW
      cases hB : holdsT (xf, xo, xt) ts with
      | true =>
        have HX : Hid (holdsM (xf, xo, xt) (d.map Fx.fld) = true) := by show _ = _; rw [HXT.out, hB]
        have HHD : Hid (∀ (W5 : World) p5 c5, TxtAt W5 p5 ts → Calls Try.prog 74 #[.agg #[.string xf, .int .i64 xo, .string xt], .slice p5 ts.length c5] W5 fun e w' => e = .returned (.bool true) ∧ Grown W5 w') := fun W5 p5 c5 h => by
          have := pholds_any (xf, xo, xt) p5 c5 ts W5 h HTF.out hfx.2.1
          rwa [hB] at this
        clear hB
        go_region_held3 (fun w' => w'.cell? ⟨F, 0, none⟩ = some (.string xf) ∧ w'.cell? ⟨F, 1, none⟩ = some (.int .i64 xo) ∧ w'.cell? ⟨F, 2, none⟩ = some (.string xt))
          (first | exact q0 | exact q5 | exact q6)
          (first
            | (go_at_call 75; refine HT.out.mono ?_; rintro e w5 ⟨⟨sv, rfl, hot5⟩, hb5⟩; obtain ⟨pc, capc, rfl⟩ := own_slice hot5; have q5 := KS.out w5 hb5; have htx5 := OwnT.txtAt hot5)
            | (go_at_call 74; refine (HHD.out _ _ _ htx5).mono ?_; rintro e w6 ⟨rfl, hg6⟩; have q6 := KS.out w6 (hb5.trans (hg6.below.mono hb5.size))))
        have hb6 : Below w.heap.size w w6 := (HBW.out.drew.trans (hb5.mono (by simpa using HBW.out.size))).trans (hg6.below.mono (Nat.le_trans (by simpa using HBW.out.size) hb5.size))
        have HB6 := hid hb6
        clear hb6 hg6 hb5 hot5 htx5 q5 q6 q0
        go_wp2_with fail
        go_roundg (p.length - (i + 1))
        case measure => omega
        exact ⟨i + 1, by go_num, by omega, by omega, HB6.out, HYES.out HX.out⟩
      | false =>
        have HX : Hid (holdsM (xf, xo, xt) (d.map Fx.fld) = false) := by show _ = _; rw [HXT.out, hB]
        have HHD : Hid (∀ (W5 : World) p5 c5, TxtAt W5 p5 ts → Calls Try.prog 74 #[.agg #[.string xf, .int .i64 xo, .string xt], .slice p5 ts.length c5] W5 fun e w' => e = .returned (.bool false) ∧ Grown W5 w') := fun W5 p5 c5 h => by
          have := pholds_any (xf, xo, xt) p5 c5 ts W5 h HTF.out hfx.2.1
          rwa [hB] at this
        clear hB
        go_region_held3 (fun w' => w'.cell? ⟨F, 0, none⟩ = some (.string xf) ∧ w'.cell? ⟨F, 1, none⟩ = some (.int .i64 xo) ∧ w'.cell? ⟨F, 2, none⟩ = some (.string xt))
          (first | exact q0 | exact q5 | exact q6)
          (first
            | (go_at_call 75; refine HT.out.mono ?_; rintro e w5 ⟨⟨sv, rfl, hot5⟩, hb5⟩; obtain ⟨pc, capc, rfl⟩ := own_slice hot5; have q5 := KS.out w5 hb5; have htx5 := OwnT.txtAt hot5)
            | (go_at_call 74; refine (HHD.out _ _ _ htx5).mono ?_; rintro e w6 ⟨rfl, hg6⟩; have q6 := KS.out w6 (hb5.trans (hg6.below.mono hb5.size))))
        have hb6 : Below w.heap.size w w6 := (HBW.out.drew.trans (hb5.mono (by simpa using HBW.out.size))).trans (hg6.below.mono (Nat.le_trans (by simpa using HBW.out.size) hb5.size))
        have HB6 := hid hb6
        clear hb6 hg6 hb5 hot5 htx5 q5 q6 q0
        go_wp2_with fail
        go_ret
        exact ⟨ret_bool (HNO.out HX.out).symm, HB6.out⟩
    · have hltz : ¬ (i : Int) < (p.length : Int) := by omega
      have H0 : Hid (r = true) := by
        show _ = _
        rw [← HR.out]
        unfold matchM
        rw [List.all_eq_true]
        intro x hx
        obtain ⟨j, hj, rfl⟩ := List.mem_iff_getElem.1 hx
        exact HJ.out j hj (by omega)
      go_wp2_with fail
      go_ret
      exact ⟨ret_bool H0.out.symm, hb⟩

end Go.Proofs.Ytmihddbnddgfhaa

/-
  Package marks (stage 12): same, has, Touches; slices.ContainsFunc at ranges and at changes.
-/
namespace Go.Proofs.Ytmihddbnddgfhaa
open Go.RowKit

set_option maxHeartbeats 4000000 in
set_option maxRecDepth 100000 in
theorem mtouches12_any (r : Rx) (c : Cx) (w : World) (hr : r.at w) (hc : CIn w c) :
    Calls Try.prog 67 #[.agg (encRx r).toArray, .agg (encCx c).toArray] w fun e w' => e = .returned (.bool (touchesM r.rg c.ch)) ∧ Below w.heap.size w w' := by
  obtain ⟨hbV, h1, h2, hs⟩ := two_boxes w (encRx r).toArray (encCx c).toArray 85 70
  obtain ⟨V, hV⟩ : ∃ V, (w.alloc (.cells (encRx r).toArray 85)).alloc (.cells (encCx c).toArray 70) = V := ⟨_, rfl⟩
  obtain ⟨M, hM⟩ : ∃ M, w.heap.size = M := ⟨_, rfl⟩
  rw [hV] at hbV h1 h2 hs
  rw [hM] at h1 h2 hs
  have HMT : Hid (∀ W', Below V.heap.size V W' → (Calls Try.prog 72 #[r.sl, .slice c.wp c.wo.length c.wc] W' fun e w' => e = .returned (.bool (matchM r.tm (c.wo.map Fx.fld))) ∧ Below W'.heap.size W' w') ∧ (Calls Try.prog 72 #[r.sl, .slice c.ip c.io.length c.ic] W' fun e w' => e = .returned (.bool (matchM r.tm (c.io.map Fx.fld))) ∧ Below W'.heap.size W' w')) := fun W' hW => by
    have hb : Below w.heap.size w W' := bel_then hbV hbV.size hW
    have hr' := hr.on hb
    have hc' := hc.on hb
    exact ⟨pmatch_any _ _ r.tm c.wo W' hr'.1 hr'.2.1 hc'.was hc'.wfit hc'.wcp.2, pmatch_any _ _ r.tm c.io W' hr'.1 hr'.2.1 hc'.is hc'.ifit hc'.icp.2⟩
  have HB := hid hbV
  have HBX : Hid (∀ W' : World, Below V.heap.size V W' → (W'.cell? ⟨M, 0, none⟩ = some (.string r.typ) ∧ W'.cell? ⟨M, 1, none⟩ = some r.sl) ∧ W'.cell? ⟨M + 1, 0, none⟩ = some (.string c.a) ∧ W'.cell? ⟨M + 1, 1, none⟩ = some (.string c.b) ∧ W'.cell? ⟨M + 1, 2, none⟩ = some (.bool c.wl) ∧ W'.cell? ⟨M + 1, 3, none⟩ = some (.slice c.wp c.wo.length c.wc) ∧ W'.cell? ⟨M + 1, 4, none⟩ = some (.bool c.il) ∧ W'.cell? ⟨M + 1, 5, none⟩ = some (.slice c.ip c.io.length c.ic)) := fun W' hW => by
    have e1 := (hW.block M (by omega)).trans h1
    have e2 := (hW.block (M + 1) (by omega)).trans h2
    exact ⟨⟨by rw [Lib.cell_of_heap e1]; rfl, by rw [Lib.cell_of_heap e1]; rfl⟩, by rw [Lib.cell_of_heap e2]; rfl, by rw [Lib.cell_of_heap e2]; rfl, by rw [Lib.cell_of_heap e2]; rfl, by rw [Lib.cell_of_heap e2]; rfl, by rw [Lib.cell_of_heap e2]; rfl, by rw [Lib.cell_of_heap e2]; rfl⟩
  clear hr hc hbV h1 h2 hs
  obtain ⟨rt, rp, rc, rm⟩ := r
  obtain ⟨ca, cb, wl, wp, wc, wo, il, ip, ic, io⟩ := c
  have HTV : Hid (∀ R1 R2, matchM rm (wo.map Fx.fld) = R1 → matchM rm (io.map Fx.fld) = R2 → touchesM (⟨rt, rp, rc, rm⟩ : Rx).rg (⟨ca, cb, wl, wp, wc, wo, il, ip, ic, io⟩ : Cx).ch = (decide (rt = ca) && ((wl && R1) || (il && R2)))) := by rintro _ _ rfl rfl; rfl
  generalize touchesM (⟨rt, rp, rc, rm⟩ : Rx).rg (⟨ca, cb, wl, wp, wc, wo, il, ip, ic, io⟩ : Cx).ch = TT at *
  simp only [encRx, encCx, Rx.sl] at *
  obtain ⟨⟨a0, a1⟩, b0, b1, b2, b3, b4, b5⟩ := HBX.out V (Below.refl _ _)
  go_enter Try.func67, Try.ntmps67
  by_cases ht : rt = ca
  · have q1 : (rt.toList == ca.toList) = true := seq_true ht
    have q2 : (ca.toList == rt.toList) = true := seq_true ht.symm
    obtain ⟨R1, hR1⟩ : ∃ R1, matchM rm (wo.map Fx.fld) = R1 := ⟨_, rfl⟩
    obtain ⟨R2, hR2⟩ : ∃ R2, matchM rm (io.map Fx.fld) = R2 := ⟨_, rfl⟩
    have HT := hid (HTV.out R1 R2 hR1 hR2)
    rw [decide_eq_true ht] at HT
    rw [hR1, hR2] at HMT
    clear ht hR1 hR2 HTV
    obtain ⟨HM1, HM2⟩ := HMT.out V (Below.refl _ _)
    have H1 := hid HM1
    have H2 := hid HM2
    have HM3 : Hid (∀ W', Below V.heap.size V W' → Calls Try.prog 72 #[.slice rp rm.length rc, .slice ip io.length ic] W' fun e w' => e = .returned (.bool R2) ∧ Below W'.heap.size W' w') := fun W' hW => (HMT.out W' hW).2
    clear HM1 HM2 HMT
    cases wl with
    | true =>
      go_wp2_with fail
      try rw [hV]
      refine H1.out.mono ?_
      rintro e w1 ⟨rfl, hb1⟩
      have HB1 := hid (bel_then HB.out HB.out.size hb1)
      have H3 := hid (HM3.out w1 hb1)
      obtain ⟨⟨a0, a1⟩, b0, b1, b2, b3, b4, b5⟩ := HBX.out w1 hb1
      clear hb1 H1 H2 HM3
      cases R1 with
      | true =>
        go_wp2_with fail
        go_ret
        exact ⟨ret_bool HT.out.symm, HB1.out⟩
      | false =>
        cases il with
        | true =>
          go_wp2_with fail
          refine H3.out.mono ?_
          rintro e w2 ⟨rfl, hb2⟩
          have HB2 := hid (bel_then HB1.out HB1.out.size hb2)
          clear hb2 H3
          go_wp2_with fail
          go_ret
          exact ⟨ret_bool (by rw [HT.out]; cases R2 <;> rfl), HB2.out⟩
        | false =>
          go_wp2_with fail
          go_ret
          exact ⟨ret_bool HT.out.symm, HB1.out⟩
    | false =>
      cases il with
      | true =>
        go_wp2_with fail
        try rw [hV]
        refine H2.out.mono ?_
        rintro e w2 ⟨rfl, hb2⟩
        have HB2 := hid (bel_then HB.out HB.out.size hb2)
        clear hb2 H1 H2 HM3
        go_wp2_with fail
        go_ret
        exact ⟨ret_bool (by rw [HT.out]; cases R2 <;> rfl), HB2.out⟩
      | false =>
        go_wp2_with fail
        try rw [hV]
        go_ret
        exact ⟨ret_bool HT.out.symm, HB.out⟩
  · have q1 : (rt.toList == ca.toList) = false := seq_false ht
    have q2 : (ca.toList == rt.toList) = false := seq_false (Ne.symm ht)
    have HT := hid (HTV.out _ _ rfl rfl)
    rw [decide_eq_false ht] at HT
    clear ht HTV
    go_wp2_with fail
    try rw [hV]
    go_ret
    exact ⟨ret_bool HT.out.symm, HB.out⟩


set_option maxHeartbeats 4000000 in
set_option maxRecDepth 100000 in
theorem idxRange_any (f : Rx → Bool) (k : Nat) (lb : Array Value) (eg : ∀ args w, (callFunc k args).run Try.prog w = .ok (.enter k args) w) (v : Value) (l : List Rx) (w : World) (hv : KRx.Is w v l) (hl : l.length ≤ 9000000000000000000)
    (hk : ∀ (W : World) (x : Rx), Below w.heap.size w W → x ∈ l → Calls Try.prog k (#[.agg (encRx x).toArray] ++ lb) W fun e w' => e = .returned (.bool (f x)) ∧ Below W.heap.size W w') :
    Calls Try.prog 71 #[v, .func (.func k) #[] lb] w fun e w' => (∃ n : Int, e = .returned (.int .i64 n) ∧ decide (n ≥ 0) = l.any f) ∧ Below w.heap.size w w' := by
  obtain ⟨p, cap, rfl, hd⟩ := hv
  have HD := hid hd
  have HK := hid hk
  clear hd hk
  go_enter Try.func71, Try.ntmps71
  go_wp2_with fail
  go_loopg [8] l.length (fun gg vi wr => ∃ i : Nat, vi = .int .i64 i ∧ i ≤ l.length ∧ l.length - i ≤ gg ∧ Hid (Below w.heap.size w wr ∧ ∀ x ∈ l.take i, f x = false))
  case atStart => exact ⟨0, rfl, by omega, by omega, Below.refl _ _, fun x hx => by simp at hx⟩
  case round =>
    obtain ⟨i, rfl, hi, hgk, HI⟩ := hrel
    by_cases hlt : i < l.length
    · have hltz : (i : Int) < (l.length : Int) := by omega
      have hiz : (0 : Int) ≤ i := by omega
      obtain ⟨b1, o1, rfl, k1⟩ : ∃ b off, p = some ⟨b, off, none⟩ ∧ KRx.At w b off l := by
        rcases HD.out with h | h
        · rw [h] at hlt; simp at hlt
        · exact h
      obtain ⟨y0, y1⟩ := krx_at (Kind.at_kept k1 HI.out.1) i hlt
      have hmem : l[i] ∈ l := List.getElem_mem hlt
      have htk : l.take (i + 1) = l.take i ++ [l[i]] := List.take_succ_eq_append_getElem hlt
      have HC := hid (HK.out wr l[i] HI.out.1 hmem)
      have HNO : Hid (f l[i] = false → ∀ x ∈ l.take (i + 1), f x = false) := fun h x hx => by
        rw [htk] at hx
        rcases List.mem_append.1 hx with hx | hx
        · exact HI.out.2 x hx
        · rw [List.mem_singleton.1 hx]; exact h
      have HYES : Hid (f l[i] = true → l.any f = true) := fun h => List.any_eq_true.2 ⟨_, hmem, h⟩
      have HB := hid HI.out.1
      clear HI k1 hmem htk
      generalize l[i] = x at *
      cases hq : f x with
      | true =>
        rw [hq] at HC
        have HY := hid (HYES.out hq)
        clear HNO HYES hq
        simp only [encRx, Rx.sl] at *
        go_wp2_with (go_at_fn k; refine HC.out.mono ?_; rintro e w1 ⟨rfl, hb1⟩)
        go_ret
        exact ⟨⟨i, rfl, by rw [HY.out]; exact decide_eq_true hiz⟩, bel_then HB.out HB.out.size hb1⟩
      | false =>
        rw [hq] at HC
        have HN := hid (HNO.out hq)
        clear HNO HYES hq
        simp only [encRx, Rx.sl] at *
        go_wp2_with (go_at_fn k; refine HC.out.mono ?_; rintro e w1 ⟨rfl, hb1⟩)
        have HB1 := hid (bel_then HB.out HB.out.size hb1)
        clear hb1
        go_roundg (l.length - (i + 1))
        case measure => omega
        exact ⟨i + 1, by go_num, by omega, by omega, HB1.out, HN.out⟩
    · have hltz : ¬ (i : Int) < (l.length : Int) := by omega
      have hti : l.take i = l := List.take_of_length_le (by omega)
      rw [hti] at HI
      go_wp2_with fail
      go_ret
      refine ⟨⟨-1, rfl, ?_⟩, HI.out.1⟩
      have : l.any f = false := by
        rw [List.any_eq_false]
        exact fun x hx => by rw [HI.out.2 x hx]; simp
      rw [this]
      decide

set_option maxHeartbeats 2000000 in
theorem hasRange_any (f : Rx → Bool) (k : Nat) (lb : Array Value) (eg : ∀ args w, (callFunc k args).run Try.prog w = .ok (.enter k args) w) (v : Value) (l : List Rx) (w : World) (hv : KRx.Is w v l) (hl : l.length ≤ 9000000000000000000)
    (hk : ∀ (W : World) (x : Rx), Below w.heap.size w W → x ∈ l → Calls Try.prog k (#[.agg (encRx x).toArray] ++ lb) W fun e w' => e = .returned (.bool (f x)) ∧ Below W.heap.size W w') :
    Calls Try.prog 65 #[v, .func (.func k) #[] lb] w fun e w' => e = .returned (.bool (l.any f)) ∧ Below w.heap.size w w' := by
  have HX := hid (idxRange_any f k lb eg v l w hv hl hk)
  clear hv hk
  go_enter Try.func65, Try.ntmps65
  go_wp2_with fail
  refine HX.out.mono ?_
  rintro e w1 ⟨⟨n, rfl, hn⟩, hb1⟩
  have HN := hid hn
  clear hn
  go_wp2_with fail
  go_ret
  exact ⟨ret_bool HN.out, hb1⟩

set_option maxHeartbeats 4000000 in
set_option maxRecDepth 100000 in
theorem idxChange_any (f : Cx → Bool) (k : Nat) (lb : Array Value) (eg : ∀ args w, (callFunc k args).run Try.prog w = .ok (.enter k args) w) (v : Value) (l : List Cx) (w : World) (hv : KCx.Is w v l) (hl : l.length ≤ 9000000000000000000)
    (hk : ∀ (W : World) (x : Cx), Below w.heap.size w W → x ∈ l → Calls Try.prog k (#[.agg (encCx x).toArray] ++ lb) W fun e w' => e = .returned (.bool (f x)) ∧ Below W.heap.size W w') :
    Calls Try.prog 63 #[v, .func (.func k) #[] lb] w fun e w' => (∃ n : Int, e = .returned (.int .i64 n) ∧ decide (n ≥ 0) = l.any f) ∧ Below w.heap.size w w' := by
  obtain ⟨p, cap, rfl, hd⟩ := hv
  have HD := hid hd
  have HK := hid hk
  clear hd hk
  go_enter Try.func63, Try.ntmps63
  go_wp2_with fail
  go_loopg [8] l.length (fun gg vi wr => ∃ i : Nat, vi = .int .i64 i ∧ i ≤ l.length ∧ l.length - i ≤ gg ∧ Hid (Below w.heap.size w wr ∧ ∀ x ∈ l.take i, f x = false))
  case atStart => exact ⟨0, rfl, by omega, by omega, Below.refl _ _, fun x hx => by simp at hx⟩
  case round =>
    obtain ⟨i, rfl, hi, hgk, HI⟩ := hrel
    by_cases hlt : i < l.length
    · have hltz : (i : Int) < (l.length : Int) := by omega
      have hiz : (0 : Int) ≤ i := by omega
      obtain ⟨b1, o1, rfl, k1⟩ : ∃ b off, p = some ⟨b, off, none⟩ ∧ KCx.At w b off l := by
        rcases HD.out with h | h
        · rw [h] at hlt; simp at hlt
        · exact h
      obtain ⟨y0, y1, y2, y3, y4, y5⟩ := kcx_at (Kind.at_kept k1 HI.out.1) i hlt
      have hmem : l[i] ∈ l := List.getElem_mem hlt
      have htk : l.take (i + 1) = l.take i ++ [l[i]] := List.take_succ_eq_append_getElem hlt
      have HC := hid (HK.out wr l[i] HI.out.1 hmem)
      have HNO : Hid (f l[i] = false → ∀ x ∈ l.take (i + 1), f x = false) := fun h x hx => by
        rw [htk] at hx
        rcases List.mem_append.1 hx with hx | hx
        · exact HI.out.2 x hx
        · rw [List.mem_singleton.1 hx]; exact h
      have HYES : Hid (f l[i] = true → l.any f = true) := fun h => List.any_eq_true.2 ⟨_, hmem, h⟩
      have HB := hid HI.out.1
      clear HI k1 hmem htk
      generalize l[i] = x at *
      cases hq : f x with
      | true =>
        rw [hq] at HC
        have HY := hid (HYES.out hq)
        clear HNO HYES hq
        simp only [encCx] at *
        go_wp2_with (go_at_fn k; refine HC.out.mono ?_; rintro e w1 ⟨rfl, hb1⟩)
        go_ret
        exact ⟨⟨i, rfl, by rw [HY.out]; exact decide_eq_true hiz⟩, bel_then HB.out HB.out.size hb1⟩
      | false =>
        rw [hq] at HC
        have HN := hid (HNO.out hq)
        clear HNO HYES hq
        simp only [encCx] at *
        go_wp2_with (go_at_fn k; refine HC.out.mono ?_; rintro e w1 ⟨rfl, hb1⟩)
        have HB1 := hid (bel_then HB.out HB.out.size hb1)
        clear hb1
        go_roundg (l.length - (i + 1))
        case measure => omega
        exact ⟨i + 1, by go_num, by omega, by omega, HB1.out, HN.out⟩
    · have hltz : ¬ (i : Int) < (l.length : Int) := by omega
      have hti : l.take i = l := List.take_of_length_le (by omega)
      rw [hti] at HI
      go_wp2_with fail
      go_ret
      refine ⟨⟨-1, rfl, ?_⟩, HI.out.1⟩
      have : l.any f = false := by
        rw [List.any_eq_false]
        exact fun x hx => by rw [HI.out.2 x hx]; simp
      rw [this]
      decide

set_option maxHeartbeats 2000000 in
theorem hasChange_any (f : Cx → Bool) (k : Nat) (lb : Array Value) (eg : ∀ args w, (callFunc k args).run Try.prog w = .ok (.enter k args) w) (v : Value) (l : List Cx) (w : World) (hv : KCx.Is w v l) (hl : l.length ≤ 9000000000000000000)
    (hk : ∀ (W : World) (x : Cx), Below w.heap.size w W → x ∈ l → Calls Try.prog k (#[.agg (encCx x).toArray] ++ lb) W fun e w' => e = .returned (.bool (f x)) ∧ Below W.heap.size W w') :
    Calls Try.prog 51 #[v, .func (.func k) #[] lb] w fun e w' => e = .returned (.bool (l.any f)) ∧ Below w.heap.size w w' := by
  have HX := hid (idxChange_any f k lb eg v l w hv hl hk)
  clear hv hk
  go_enter Try.func51, Try.ntmps51
  go_wp2_with fail
  refine HX.out.mono ?_
  rintro e w1 ⟨⟨n, rfl, hn⟩, hb1⟩
  have HN := hid hn
  clear hn
  go_wp2_with fail
  go_ret
  exact ⟨ret_bool HN.out, hb1⟩

end Go.Proofs.Ytmihddbnddgfhaa

/-
  slices.Grow of nothing, slices.Concat of two lists of keys.
-/
namespace Go.Proofs.Ytmihddbnddgfhaa
open Go.RowKit

theorem infoKg12 : (Try.prog.info? 67).map (fun i => (i.zero, i.size, i.bytes)) = some (some (.agg #[.string ⟨#[]⟩, .string ⟨#[]⟩]), 2, 32) := by kernel_rfl

/-- Room for n keys. -/
theorem growKy_room (n : Nat) (w : World) (hn : 0 < n) (hn2 : n * 32 ≤ 140737488355328) : ∃ (g cap : Nat) (w' : World), (∀ ty, (Builtin.append_ #[29, 3] ty #[.slice none 0 0, .int .i64 (n : Int)]).run Try.prog w = .ok (.slice (some ⟨g, 0, none⟩) n cap) w') ∧ n ≤ cap ∧ cap ≤ maxLen ∧ KK.Own w.heap.size w' (.slice (some ⟨g, 0, none⟩) 0 cap) [] ∧ Below w.heap.size w w' := by
  obtain ⟨i0, hi0, hz0, hz1, hz2⟩ := info_parts infoKg12
  have hold : (Builtin.firstCells i0.size 0 (.slice none 0 0)).run Try.prog w.drew = .ok ([] : List Value).toArray w.drew := run_firstCells_none w.drew i0.size 0 0 0
  have h := fun ty => Lib.run_append_grow_zeros (P := Try.prog) w 29 3 ty 67 i0 _ .i64 .i64 Try.underlying29 Try.underlying3 hi0 hz0 none 0 0 [] hold n hn (by omega) (by omega) (by omega) (by rw [hz2]; omega) (growslice_fits (by omega) (by rw [hz2]; omega))
  simp only [Nat.zero_add] at h
  have hG := grownCap_ge w n 0 67
  have hM := grownCap_le_maxLen w n 0 67 (by unfold maxLen; omega)
  generalize grownCap w n 0 67 = G at *
  refine ⟨_, _, _, h, hG, hM, ?_, ?_⟩
  · refine World.ownsRow_made w.drew _ G (Nat.le_refl _) hM ?_
    have e : ∀ m, (Builtin.zeroCells (Value.agg #[.string ⟨#[]⟩, .string ⟨#[]⟩]).cells m).size = m * 2 := fun m => by
      have := congrArg List.length (Z.zero_cells (.string ⟨#[]⟩) m)
      simpa [Value.cells] using this
    rw [Array.size_append, Array.size_append, e, e]
    show 0 + n * 2 + (G - n) * 2 = G * 2
    omega
  · exact ((Below.refl _ w).drew).alloc (Nat.le_refl _) _

theorem wpList_append_made {ops : Array Oper} {rest : List Oper} {o : Oper} {a : Act} {Q : Exit → Act → World → Prop} (w : World) (hgd : o.guard = none) (s x : Operand) (t tn : TypeId)
    (ho : o.op = .call { callee := .builtin .append, args := #[s, x], argTypes := #[t, tn] }) (vs vx v' : Value) (w' : World) (hs : a.eval s = vs) (hx : a.eval x = vx) (hrun : ∀ ty, (Builtin.append_ #[t, tn] ty #[vs, vx]).run Try.prog w = .ok v' w')
    (h : wpList Try.prog ops Q rest (a.put o.dst v') w') : wpList Try.prog ops Q (o :: rest) a w := by
  refine wpList_plain hgd fun K hK' => ?_
  unfold Oper.wp
  simp [execOp, ho, resolve, invoke, builtin, hs, hx, hrun, Result.andThen]
  exact hK' _ _ h

end Go.Proofs.Ytmihddbnddgfhaa

/-
  Package marks (stage 12): rising, joined.
-/
namespace Go.Proofs.Ytmihddbnddgfhaa
open Go.RowKit

/-- Where joined stands: some ranges are joined. -/
def JnSt (w : World) (acc : List Rg) (p : Option Addr) (c : Nat) (L : List Rx) (wr : World) : Prop := RgSt w.heap.size w (.slice p L.length c) L wr ∧ L.map Rx.rg = acc

theorem putR_in {l : List Rg} {r : Rg} (h : (l.any fun x => decide (x = r)) = true) : putR l r = l := if_pos h
theorem putR_out {l : List Rg} {r : Rg} (h : (l.any fun x => decide (x = r)) = false) : putR l r = l ++ [r] := if_neg (by rw [h]; simp)
theorem puts_len (l : List Rg) (a : List Rg) : (l.foldl putR a).length ≤ a.length + l.length := putsR_len l a

end Go.Proofs.Ytmihddbnddgfhaa

/-
  Package marks (stage 12): Key.
-/
namespace Go.Proofs.Ytmihddbnddgfhaa
open Go.RowKit

theorem kk_one {w : World} {B : Nat} {a b : ByteArray} {t : TypeId} (h : w.heap[B]? = some (.cells #[.string a, .string b] t (0, 0))) : KK.Is w (.slice (some ⟨B, 0, none⟩) 1 1) [(a, b)] := by
  refine ⟨_, _, rfl, Or.inr ⟨_, _, rfl, fun i hi j u hu => ?_⟩⟩
  have hi' : i = 0 := by simpa using hi
  subst hi'
  have hj : j < 2 := (List.getElem?_eq_some_iff.1 hu).1
  rw [Lib.cell_of_heap h]
  rcases j with _ | _ | j
  all_goals first | exact hu | omega

end Go.Proofs.Ytmihddbnddgfhaa

/-
  Package marks (stage 12): Union.
-/
namespace Go.Proofs.Ytmihddbnddgfhaa
open Go.RowKit

/-- Ranges of one's own, from block N on. -/
def RgOwn (N : Nat) (w : World) (v : Value) (rg : List Rg) : Prop :=
  ∃ p c L, v = .slice p L.length c ∧ KRx.Own N w (.slice p L.length c) L ∧ (∀ r ∈ L, KM.Own N w r.sl r.tm ∧ FitP r.tm) ∧ ApartR L ∧ L.map Rx.rg = rg
/-- Keys of one's own. -/
def KyOwn (N : Nat) (w : World) (v : Value) (ks : List Ky) : Prop := ∃ p c, v = .slice p ks.length c ∧ KK.Own N w (.slice p ks.length c) ks
section
variable {N : Nat} {w w' : World} {v : Value} {rg : List Rg} {ks : List Ky}
theorem RgOwn.on (h : RgOwn N w v rg) (hb : Below w.heap.size w w') : RgOwn N w' v rg := by
  obtain ⟨p, c, L, h1, h2, h3, h4, h5⟩ := h
  exact ⟨p, c, L, h1, Kind.own_on h2 hb, fun r hr => ⟨Kind.own_on (h3 r hr).1 hb, (h3 r hr).2⟩, h4, h5⟩
theorem RgOwn.weak {M : Nat} (h : RgOwn N w v rg) (hM : M ≤ N) : RgOwn M w v rg := by
  obtain ⟨p, c, L, h1, h2, h3, h4, h5⟩ := h
  exact ⟨p, c, L, h1, Kind.own_weak h2 hM, fun r hr => ⟨Kind.own_weak (h3 r hr).1 hM, (h3 r hr).2⟩, h4, h5⟩
theorem RgOwn.cell (h : RgOwn N w v rg) {b : Nat} (hb : b < N) (j : Nat) (x : Value) : RgOwn N (w.setCell ⟨b, j, none⟩ x) v rg := by
  obtain ⟨p, c, L, h1, h2, h3, h4, h5⟩ := h
  exact ⟨p, c, L, h1, own_cell h2 hb _ _, fun r hr => ⟨own_cell (h3 r hr).1 hb _ _, (h3 r hr).2⟩, h4, h5⟩
theorem KyOwn.on (h : KyOwn N w v ks) (hb : Below w.heap.size w w') : KyOwn N w' v ks := by
  obtain ⟨p, c, h1, h2⟩ := h
  exact ⟨p, c, h1, Kind.own_on h2 hb⟩
theorem KyOwn.weak {M : Nat} (h : KyOwn N w v ks) (hM : M ≤ N) : KyOwn M w v ks := by
  obtain ⟨p, c, h1, h2⟩ := h
  exact ⟨p, c, h1, Kind.own_weak h2 hM⟩
theorem KyOwn.cell (h : KyOwn N w v ks) {b : Nat} (hb : b < N) (j : Nat) (x : Value) : KyOwn N (w.setCell ⟨b, j, none⟩ x) v ks := by
  obtain ⟨p, c, h1, h2⟩ := h
  exact ⟨p, c, h1, own_cell h2 hb _ _⟩
theorem rgown_post {W : World} {e : Ending} (h : RgPost W rg e w') : ∃ u, e = .returned u ∧ RgOwn W.heap.size w' u rg ∧ Below W.heap.size W w' := by
  obtain ⟨p, c, L, rfl, h1, h2⟩ := h
  exact ⟨_, rfl, ⟨p, c, L, rfl, h1.row.own, h1.each, h1.apart, h2⟩, h1.row.bel⟩
theorem kyown_post {W : World} {e : Ending} (h : KeyRPost W ks e w') : ∃ u, e = .returned u ∧ KyOwn W.heap.size w' u ks ∧ Below W.heap.size W w' := by
  obtain ⟨u, rfl, h1, h2⟩ := h
  obtain ⟨p, c, rfl⟩ := Kind.own_shape h1
  exact ⟨_, rfl, ⟨p, c, rfl, h1⟩, h2⟩
end

/-- Union under way: k of the chain are done; f: the ranges' lists are laid. -/
structure JuSt (V : World) (M2 : Nat) (c9 c15 : Array Value) (ks : List Ky) (rg : List Rg) (k : Nat) (f : Bool) (t9 t10 t15 t16 t17 : Value) (w : World) : Prop where
  bel : k ≤ 4 → Below V.heap.size V w
  box0 : k ≤ 4 → w.heap[M2]? = some (.cells #[.slice none 0 0, .slice none 0 0] 32 (0, 0))
  box5 : 5 ≤ k → w.heap[M2]? = some (.cells #[t10, t16] 32 (0, 0)) ∧ Below M2 V w
  p9 : k = 1 → ∃ b, t9 = .slice (some ⟨b, 0, none⟩) 2 2 ∧ w.heap[b]? = some (.cells c9 29 (0, 0))
  k10 : 2 ≤ k → KyOwn V.heap.size w t10 ks
  p15 : f = true → k ≤ 2 → ∃ b, t15 = .slice (some ⟨b, 0, none⟩) 2 2 ∧ w.heap[b]? = some (.cells c15 30 (0, 0))
  d15 : 3 ≤ k → f = true
  r16 : 3 ≤ k → RgOwn V.heap.size w t16 rg
  b17 : 4 ≤ k → t17 = .agg #[t10, t16]

section
variable {V : World} {M2 : Nat} {c9 c15 : Array Value} {ks : List Ky} {rg : List Rg} {k : Nat} {f : Bool} {t9 t10 t15 t16 t17 : Value} {w w' : World}
theorem blk_on {b : Nat} {o : Obj} (h : w.heap[b]? = some o) (hb : Below w.heap.size w w') : w'.heap[b]? = some o := (hb.block b (Array.getElem?_eq_some_iff.1 h).1).trans h
theorem JuSt.on (h : JuSt V M2 c9 c15 ks rg k f t9 t10 t15 t16 t17 w) (hb : Below w.heap.size w w') (hk : k ≤ 4) : JuSt V M2 c9 c15 ks rg k f t9 t10 t15 t16 t17 w' :=
  ⟨fun hk => bel_then (h.bel hk) (h.bel hk).size hb, fun hk => blk_on (h.box0 hk) hb, (fun h5 => by omega), fun hk => by obtain ⟨b, h1, h2⟩ := h.p9 hk; exact ⟨b, h1, blk_on h2 hb⟩, fun hk => (h.k10 hk).on hb, fun hf hk => by obtain ⟨b, h1, h2⟩ := h.p15 hf hk; exact ⟨b, h1, blk_on h2 hb⟩, h.d15, fun hk => (h.r16 hk).on hb, h.b17⟩
theorem ju_start (h3 : V.heap[M2]? = some (.cells #[.slice none 0 0, .slice none 0 0] 32 (0, 0))) (t9 t10 t15 t16 t17 : Value) : JuSt V M2 c9 c15 ks rg 0 false t9 t10 t15 t16 t17 V :=
  ⟨fun _ => Below.refl _ _, fun _ => h3, (fun h => by omega), (fun h => by omega), (fun h => by omega), (fun h => by cases h), (fun h => by omega), (fun h => by omega), (fun h => by omega)⟩
theorem alloc_on (w : World) (o : Obj) : Below w.heap.size w (w.alloc o) := (Below.refl _ _).alloc (Nat.le_refl _) _
theorem ju_p9 (h : JuSt V M2 c9 c15 ks rg 0 f t9 t10 t15 t16 t17 w) : JuSt V M2 c9 c15 ks rg 1 f (.slice (some ⟨w.heap.size, 0, none⟩) 2 2) t10 t15 t16 t17 (w.alloc (.cells c9 29)) := by
  have g := h.on (alloc_on w (.cells c9 29)) (by omega)
  exact ⟨fun _ => g.bel (by omega), fun _ => g.box0 (by omega), (fun h => by omega), fun _ => ⟨_, rfl, heap_alloc_new w _⟩, (fun h => by omega), fun hf _ => g.p15 hf (by omega), (fun h => by omega), (fun h => by omega), (fun h => by omega)⟩
theorem ju_c5 {u : Value} (h : JuSt V M2 c9 c15 ks rg 1 f t9 t10 t15 t16 t17 w) (hb : Below w.heap.size w w') (hu : KyOwn w.heap.size w' u ks) : JuSt V M2 c9 c15 ks rg 2 f t9 u t15 t16 t17 w' := by
  have g := h.on hb (by omega)
  exact ⟨fun _ => g.bel (by omega), fun _ => g.box0 (by omega), (fun h => by omega), (fun h => by omega), fun _ => hu.weak (h.bel (by omega)).size, fun hf _ => g.p15 hf (by omega), (fun h => by omega), (fun h => by omega), (fun h => by omega)⟩
theorem ju_c11 {u : Value} (h : JuSt V M2 c9 c15 ks rg 2 true t9 t10 t15 t16 t17 w) (hb : Below w.heap.size w w') (hu : RgOwn w.heap.size w' u rg) : JuSt V M2 c9 c15 ks rg 3 true t9 t10 t15 u t17 w' := by
  have g := h.on hb (by omega)
  exact ⟨fun _ => g.bel (by omega), fun _ => g.box0 (by omega), (fun h => by omega), (fun h => by omega), fun _ => g.k10 (by omega), (fun _ h => by omega), fun _ => rfl, fun _ => hu.weak (h.bel (by omega)).size, (fun h => by omega)⟩
theorem ju_b12 (h : JuSt V M2 c9 c15 ks rg 3 f t9 t10 t15 t16 t17 w) : JuSt V M2 c9 c15 ks rg 4 f t9 t10 t15 t16 (.agg #[t10, t16]) w :=
  ⟨fun _ => h.bel (by omega), fun _ => h.box0 (by omega), (fun h => by omega), (fun h => by omega), fun _ => h.k10 (by omega), (fun _ h => by omega), fun _ => h.d15 (by omega), fun _ => h.r16 (by omega), fun _ => rfl⟩
theorem ju_s13 (h : JuSt V M2 c9 c15 ks rg 4 f t9 t10 t15 t16 t17 w) (hM : M2 < V.heap.size) : JuSt V M2 c9 c15 ks rg 5 f t9 t10 t15 t16 t17 ((w.setCell ⟨M2, 0, none⟩ t10).setCell ⟨M2, 1, none⟩ t16) := by
  have hb := h.box0 (by omega)
  have h1 : (w.setCell ⟨M2, 0, none⟩ t10).heap[M2]? = some (.cells #[t10, .slice none 0 0] 32 (0, 0)) := heap_setCell_same _ M2 0 _ _ _ hb
  have h2 : ((w.setCell ⟨M2, 0, none⟩ t10).setCell ⟨M2, 1, none⟩ t16).heap[M2]? = some (.cells #[t10, t16] 32 (0, 0)) := heap_setCell_same _ M2 1 _ _ _ h1
  have hB : Below M2 V w := (h.bel (by omega)).mono (by omega)
  exact ⟨(fun h => by omega), (fun h => by omega), fun _ => ⟨h2, (hB.setCell (Nat.le_refl M2) _).setCell (Nat.le_refl M2) _⟩, (fun h => by omega), fun _ => ((h.k10 (by omega)).cell hM _ _).cell hM _ _, (fun _ h => by omega), fun _ => h.d15 (by omega), fun _ => ((h.r16 (by omega)).cell hM _ _).cell hM _ _, fun _ => h.b17 (by omega)⟩
theorem ju_p15 (h : JuSt V M2 c9 c15 ks rg k false t9 t10 t15 t16 t17 w) : JuSt V M2 c9 c15 ks rg k true t9 t10 (.slice (some ⟨w.heap.size, 0, none⟩) 2 2) t16 t17 (w.alloc (.cells c15 30)) := by
  have hk : ¬ 3 ≤ k := fun h3 => by have := h.d15 h3; cases this
  have g := h.on (alloc_on w (.cells c15 30)) (by omega)
  exact ⟨g.bel, g.box0, (fun h => by omega), g.p9, g.k10, fun _ _ => ⟨_, rfl, heap_alloc_new w _⟩, (fun h => by omega), (fun h => by omega), (fun h => by omega)⟩
end

end Go.Proofs.Ytmihddbnddgfhaa

/-
  Package marks (stage 12): Range.
-/
namespace Go.Proofs.Ytmihddbnddgfhaa
open Go.RowKit

theorem infoRk12 : (Try.prog.info? 67).map (fun i => (i.zero, i.size, i.bytes)) = some (some (.agg #[.string ⟨#[]⟩, .string ⟨#[]⟩]), 2, 32) := by kernel_rfl
theorem kcells12 {w : World} {b off : Nat} {p : List Ky} (h : KK.At w b off p) (j : Nat) (u : Value) (hu : (KK.cells p)[j]? = some u) : w.cell? ⟨b, off + j, none⟩ = some u := by
  rcases Kind.src (K := KK) (w := w) (p := some ⟨b, off, none⟩) (d := p) (Or.inr ⟨b, off, rfl, h⟩) with h0 | ⟨ad, e, hc⟩
  · obtain rfl := List.length_eq_zero_iff.1 h0
    simp [Kind.cells] at hu
  · cases e
    have := hc j u hu
    rwa [addr_add] at this

set_option maxHeartbeats 2000000 in
set_option maxRecDepth 100000 in
theorem cloneKy_any (v : Value) (p : List Ky) (w : World) (hv : KK.Is w v p) (hs : p.length * 32 ≤ 140737488355328) :
    Calls Try.prog 46 #[v] w fun e w' => ∃ u, e = .returned u ∧ KK.Own w.heap.size w' u p ∧ Below w.heap.size w w' := by
  obtain ⟨i0, hi, hz0, hz1, hz2⟩ := info_parts infoRk12
  obtain ⟨q, cap, rfl, hd⟩ := hv
  have q22 : ∀ (w : World) (a : Option Addr) (n c n' c' : Nat), (binOp .eql 29 (.slice a n c) (.slice none n' c')).run Try.prog w = .ok (.bool a.isNone) w := fun w a n c n' c' => Lib.run_eql_slice_nil w _ _ a n c n' c' Try.underlying29
  have HD := hid hd
  clear hd
  cases q with
  | none =>
    have h0 : p = [] := by
      rcases HD.out with h | ⟨b, off, h, _⟩
      · exact h
      · cases h
    subst h0
    go_enter Try.func46, Try.ntmps46
    go_wp2_with fail
    go_ret
    exact ⟨_, rfl, KK.own_nil _ _, Below.refl _ _⟩
  | some a =>
    have hcells : ∀ j u, (KK.cells p)[j]? = some u → (w.alloc (.cells #[] 67)).cell? (a.add j) = some u := by
      rcases HD.out with h | ⟨b, off, h, hx⟩
      · subst h; intro j u hj; simp [Kind.cells] at hj
      · intro j u hj
        obtain rfl : a = ⟨b, off, none⟩ := by simpa using h
        rw [addr_add]
        have := kcells12 hx j u hj
        rw [World.cell?_alloc_lt _ _ ⟨b, off + j, none⟩ (cell_block this)]; exact this
    have HC := hid hcells
    clear hcells
    go_enter Try.func46, Try.ntmps46
    go_wp2_with (at_builtin; refine wpList_append_own _ rfl _ _ 29 rfl w.heap.size 67 i0 (.agg #[.string ⟨#[]⟩, .string ⟨#[]⟩]) 2 32 Try.underlying29 hi hz0 hz1 hz2 rfl (by decide) _ _ _ rfl (World.ownsRow_made w #[] 0 (Nat.le_refl _) (Nat.zero_le _) (by simp)) a p.length cap (KK.cells p) rfl ?c0 ?c1 ?c2 ?c3 ?c4 ?c5 ?_)
    case c0 => exact KK.cells_len p
    case c1 => exact HC.out
    case c2 => exact KK.cells_ones p
    case c3 => unfold maxLen; omega
    case c4 => omega
    case c5 => simp
    intro v' w1 hown hgrow hnil
    have hb1 : Below w.heap.size w w1 := ((Below.refl _ w).alloc (Nat.le_refl _) _).grown hgrow (by simp) (by intro k hk; simp [Value.ownBlock] at hk; omega)
    have HO : Hid (KK.Own w.heap.size w1 v' p) := hid (by show w1.ownsRow w.heap.size 67 2 v' p.length (KK.cells p); simpa using hown)
    clear hown hgrow hnil
    go_wp2_with fail
    go_ret
    exact ⟨_, rfl, HO.out, hb1⟩


/-- A row stands where a block of another type is set. -/
theorem own_mset {α : Type} {K : Kind α} {N O : Nat} {w : World} {v : Value} {l : List α} {c : Array Value} {T : TypeId} (h : K.Own N w v l) (hO : w.heap[O]? = some (.cells c T (0, 0))) (ht : K.T ≠ T) (j : Nat) (x : Value) : K.Own N (w.setCell ⟨O, j, none⟩ x) v l :=
  Fr.row (P := fun k => k = O) (Fr.of_grown (grown_set w O j x) fun k hk => by simpa using hk.symm) (show w.ownsRow N K.T K.k v l.length (K.cells l) from h) fun k hk e => by
    obtain ⟨c1, e1⟩ := own_type (show w.ownsRow N K.T K.k v l.length (K.cells l) from h) hk
    rw [e, hO] at e1
    injection e1 with e1
    injection e1 with _ e3
    exact ht e3.symm
theorem KyOwn.mset {N O : Nat} {w : World} {v : Value} {ks : List Ky} {c : Array Value} (h : KyOwn N w v ks) (hO : w.heap[O]? = some (.cells c 32 (0, 0))) (j : Nat) (x : Value) : KyOwn N (w.setCell ⟨O, j, none⟩ x) v ks := by
  obtain ⟨p, c, h1, h2⟩ := h
  exact ⟨p, c, h1, own_mset h2 hO (by decide) j x⟩
theorem RgOwn.mset {N O : Nat} {w : World} {v : Value} {rg : List Rg} {c : Array Value} (h : RgOwn N w v rg) (hO : w.heap[O]? = some (.cells c 32 (0, 0))) (j : Nat) (x : Value) : RgOwn N (w.setCell ⟨O, j, none⟩ x) v rg := by
  obtain ⟨p, c, L, h1, h2, h3, h4, h5⟩ := h
  exact ⟨p, c, L, h1, own_mset h2 hO (by decide) j x, fun r hr => ⟨own_mset (h3 r hr).1 hO (by decide) j x, (h3 r hr).2⟩, h4, h5⟩

/-- Range under way: the copy of the marks. -/
structure RnSt (V : World) (ks : List Ky) (rg : List Rg) (k : Nat) (f : Bool) (t7 t11 t14 t15 : Value) (w : World) : Prop where
  bel : Below V.heap.size V w
  k11 : 1 ≤ k → KyOwn V.heap.size w t11 ks
  r14 : 2 ≤ k → RgOwn V.heap.size w t14 rg
  b15 : 3 ≤ k → t15 = .agg #[t11, t14]
  box0 : f = true → k ≤ 3 → ∃ b, t7 = .pointer (some ⟨b, 0, none⟩) ∧ V.heap.size ≤ b ∧ w.heap[b]? = some (.cells #[.slice none 0 0, .slice none 0 0] 32 (0, 0))
  box4 : 4 ≤ k → ∃ b, t7 = .pointer (some ⟨b, 0, none⟩) ∧ V.heap.size ≤ b ∧ w.heap[b]? = some (.cells #[t11, t14] 32 (0, 0))
  d7 : 4 ≤ k → f = true

section
variable {V : World} {ks : List Ky} {rg : List Rg} {k : Nat} {f : Bool} {t7 t11 t14 t15 : Value} {w w' : World}
theorem RnSt.on (h : RnSt V ks rg k f t7 t11 t14 t15 w) (hb : Below w.heap.size w w') : RnSt V ks rg k f t7 t11 t14 t15 w' :=
  ⟨bel_then h.bel h.bel.size hb, fun hk => (h.k11 hk).on hb, fun hk => (h.r14 hk).on hb, h.b15, fun hf hk => by obtain ⟨b, h1, h2, h3⟩ := h.box0 hf hk; exact ⟨b, h1, h2, blk_on h3 hb⟩, fun hk => by obtain ⟨b, h1, h2, h3⟩ := h.box4 hk; exact ⟨b, h1, h2, blk_on h3 hb⟩, h.d7⟩
theorem rn_start (V : World) (ks : List Ky) (rg : List Rg) (t7 t11 t14 t15 : Value) : RnSt V ks rg 0 false t7 t11 t14 t15 V :=
  ⟨Below.refl _ _, (fun h => by omega), (fun h => by omega), (fun h => by omega), (fun h => by cases h), (fun h => by omega), (fun h => by omega)⟩
theorem rn_c2 {u : Value} (h : RnSt V ks rg 0 f t7 t11 t14 t15 w) (hb : Below w.heap.size w w') (hu : KyOwn w.heap.size w' u ks) : RnSt V ks rg 1 f t7 u t14 t15 w' := by
  have g := h.on hb
  exact ⟨g.bel, fun _ => hu.weak h.bel.size, (fun h => by omega), (fun h => by omega), fun hf _ => g.box0 hf (by omega), (fun h => by omega), (fun h => by omega)⟩
theorem rn_c5 {u : Value} (h : RnSt V ks rg 1 f t7 t11 t14 t15 w) (hb : Below w.heap.size w w') (hu : RgOwn w.heap.size w' u rg) : RnSt V ks rg 2 f t7 t11 u t15 w' := by
  have g := h.on hb
  exact ⟨g.bel, fun _ => g.k11 (by omega), fun _ => hu.weak h.bel.size, (fun h => by omega), fun hf _ => g.box0 hf (by omega), (fun h => by omega), (fun h => by omega)⟩
theorem rn_b6 (h : RnSt V ks rg 2 f t7 t11 t14 t15 w) : RnSt V ks rg 3 f t7 t11 t14 (.agg #[t11, t14]) w :=
  ⟨h.bel, fun _ => h.k11 (by omega), fun _ => h.r14 (by omega), fun _ => rfl, fun hf _ => h.box0 hf (by omega), (fun h => by omega), (fun h => by omega)⟩
theorem rn_s8 {b : Nat} (h : RnSt V ks rg 3 true (.pointer (some ⟨b, 0, none⟩)) t11 t14 t15 w) : RnSt V ks rg 4 true (.pointer (some ⟨b, 0, none⟩)) t11 t14 t15 ((w.setCell ⟨b, 0, none⟩ t11).setCell ⟨b, 1, none⟩ t14) := by
  obtain ⟨b', e, hb, hx⟩ := h.box0 rfl (by omega)
  injection e with e
  injection e with e
  injection e with e _ _
  subst e
  have h1 : (w.setCell ⟨b, 0, none⟩ t11).heap[b]? = some (.cells #[t11, .slice none 0 0] 32 (0, 0)) := heap_setCell_same _ b 0 _ _ _ hx
  have h2 : ((w.setCell ⟨b, 0, none⟩ t11).setCell ⟨b, 1, none⟩ t14).heap[b]? = some (.cells #[t11, t14] 32 (0, 0)) := heap_setCell_same _ b 1 _ _ _ h1
  exact ⟨(h.bel.setCell (p := ⟨b, 0, none⟩) hb _).setCell (p := ⟨b, 1, none⟩) hb _, fun _ => ((h.k11 (by omega)).mset hx _ _).mset h1 _ _, fun _ => ((h.r14 (by omega)).mset hx _ _).mset h1 _ _, fun _ => h.b15 (by omega), (fun _ h => by omega), fun _ => ⟨b, rfl, hb, h2⟩, fun _ => rfl⟩
theorem rn_a7 (h : RnSt V ks rg k false t7 t11 t14 t15 w) : RnSt V ks rg k true (.pointer (some ⟨w.heap.size, 0, none⟩)) t11 t14 t15 (w.alloc (.cells #[.slice none 0 0, .slice none 0 0] 32)) := by
  have hk : ¬ 4 ≤ k := fun h3 => by have := h.d7 h3; cases this
  have g := h.on (alloc_on w (.cells #[.slice none 0 0, .slice none 0 0] 32))
  exact ⟨g.bel, g.k11, g.r14, g.b15, fun _ _ => ⟨_, rfl, h.bel.size, heap_alloc_new w _⟩, (fun h => by omega), (fun h => by omega)⟩
end

/-- Behind the copy: the box of the answer's own marks, in block b. -/
structure RmSt (V : World) (b : Nat) (kv : Value) (p : Option Addr) (c : Nat) (L : List Rx) (ks : List Ky) (w : World) : Prop where
  ge : V.heap.size ≤ b
  box : w.heap[b]? = some (.cells #[kv, .slice p L.length c] 32 (0, 0))
  key : KyOwn V.heap.size w kv ks
  rng : RgSt V.heap.size V (.slice p L.length c) L w
section
variable {V : World} {b : Nat} {kv : Value} {p : Option Addr} {c : Nat} {L : List Rx} {ks : List Ky} {w w' : World}
theorem RmSt.bel (h : RmSt V b kv p c L ks w) : Below V.heap.size V w := h.rng.row.bel
theorem RmSt.on (h : RmSt V b kv p c L ks w) (hb : Below w.heap.size w w') : RmSt V b kv p c L ks w' := ⟨h.ge, blk_on h.box hb, h.key.on hb, h.rng.on hb⟩
/-- One range more: the box, and what it is when the box tells it. -/
theorem RmSt.more {g c' : Nat} {x : Rx} (h : RmSt V b kv p c L ks w) (hg : w.grownBy w' (Value.slice p L.length c).ownBlock) (hst : RgSt V.heap.size V (.slice (some ⟨g, 0, none⟩) (L ++ [x]).length c') (L ++ [x]) w') :
    w'.heap[b]? = some (.cells #[kv, .slice p L.length c] 32 (0, 0)) ∧ RmSt V b kv (some ⟨g, 0, none⟩) c' (L ++ [x]) ks (w'.setCell ⟨b, 1, none⟩ (.slice (some ⟨g, 0, none⟩) (L ++ [x]).length c')) := by
  have ho := h.rng.row.own
  have hlt : b < w.heap.size := (Array.getElem?_eq_some_iff.1 h.box).1
  have hbx : w'.heap[b]? = some (.cells #[kv, .slice p L.length c] 32 (0, 0)) := by
    refine (hg.block b hlt fun e => ?_).trans h.box
    obtain ⟨c1, e1⟩ := own_type (show w.ownsRow V.heap.size KRx.T KRx.k (.slice p L.length c) L.length (KRx.cells L) from ho) e.symm
    rw [h.box] at e1
    injection e1 with e1
    injection e1 with _ e3
    exact absurd e3 (by decide)
  refine ⟨hbx, ⟨h.ge, heap_setCell_same _ b 1 _ _ _ hbx, ?_, ?_⟩⟩
  · obtain ⟨p1, c1, e, h1⟩ := h.key
    refine KyOwn.mset ⟨p1, c1, e, ?_⟩ hbx _ _
    exact own_else (show w.ownsRow V.heap.size KK.T KK.k (.slice p1 ks.length c1) ks.length (KK.cells ks) from h1) (show w.ownsRow V.heap.size KRx.T KRx.k (.slice p L.length c) L.length (KRx.cells L) from ho) (by decide) hg
  · exact ⟨⟨own_mset hst.row.own hbx (by decide) _ _, hst.row.bel.setCell (p := ⟨b, 1, none⟩) h.ge _, by rw [World.size_setCell]; exact hst.row.base⟩, fun r hr => ⟨own_mset (hst.each r hr).1 hbx (by decide) _ _, (hst.each r hr).2⟩, hst.apart⟩
/-- What is left when the answer is laid. -/
theorem RmSt.post {w0 : World} {M1 : Nat} {mk : Mk} {p2 : Option Addr} {c2 : Nat} (h : RmSt V b (.slice p2 ks.length c2) p c L ks w) (hb0 : Below w0.heap.size w0 V) (h0 : w0.heap.size ≤ M1) (hM1 : M1 < V.heap.size) (hmk : mk = (ks, L.map Rx.rg)) :
    MOwnPost w0 mk (.returned (.agg #[.slice p2 ks.length c2, .slice p L.length c])) ((w.setCell ⟨M1, 0, none⟩ (.slice p2 ks.length c2)).setCell ⟨M1, 1, none⟩ (.slice p L.length c)) := by
  have hwV : w0.heap.size ≤ V.heap.size := hb0.size
  obtain ⟨p4, c4, e4, hk⟩ := (h.key.cell hM1 0 (.slice p2 ks.length c2)).cell hM1 1 (.slice p L.length c)
  rw [← e4] at hk
  refine ⟨⟨p2, c2, ks, p, c, L⟩, rfl, ⟨Kind.own_weak hk hwV, Kind.own_weak (own_cell (own_cell h.rng.row.own hM1 _ _) hM1 _ _) hwV, fun r hr => ⟨Kind.own_weak (own_cell (own_cell (h.rng.each r hr).1 hM1 _ _) hM1 _ _) hwV, (h.rng.each r hr).2⟩, h.rng.apart⟩, ?_, ?_⟩
  · rw [hmk]
    rfl
  · have hB := bel_then hb0 hb0.size h.bel
    exact (hB.setCell (p := ⟨M1, 0, none⟩) h0 _).setCell (p := ⟨M1, 1, none⟩) h0 _
end

/-- One range more, under way. -/
structure RqSt (V : World) (b : Nat) (kv : Value) (p : Option Addr) (c : Nat) (L : List Rx) (ks : List Ky) (rt : ByteArray) (rv : Value) (tm : List Tm) (Q : Nat) (k : Nat) (f : Bool) (t25 t27 t28 t29 t30 : Value) (w : World) : Prop where
  rm : k ≤ 2 → RmSt V b kv p c L ks w
  qb : w.heap[Q]? = some (.cells #[.string rt, rv] 85 (0, 0))
  f25 : f = true → t25 = .slice p L.length c
  o27 : 1 ≤ k → k ≤ 2 → ∃ p1 c1, t27 = .agg #[.string rt, .slice p1 tm.length c1] ∧ KM.Own V.heap.size w (.slice p1 tm.length c1) tm ∧ (∀ r ∈ L, ∀ j, r.sl.ownBlock = some j → ¬ (Value.slice p1 tm.length c1).ownBlock = some j) ∧ (k = 2 → ∃ B, t28 = .slice (some ⟨B, 0, none⟩) 1 1 ∧ w.heap[B]? = some (.cells #[.string rt, .slice p1 tm.length c1] 85 (0, 0)))
  m29 : 3 ≤ k → ∃ g c' x, x.rg = (rt, tm) ∧ t29 = .slice (some ⟨g, 0, none⟩) (L ++ [x]).length c' ∧ (k ≤ 4 → w.heap[b]? = some (.cells #[kv, .slice p L.length c] 32 (0, 0)) ∧ RmSt V b kv (some ⟨g, 0, none⟩) c' (L ++ [x]) ks (w.setCell ⟨b, 1, none⟩ (.slice (some ⟨g, 0, none⟩) (L ++ [x]).length c'))) ∧ (5 ≤ k → RmSt V b kv (some ⟨g, 0, none⟩) c' (L ++ [x]) ks w)
  p30 : 4 ≤ k → t30 = .pointer (some ⟨b, 1, none⟩)
  d25 : 3 ≤ k → f = true
section
variable {V : World} {b : Nat} {kv : Value} {p : Option Addr} {c : Nat} {L : List Rx} {ks : List Ky} {rt : ByteArray} {rv : Value} {tm : List Tm} {Q k : Nat} {f : Bool} {t25 t27 t28 t29 t30 : Value} {w w' : World}
theorem rq_start (h : RmSt V b kv p c L ks w) (hq : w.heap[Q]? = some (.cells #[.string rt, rv] 85 (0, 0))) (tm : List Tm) (t25 t27 t28 t29 t30 : Value) : RqSt V b kv p c L ks rt rv tm Q 0 false t25 t27 t28 t29 t30 w :=
  ⟨fun _ => h, hq, (fun h => by cases h), (fun h => by omega), (fun h => by omega), (fun h => by omega), (fun h => by omega)⟩
theorem rq_l1 (h : RqSt V b kv p c L ks rt rv tm Q k false t25 t27 t28 t29 t30 w) : RqSt V b kv p c L ks rt rv tm Q k true (.slice p L.length c) t27 t28 t29 t30 w :=
  ⟨h.rm, h.qb, fun _ => rfl, h.o27, h.m29, h.p30, fun _ => rfl⟩
theorem rq_c3 {p1 : Option Addr} {c1 : Nat} (h : RqSt V b kv p c L ks rt rv tm Q 0 f t25 t27 t28 t29 t30 w) (hb : Below w.heap.size w w') (ho : KM.Own w.heap.size w' (.slice p1 tm.length c1) tm) : RqSt V b kv p c L ks rt rv tm Q 1 f t25 (.agg #[.string rt, .slice p1 tm.length c1]) t28 t29 t30 w' :=
  ⟨fun _ => (h.rm (by omega)).on hb, blk_on h.qb hb, h.f25, fun _ _ => ⟨p1, c1, rfl, Kind.own_weak ho (h.rm (by omega)).bel.size, (h.rm (by omega)).rng.fresh (x := ⟨rt, p1, c1, tm⟩) ho, (fun h => by omega)⟩, (fun h => by omega), (fun h => by omega), (fun h => by omega)⟩
theorem rq_b4 {p1 : Option Addr} {c1 : Nat} (h : RqSt V b kv p c L ks rt rv tm Q 1 f t25 (.agg #[.string rt, .slice p1 tm.length c1]) t28 t29 t30 w) : RqSt V b kv p c L ks rt rv tm Q 2 f t25 (.agg #[.string rt, .slice p1 tm.length c1]) (.slice (some ⟨w.heap.size, 0, none⟩) 1 1) t29 t30 (w.alloc (.cells #[.string rt, .slice p1 tm.length c1] 85)) := by
  have hb := alloc_on w (.cells #[.string rt, .slice p1 tm.length c1] 85)
  obtain ⟨p2, c2, e, h1, h2, _⟩ := h.o27 (by omega) (by omega)
  have hp : Value.slice p1 tm.length c1 = .slice p2 tm.length c2 := by simpa using e
  refine ⟨fun _ => (h.rm (by omega)).on hb, blk_on h.qb hb, h.f25, fun _ _ => ⟨p1, c1, rfl, ?_, ?_, fun _ => ⟨_, rfl, heap_alloc_new w _⟩⟩, (fun h => by omega), (fun h => by omega), (fun h => by omega)⟩
  · rw [← hp] at h1
    exact Kind.own_on h1 hb
  · rw [← hp] at h2
    exact h2
theorem rq_a5 {g c' : Nat} {x : Rx} (h : RqSt V b kv p c L ks rt rv tm Q 2 true t25 t27 t28 t29 t30 w) (hx : x.rg = (rt, tm)) (hox : KM.Own V.heap.size w x.sl x.tm) (hf : FitP x.tm) (hfr : ∀ r ∈ L, ∀ j, r.sl.ownBlock = some j → ¬ x.sl.ownBlock = some j) (hqL : ∀ j, (Value.slice p L.length c).ownBlock = some j → j < Q)
    (hst : RowSt KRx V.heap.size V (.slice (some ⟨g, 0, none⟩) (L.length + 1) c') (L ++ [x]) w') (hg : w.grownBy w' (Value.slice p L.length c).ownBlock) : RqSt V b kv p c L ks rt rv tm Q 3 true t25 t27 t28 (.slice (some ⟨g, 0, none⟩) (L.length + 1) c') t30 w' := by
  have hr := h.rm (by omega)
  have hlen : (L ++ [x]).length = L.length + 1 := by simp
  have hm := hr.more (g := g) (c' := c') (x := x) hg (by rw [hlen]; exact hr.rng.push hox hf hfr hst hg)
  refine ⟨(fun h => by omega), ?_, h.f25, (fun _ h => by omega), fun _ => ⟨g, c', x, hx, by rw [hlen], fun _ => hm, (fun h => by omega)⟩, (fun h => by omega), fun _ => rfl⟩
  refine (hg.block Q (Array.getElem?_eq_some_iff.1 h.qb).1 fun e => ?_).trans h.qb
  have := hqL Q e.symm
  omega
theorem rq_p6 (h : RqSt V b kv p c L ks rt rv tm Q 3 f t25 t27 t28 t29 t30 w) : RqSt V b kv p c L ks rt rv tm Q 4 f t25 t27 t28 t29 (.pointer (some ⟨b, 1, none⟩)) w := by
  obtain ⟨g, c', x, h1, h2, h3, _⟩ := h.m29 (by omega)
  exact ⟨(fun h => by omega), h.qb, h.f25, (fun _ h => by omega), fun _ => ⟨g, c', x, h1, h2, fun _ => h3 (by omega), (fun h => by omega)⟩, fun _ => rfl, fun _ => h.d25 (by omega)⟩
theorem rq_s7 (h : RqSt V b kv p c L ks rt rv tm Q 4 f t25 t27 t28 t29 t30 w) (hbQ : b < Q) : RqSt V b kv p c L ks rt rv tm Q 5 f t25 t27 t28 t29 t30 (w.setCell ⟨b, 1, none⟩ t29) := by
  obtain ⟨g, c', x, h1, h2, h3, _⟩ := h.m29 (by omega)
  refine ⟨(fun h => by omega), ?_, h.f25, (fun _ h => by omega), fun _ => ⟨g, c', x, h1, h2, (fun h => by omega), fun _ => ?_⟩, fun _ => h.p30 (by omega), fun _ => h.d25 (by omega)⟩
  · rw [heap_setCell_other _ _ Q _ (by show Q ≠ b; omega)]
    exact h.qb
  · rw [h2]
    exact (h3 (by omega)).2
end

end Go.Proofs.Ytmihddbnddgfhaa

/-
  Package track (stage 13): own, a copy of a done one; a copy of a list of done ones.
-/
namespace Go.Proofs.Ytmihddbnddgfhaa
open Go.RowKit

/-- A done one in memory of its own. -/
def QD : MadeK Dx where
  E N w x := DOwn N w x ∧ SzD x.m x.cs ∧ (0 ≤ x.snap ∧ x.snap ≤ 18446744073709551615) ∧ 0 ≤ x.stamp ∧ x.stamp ≤ 18446744073709551615
  Blk x k := BlkD13 x k
  fr h f hP := ⟨h.1.frB f hP, h.2⟩
  blk h k hk := h.1.blk k hk
  weak h hM := ⟨h.1.weak hM, h.2⟩

theorem enters_ownD : ∀ args w, (callFunc 33 args).run Try.prog w = .ok (.enter 33 args) w := enters_of Try.func33 (by kernel_rfl) rfl
theorem ownK_fr {α : Type} {K : Kind α} {N : Nat} {w w' : World} {v : Value} {d : List α} {P : Nat → Prop} (h : K.Own N w v d) (f : Fr P w w') (hP : ∀ k, P k → k < N) : K.Own N w' v d :=
  f.row (show w.ownsRow N K.T K.k v d.length (K.cells d) from h) fun k hk hp => by
    have h1 := (World.ownsRow.lt (show w.ownsRow N K.T K.k v d.length (K.cells d) from h) k hk).1
    have h2 := hP k hp
    omega

set_option linter.unusedSimpArgs false in
set_option maxHeartbeats 8000000 in
set_option maxRecDepth 100000 in
theorem ownD_any (x : Dx) (w : World) (hx : DIn w x) : Calls Try.prog 33 #[.agg (encDx x).toArray] w fun e w' => MadePost KDx QD Dx.dn w x.dn e w' := by
  obtain ⟨hbV, h1, h2, hs⟩ := two_boxes w (encDx x).toArray #[.int .u64 0, .int .u64 0, .bool false, .slice none 0 0, .slice none 0 0, .slice none 0 0] 35 35
  obtain ⟨V, hV⟩ : ∃ V, (w.alloc (.cells (encDx x).toArray 35)).alloc (.cells #[.int .u64 0, .int .u64 0, .bool false, .slice none 0 0, .slice none 0 0, .slice none 0 0] 35) = V := ⟨_, rfl⟩
  obtain ⟨M, hM⟩ : ∃ M, w.heap.size = M := ⟨_, rfl⟩
  rw [hV] at hbV h1 h2 hs
  rw [hM] at h1 h2 hs
  have HX := hid hx
  have HIN : Hid (∀ W, Below w.heap.size w W → MIn W x.m ∧ ChgIn W x.csl x.cs) := fun W hW => ⟨hx.mrk.on hW, hx.chg.on hW⟩
  have HBV := hid hbV
  clear hx hbV
  obtain ⟨xs, xt, xo, ⟨mkp, mkc, mks, mrp, mrc, mrs⟩, xcp, xcc, xcs⟩ := x
  have HK1 := hid (cloneKy_any (.slice mkp mks.length mkc) mks V (HIN.out V HBV.out).1.keys (by have := HX.out.sz.keys; simp only at this; omega))
  have HK2 : Hid (∀ W, Below w.heap.size w W → Calls Try.prog 47 #[.slice mrp mrs.length mrc, .func (.func 48) #[] #[]] W fun e w' => EachPost KRx QR Rx.rg W (mrs.map Rx.rg) e w') := fun W hW => copyR_any _ mrs W (HIN.out W hW).1.rows (HIN.out W hW).1.each (by have := HX.out.sz.rows; simp only at this; omega)
  have HK3 : Hid (∀ W, Below w.heap.size w W → Calls Try.prog 49 #[.slice xcp xcs.length xcc, .func (.func 50) #[] #[]] W fun e w' => EachPost KCx QC Cx.ch W (xcs.map Cx.ch) e w') := fun W hW => copyC_any _ xcs W (HIN.out W hW).2 (by have := HX.out.sz.chg; simp only at this; omega)
  simp only [encDx, Mx.ksl, Mx.rsl, Dx.csl] at *
  have a3 : V.cell? ⟨M, 3, none⟩ = some (.slice mkp mks.length mkc) := by rw [Lib.cell_of_heap h1]; rfl
  have HO1 := hid h1
  have HO2 := hid h2
  clear h1 h2
  go_enter Try.func33, Try.ntmps33
  go_wp2_with fail
  try rw [hV]
  try rw [hM]
  clear hV a3
  refine HK1.out.mono ?_
  rintro e w1 ⟨u1, rfl, ho1, hb1⟩
  obtain ⟨p1, c1, rfl⟩ := Kind.own_shape ho1
  clear HK1
  have e1 := (hb1.block M (by omega)).trans HO1.out
  have e2 := (hb1.block (M + 1) (by omega)).trans HO2.out
  obtain ⟨W1, hW1⟩ : ∃ W', w1.setCell ⟨M, 3, none⟩ (.slice p1 mks.length c1) = W' := ⟨_, rfl⟩
  have q1 : W1.heap[M]? = some (.cells #[.int .u64 xs, .int .u64 xt, .bool xo, .slice p1 mks.length c1, .slice mrp mrs.length mrc, .slice xcp xcs.length xcc] 35 (0, 0)) := by rw [← hW1]; exact heap_setCell_same _ M 3 _ _ _ e1
  have hf : Fr (fun b => b = M) w1 W1 := by rw [← hW1]; exact fr_set w1 M 3 _
  have q2 : W1.heap[M + 1]? = some (.cells #[.int .u64 0, .int .u64 0, .bool false, .slice none 0 0, .slice none 0 0, .slice none 0 0] 35 (0, 0)) := (hf.block (M + 1) (Array.getElem?_eq_some_iff.1 e2).1 (by omega)).trans e2
  have HB1 : Hid (Below w.heap.size w W1) := (bel_then HBV.out HBV.out.size hb1).trans (hf.below (by have := hb1.size; omega) fun k hk => by omega)
  have hs1 : M + 2 ≤ W1.heap.size := by have := hb1.size; have := hf.size; omega
  have HN1 : Hid (KK.Own (M + 2) W1 (.slice p1 mks.length c1) mks) := by
    have := ownK_fr ho1 hf fun k hk => by omega
    rw [hs] at this
    exact this
  have HP1 := hid q1
  have HZ1 := hid q2
  have k0 : w1.cell? ⟨M, 3, none⟩ = some (.slice mkp mks.length mkc) := by rw [Lib.cell_of_heap e1]; rfl
  have z0 : w1.frozen? ⟨M, 3, none⟩ = false := Lib.frozen_of_heap e1 3
  have d0 : W1.cell? ⟨M, 4, none⟩ = some (.slice mrp mrs.length mrc) := by rw [Lib.cell_of_heap q1]; rfl
  have HQ := hid (HK2.out W1 HB1.out)
  clear e1 e2 q1 q2 hf hb1 ho1 HK2
  go_wp2_with fail
  try rw [hW1]
  clear k0 z0 hW1 d0
  refine HQ.out.mono ?_
  rintro e w2 ⟨p2, c2, L2, rfl, hst2, hm2⟩
  have hb2 : Below W1.heap.size W1 w2 := hst2.row.bel
  clear HQ
  have e1 := (hb2.block M (by omega)).trans HP1.out
  have e2 := (hb2.block (M + 1) (by omega)).trans HZ1.out
  obtain ⟨W2, hW2⟩ : ∃ W', w2.setCell ⟨M, 4, none⟩ (.slice p2 L2.length c2) = W' := ⟨_, rfl⟩
  have q1 : W2.heap[M]? = some (.cells #[.int .u64 xs, .int .u64 xt, .bool xo, .slice p1 mks.length c1, .slice p2 L2.length c2, .slice xcp xcs.length xcc] 35 (0, 0)) := by rw [← hW2]; exact heap_setCell_same _ M 4 _ _ _ e1
  have hf : Fr (fun b => b = M) w2 W2 := by rw [← hW2]; exact fr_set w2 M 4 _
  have q2 : W2.heap[M + 1]? = some (.cells #[.int .u64 0, .int .u64 0, .bool false, .slice none 0 0, .slice none 0 0, .slice none 0 0] 35 (0, 0)) := (hf.block (M + 1) (Array.getElem?_eq_some_iff.1 e2).1 (by omega)).trans e2
  have HB2 : Hid (Below w.heap.size w W2) := (bel_then HB1.out HB1.out.size hb2).trans (hf.below (by have := hb2.size; omega) fun k hk => by omega)
  have hs2 : M + 2 ≤ W2.heap.size := by have := hb2.size; have := hf.size; omega
  have HN1' : Hid (KK.Own (M + 2) W2 (.slice p1 mks.length c1) mks) := ownK_fr (Kind.own_on HN1.out hb2) hf fun k hk => by omega
  have HN2 : Hid (EachSt KRx QR W1 L2 p2 c2 w2 ∧ KRx.Own (M + 2) W2 (.slice p2 L2.length c2) L2 ∧ ∀ r ∈ L2, QR.E (M + 2) W2 r) :=
    ⟨hst2, Kind.own_weak (ownK_fr hst2.row.own hf fun k hk => by omega) hs1, fun r hr => QR.weak (QR.fr (hst2.each r hr).1 hf fun k hk hp => by have := (QR.blk (hst2.each r hr).1 k hk).1; omega) hs1⟩
  have HP2 := hid q1
  have HZ2 := hid q2
  have k0 : w2.cell? ⟨M, 4, none⟩ = some (.slice mrp mrs.length mrc) := by rw [Lib.cell_of_heap e1]; rfl
  have z0 : w2.frozen? ⟨M, 4, none⟩ = false := Lib.frozen_of_heap e1 4
  have d0 : W2.cell? ⟨M, 5, none⟩ = some (.slice xcp xcs.length xcc) := by rw [Lib.cell_of_heap q1]; rfl
  have HQ := hid (HK3.out W2 HB2.out)
  clear e1 e2 q1 q2 hf hb2 hst2 HK3
  go_wp2_with fail
  try rw [hW2]
  clear k0 z0 hW2 d0
  refine HQ.out.mono ?_
  rintro e w3 ⟨p3, c3, L3, rfl, hst3, hm3⟩
  have hb3 : Below W2.heap.size W2 w3 := hst3.row.bel
  clear HQ
  have e1 := (hb3.block M (by omega)).trans HP2.out
  have e2 := (hb3.block (M + 1) (by omega)).trans HZ2.out
  obtain ⟨W3, hW3⟩ : ∃ W', w3.setCell ⟨M, 5, none⟩ (.slice p3 L3.length c3) = W' := ⟨_, rfl⟩
  have q1 : W3.heap[M]? = some (.cells #[.int .u64 xs, .int .u64 xt, .bool xo, .slice p1 mks.length c1, .slice p2 L2.length c2, .slice p3 L3.length c3] 35 (0, 0)) := by rw [← hW3]; exact heap_setCell_same _ M 5 _ _ _ e1
  have hf : Fr (fun b => b = M) w3 W3 := by rw [← hW3]; exact fr_set w3 M 5 _
  have q2 : W3.heap[M + 1]? = some (.cells #[.int .u64 0, .int .u64 0, .bool false, .slice none 0 0, .slice none 0 0, .slice none 0 0] 35 (0, 0)) := (hf.block (M + 1) (Array.getElem?_eq_some_iff.1 e2).1 (by omega)).trans e2
  have HB3 : Hid (Below w.heap.size w W3) := (bel_then HB2.out HB2.out.size hb3).trans (hf.below (by have := hb3.size; omega) fun k hk => by omega)
  have hs3 : M + 2 ≤ W3.heap.size := by have := hb3.size; have := hf.size; omega
  have HN1'' : Hid (KK.Own (M + 2) W3 (.slice p1 mks.length c1) mks) := ownK_fr (Kind.own_on HN1'.out hb3) hf fun k hk => by omega
  have HN2' : Hid (KRx.Own (M + 2) W3 (.slice p2 L2.length c2) L2 ∧ ∀ r ∈ L2, QR.E (M + 2) W3 r) :=
    ⟨ownK_fr (Kind.own_on HN2.out.2.1 hb3) hf fun k hk => by omega, fun r hr => by
      have h9 := MadeK.on (HN2.out.2.2 r hr) hb3
      exact QR.fr h9 hf fun k hk hp => by have := (QR.blk h9 k hk).1; omega⟩
  have HN3 : Hid (KCx.Own (M + 2) W3 (.slice p3 L3.length c3) L3 ∧ (∀ r ∈ L3, QC.E (M + 2) W3 r) ∧ L3.Pairwise fun c d => ∀ k, BlkCx c k → ¬ BlkCx d k) :=
    ⟨Kind.own_weak (ownK_fr hst3.row.own hf fun k hk => by omega) hs2, fun r hr => QC.weak (QC.fr (hst3.each r hr).1 hf fun k hk hp => by have := (QC.blk (hst3.each r hr).1 k hk).1; omega) hs2, hst3.apart⟩
  have HP3 := hid q1
  have HZ3 := hid q2
  have k0 : w3.cell? ⟨M, 5, none⟩ = some (.slice xcp xcs.length xcc) := by rw [Lib.cell_of_heap e1]; rfl
  have z0 : w3.frozen? ⟨M, 5, none⟩ = false := Lib.frozen_of_heap e1 5
  obtain ⟨W4, hW4⟩ : ∃ W', ((((((W3.setCell ⟨M + 1, 0, none⟩ (.int .u64 xs)).setCell ⟨M + 1, 1, none⟩ (.int .u64 xt)).setCell ⟨M + 1, 2, none⟩ (.bool xo)).setCell ⟨M + 1, 3, none⟩ (.slice p1 mks.length c1)).setCell ⟨M + 1, 4, none⟩ (.slice p2 L2.length c2)).setCell ⟨M + 1, 5, none⟩ (.slice p3 L3.length c3)) = W' := ⟨_, rfl⟩
  have q3 : W4.heap[M + 1]? = some (.cells #[.int .u64 xs, .int .u64 xt, .bool xo, .slice p1 mks.length c1, .slice p2 L2.length c2, .slice p3 L3.length c3] 35 (0, 0)) := by
    rw [← hW4]
    exact heap_setCell_same _ (M + 1) 5 _ _ _ (heap_setCell_same _ (M + 1) 4 _ _ _ (heap_setCell_same _ (M + 1) 3 _ _ _ (heap_setCell_same _ (M + 1) 2 _ _ _ (heap_setCell_same _ (M + 1) 1 _ _ _ (heap_setCell_same _ (M + 1) 0 _ _ _ (q2))))))
  have hf4 : Fr (fun b => b = M + 1) W3 W4 := by
    rw [← hW4]
    exact ((((((fr_set W3 (M + 1) 0 _).then (fr_set _ (M + 1) 1 _) fun k hk => Or.inl hk).then (fr_set _ (M + 1) 2 _) fun k hk => Or.inl hk).then (fr_set _ (M + 1) 3 _) fun k hk => Or.inl hk).then (fr_set _ (M + 1) 4 _) fun k hk => Or.inl hk).then (fr_set _ (M + 1) 5 _) fun k hk => Or.inl hk)
  have HD : Hid (QD.E w.heap.size W4 ⟨xs, xt, xo, ⟨p1, c1, mks, p2, c2, L2⟩, p3, c3, L3⟩ ∧ Below w.heap.size w W4) := by
    have hd : DOwn (M + 2) W3 ⟨xs, xt, xo, ⟨p1, c1, mks, p2, c2, L2⟩, p3, c3, L3⟩ := ⟨⟨HN1''.out, HN2'.out.1, HN2'.out.2, HN2.out.1.apart⟩, HN3.out.1, HN3.out.2.1, HN3.out.2.2⟩
    refine ⟨⟨(hd.fr hf4 fun k hk => by omega).weak (by omega), HX.out.sz.same ?_ hm3 fun y hy => ⟨(HN3.out.2.1 y hy).wcp, (HN3.out.2.1 y hy).icp⟩, HX.out.snap, HX.out.stamp⟩, HB3.out.trans (hf4.below HB3.out.size fun k hk => by omega)⟩
    show (mks, L2.map Rx.rg) = (mks, mrs.map Rx.rg)
    rw [hm2]
  have HDN : Hid ((⟨xs, xt, xo, ⟨p1, c1, mks, p2, c2, L2⟩, p3, c3, L3⟩ : Dx).dn = (⟨xs, xt, xo, ⟨mkp, mkc, mks, mrp, mrc, mrs⟩, xcp, xcc, xcs⟩ : Dx).dn) := by
    show _ = _
    simp only [Dx.dn, Mx.mk', hm2, hm3]
  have d0 : W3.cell? ⟨M, 0, none⟩ = some (.int .u64 xs) := by rw [Lib.cell_of_heap q1]; rfl
  have d1 : W3.cell? ⟨M, 1, none⟩ = some (.int .u64 xt) := by rw [Lib.cell_of_heap q1]; rfl
  have d2 : W3.cell? ⟨M, 2, none⟩ = some (.bool xo) := by rw [Lib.cell_of_heap q1]; rfl
  have d3 : W3.cell? ⟨M, 3, none⟩ = some (.slice p1 mks.length c1) := by rw [Lib.cell_of_heap q1]; rfl
  have d4 : W3.cell? ⟨M, 4, none⟩ = some (.slice p2 L2.length c2) := by rw [Lib.cell_of_heap q1]; rfl
  have d5 : W3.cell? ⟨M, 5, none⟩ = some (.slice p3 L3.length c3) := by rw [Lib.cell_of_heap q1]; rfl
  have t0 : W3.cell? ⟨M + 1, 0, none⟩ = some (.int .u64 0) := by rw [Lib.cell_of_heap q2]; rfl
  have t1 : W3.cell? ⟨M + 1, 1, none⟩ = some (.int .u64 0) := by rw [Lib.cell_of_heap q2]; rfl
  have t2 : W3.cell? ⟨M + 1, 2, none⟩ = some (.bool false) := by rw [Lib.cell_of_heap q2]; rfl
  have t3 : W3.cell? ⟨M + 1, 3, none⟩ = some (.slice none 0 0) := by rw [Lib.cell_of_heap q2]; rfl
  have t4 : W3.cell? ⟨M + 1, 4, none⟩ = some (.slice none 0 0) := by rw [Lib.cell_of_heap q2]; rfl
  have t5 : W3.cell? ⟨M + 1, 5, none⟩ = some (.slice none 0 0) := by rw [Lib.cell_of_heap q2]; rfl
  have r0 : W3.frozen? ⟨M + 1, 0, none⟩ = false := Lib.frozen_of_heap q2 0
  have r1 : W3.frozen? ⟨M + 1, 1, none⟩ = false := Lib.frozen_of_heap q2 1
  have r2 : W3.frozen? ⟨M + 1, 2, none⟩ = false := Lib.frozen_of_heap q2 2
  have r3 : W3.frozen? ⟨M + 1, 3, none⟩ = false := Lib.frozen_of_heap q2 3
  have r4 : W3.frozen? ⟨M + 1, 4, none⟩ = false := Lib.frozen_of_heap q2 4
  have r5 : W3.frozen? ⟨M + 1, 5, none⟩ = false := Lib.frozen_of_heap q2 5
  have HE : Hid (W4.cell? ⟨M + 1, 0, none⟩ = some (.int .u64 xs) ∧ W4.cell? ⟨M + 1, 1, none⟩ = some (.int .u64 xt) ∧ W4.cell? ⟨M + 1, 2, none⟩ = some (.bool xo) ∧ W4.cell? ⟨M + 1, 3, none⟩ = some (.slice p1 mks.length c1) ∧ W4.cell? ⟨M + 1, 4, none⟩ = some (.slice p2 L2.length c2) ∧ W4.cell? ⟨M + 1, 5, none⟩ = some (.slice p3 L3.length c3)) := ⟨by rw [Lib.cell_of_heap q3]; rfl, by rw [Lib.cell_of_heap q3]; rfl, by rw [Lib.cell_of_heap q3]; rfl, by rw [Lib.cell_of_heap q3]; rfl, by rw [Lib.cell_of_heap q3]; rfl, by rw [Lib.cell_of_heap q3]; rfl⟩
  clear e1 e2 q1 q2 q3 hf hf4 hb3 hst3 hm2 hm3
  go_upto_region 4 with fail
  try rw [hW3]
  clear k0 z0 hW3
  go_wp2_with fail
  try rw [hW4]
  obtain ⟨g0, g1, g2, g3, g4, g5⟩ := HE.out
  exact bodyPost_ret (v := .agg #[.int .u64 xs, .int .u64 xt, .bool xo, .slice p1 mks.length c1, .slice p2 L2.length c2, .slice p3 L3.length c3]) (by simp [results, Try.results33, go_sem, g0, g1, g2, g3, g4, g5]) rfl ⟨⟨xs, xt, xo, ⟨p1, c1, mks, p2, c2, L2⟩, p3, c3, L3⟩, rfl, HD.out.1, HDN.out, HD.out.2⟩

/-- Done ones, copied. -/
theorem copyD_any (v : Value) (l : List Dx) (w : World) (hv : KDx.Is w v l) (he : ∀ x ∈ l, DIn w x) (hl : l.length * 96 ≤ 140737488355328) :
    Calls Try.prog 32 #[v, .func (.func 33) #[] #[]] w fun e w' => EachPost KDx QD Dx.dn w (l.map Dx.dn) e w' :=
  eachD_any QD Dx.dn _ enters_ownD v l w hv hl fun W x hW hx => ownD_any x W ((he x hx).on hW)

end Go.Proofs.Ytmihddbnddgfhaa

/-
  Package track (stage 13), without the program: done ones whose stamps rise, cut in two at a stamp; what is seen of those behind the cut.
-/
namespace Go.Proofs.Ytmihddbnddgfhaa

/-- The first k of l are all that have stamps of s or less. -/
structure CutT (l : List Dn) (s : Int) (k : Nat) : Prop where
  le : k ≤ l.length
  low : ∀ d ∈ l.take k, d.stamp ≤ s
  up : ∀ d ∈ l.drop k, s < d.stamp

theorem cut_rise {l : List Dn} {s : Int} {k : Nat} (hr : l.Pairwise fun a b => a.stamp ≤ b.stamp) (hk : k ≤ l.length) (h1 : ∀ d ∈ l.take k, d.stamp ≤ s) (h2 : (h : k < l.length) → s < (l[k]).stamp) : CutT l s k := by
  refine ⟨hk, h1, fun d hd => ?_⟩
  obtain ⟨i, hi, rfl⟩ := List.mem_iff_getElem.1 hd
  rw [List.length_drop] at hi
  rw [List.getElem_drop]
  have hkl : k < l.length := by omega
  have h3 := h2 hkl
  rcases Nat.eq_zero_or_pos i with h0 | h0
  · subst h0
    exact h3
  · have := List.pairwise_iff_getElem.1 hr k (k + i) hkl (by omega) (by omega)
    omega

section
variable {l : List Dn} {s : Int} {k : Nat}
theorem CutT.filter (h : CutT l s k) : (l.filter fun d => decide (s < d.stamp)) = l.drop k := by
  have h0 : l = l.take k ++ l.drop k := (List.take_append_drop k l).symm
  have e1 : ((l.take k).filter fun d => decide (s < d.stamp)) = [] := by
    rw [List.filter_eq_nil_iff]
    intro d hd
    have := h.low d hd
    simp only [decide_eq_true_eq]
    omega
  have e2 : ((l.drop k).filter fun d => decide (s < d.stamp)) = l.drop k := by
    rw [List.filter_eq_self]
    intro d hd
    exact decide_eq_true (h.up d hd)
  have e3 : (l.filter fun d => decide (s < d.stamp)) = ((l.take k ++ l.drop k).filter fun d => decide (s < d.stamp)) := by rw [List.take_append_drop]
  rw [e3, List.filter_append, e1, e2, List.nil_append]
theorem CutT.any (h : CutT l s k) (f : Dn → Bool) : (l.any fun d => besideT s d && f d) = (l.drop k).any f := by
  have e1 : ((l.take k).any fun d => besideT s d && f d) = false := by
    rw [List.any_eq_false]
    intro d hd
    have := h.low d hd
    unfold besideT
    rw [decide_eq_false (by omega)]
    simp
  have e2 : ((l.drop k).any fun d => besideT s d && f d) = (l.drop k).any f := by
    have : ∀ m : List Dn, (∀ d ∈ m, s < d.stamp) → (m.any fun d => besideT s d && f d) = m.any f := fun m => by
      induction m with
      | nil => intro _; rfl
      | cons a m ih =>
        intro hm
        rw [List.any_cons, List.any_cons, ih fun d hd => hm d (List.mem_cons_of_mem _ hd)]
        unfold besideT
        rw [decide_eq_true (hm a (List.mem_cons_self ..)), Bool.true_and]
    exact this _ h.up
  have e3 : (l.any fun d => besideT s d && f d) = ((l.take k ++ l.drop k).any fun d => besideT s d && f d) := by rw [List.take_append_drop]
  rw [e3, List.any_append, e1, e2, Bool.false_or]
theorem CutT.kept (h : CutT l s k) (t : Tk) (ht : t.kept = l) : (dropT t s).kept = l.drop k := by
  show t.kept.filter _ = _
  rw [ht]
  exact h.filter
end

/-- What was seen of the first of those beside. -/
structure SeenT (m : Mk) (c : List Ch) (l : List Dn) (out inn : Bool) : Prop where
  hout : out = l.any fun d => hitsM m d.chg
  hinn : inn = l.any fun d => hitsM d.marks c
  deep : (l.any fun d => hitsM m d.chg && d.out) = false
  both : (out && inn) = false

theorem seen_nil (m : Mk) (c : List Ch) : SeenT m c [] false false := ⟨rfl, rfl, rfl, rfl⟩
theorem SeenT.snoc {m : Mk} {c : List Ch} {l : List Dn} {out inn : Bool} (h : SeenT m c l out inn) (d : Dn) {a b : Bool} (ha : hitsM m d.chg = a) (hb : (inn || hitsM d.marks c) = b) (h1 : (a && d.out) = false) (h2 : ((out || a) && b) = false) : SeenT m c (l ++ [d]) (out || a) b := by
  subst ha hb
  refine ⟨?_, ?_, ?_, h2⟩
  · rw [List.any_append, ← h.hout]; simp
  · rw [List.any_append, ← h.hinn]; simp
  · rw [List.any_append, h.deep]; simpa using h1

/-- One that clashes, whatever comes behind it. -/
theorem SeenT.clash {m : Mk} {c : List Ch} {l : List Dn} {out inn : Bool} (h : SeenT m c l out inn) (d : Dn) (r : List Dn) {a b : Bool} (ha : hitsM m d.chg = a) (hb : (inn || hitsM d.marks c) = b) (h1 : (a && d.out) = true ∨ ((out || a) && b) = true) :
    (((l ++ d :: r).any fun d => hitsM m d.chg && d.out) || (((l ++ d :: r).any fun d => hitsM m d.chg) && (l ++ d :: r).any fun d => hitsM d.marks c)) = true := by
  subst ha hb
  rw [List.any_append, List.any_append, List.any_append, List.any_cons, List.any_cons, List.any_cons, h.deep, ← h.hout, ← h.hinn]
  revert h1
  generalize hitsM m d.chg = A
  generalize hitsM d.marks c = B
  generalize d.out = O
  generalize (r.any fun d => hitsM m d.chg && d.out) = R1
  generalize (r.any fun d => hitsM m d.chg) = R2
  generalize (r.any fun d => hitsM d.marks c) = R3
  cases A <;> cases B <;> cases O <;> cases out <;> cases inn <;> cases R1 <;> cases R2 <;> cases R3 <;> decide

theorem check_is {t : Tk} {s : Int} {k : Nat} (h : CutT t.kept s k) (m : Mk) (c : List Ch) (hs : ¬ s < t.sum) :
    checkT t s m c = if (((t.kept.drop k).any fun d => hitsM m d.chg && d.out) || (((t.kept.drop k).any fun d => hitsM m d.chg) && (t.kept.drop k).any fun d => hitsM d.marks c)) = true then (false, 11) else ((t.kept.drop k).any fun d => hitsM m d.chg, 0) := by
  unfold checkT clashT deepT outT inT
  rw [decide_eq_false hs, Bool.false_or, h.any fun d => hitsM m d.chg && d.out, h.any fun d => hitsM m d.chg, h.any fun d => hitsM d.marks c]
theorem check_low {t : Tk} {s : Int} (m : Mk) (c : List Ch) (hs : s < t.sum) : checkT t s m c = (false, 11) := by
  unfold checkT clashT
  rw [decide_eq_true hs, Bool.true_or, Bool.true_or, if_pos rfl]
theorem SeenT.check {t : Tk} {s : Int} {k : Nat} (h : CutT t.kept s k) {m : Mk} {c : List Ch} (hs : ¬ s < t.sum) {out inn : Bool} (hz : SeenT m c (t.kept.drop k) out inn) : checkT t s m c = (out, 0) := by
  rw [check_is h m c hs, hz.deep, ← hz.hout, ← hz.hinn, hz.both]
  rfl

end Go.Proofs.Ytmihddbnddgfhaa

/-
  Package track (stage 13): slices.IndexFunc at done ones, through; the tracker in memory: New, kept, Len, Summary, List.
-/
namespace Go.Proofs.Ytmihddbnddgfhaa
open Go.RowKit

/-- n is the place of the first element of l that f takes, or -1. -/
def IdxP {α : Type} (f : α → Bool) (l : List α) (n : Int) : Prop := (n = -1 ∧ ∀ x ∈ l, f x = false) ∨ ∃ j : Nat, n = j ∧ j < l.length ∧ (∀ x ∈ l.take j, f x = false) ∧ ∀ h : j < l.length, f l[j] = true

set_option maxHeartbeats 4000000 in
set_option maxRecDepth 100000 in
theorem idxD_any (f : Dx → Bool) (k : Nat) (lb : Array Value) (eg : ∀ args w, (callFunc k args).run Try.prog w = .ok (.enter k args) w) (v : Value) (l : List Dx) (w : World) (hv : KDx.Is w v l) (hl : l.length ≤ 9000000000000000000)
    (hk : ∀ (W : World) (x : Dx), Below w.heap.size w W → x ∈ l → Calls Try.prog k (#[.agg (encDx x).toArray] ++ lb) W fun e w' => e = .returned (.bool (f x)) ∧ Below W.heap.size W w') :
    Calls Try.prog 54 #[v, .func (.func k) #[] lb] w fun e w' => (∃ n : Int, e = .returned (.int .i64 n) ∧ IdxP f l n) ∧ Below w.heap.size w w' := by
  obtain ⟨p, cap, rfl, hd⟩ := hv
  have HD := hid hd
  have HK := hid hk
  clear hd hk
  go_enter Try.func54, Try.ntmps54
  go_wp2_with fail
  go_loopg [8] l.length (fun gg vi wr => ∃ i : Nat, vi = .int .i64 i ∧ i ≤ l.length ∧ l.length - i ≤ gg ∧ Hid (Below w.heap.size w wr ∧ ∀ x ∈ l.take i, f x = false))
  case atStart => exact ⟨0, rfl, by omega, by omega, Below.refl _ _, fun x hx => by simp at hx⟩
  case round =>
    obtain ⟨i, rfl, hi, hgk, HI⟩ := hrel
    by_cases hlt : i < l.length
    · have hltz : (i : Int) < (l.length : Int) := by omega
      have hiz : (0 : Int) ≤ i := by omega
      obtain ⟨b1, o1, rfl, k1⟩ : ∃ b off, p = some ⟨b, off, none⟩ ∧ KDx.At w b off l := by
        rcases HD.out with h | h
        · rw [h] at hlt; simp at hlt
        · exact h
      obtain ⟨y0, y1, y2, y3, y4, y5⟩ := kdx_at (Kind.at_kept k1 HI.out.1) i hlt
      have hmem : l[i] ∈ l := List.getElem_mem hlt
      have htk : l.take (i + 1) = l.take i ++ [l[i]] := List.take_succ_eq_append_getElem hlt
      have HC := hid (HK.out wr l[i] HI.out.1 hmem)
      have HNO : Hid (f l[i] = false → ∀ x ∈ l.take (i + 1), f x = false) := fun h x hx => by
        rw [htk] at hx
        rcases List.mem_append.1 hx with hx | hx
        · exact HI.out.2 x hx
        · rw [List.mem_singleton.1 hx]; exact h
      have HYES : Hid (f l[i] = true → IdxP f l (i : Int)) := fun h => Or.inr ⟨i, rfl, hlt, HI.out.2, fun _ => h⟩
      have HB := hid HI.out.1
      clear HI k1 hmem htk
      generalize l[i] = x at *
      cases hq : f x with
      | true =>
        rw [hq] at HC
        have HY := hid (HYES.out hq)
        clear HNO HYES hq
        obtain ⟨xs, xt, xo, ⟨mkp, mkc, mks, mrp, mrc, mrs⟩, xcp, xcc, xcs⟩ := x
        simp only [encDx, Mx.ksl, Mx.rsl, Dx.csl] at *
        go_wp2_with (go_at_fn k; refine HC.out.mono ?_; rintro e w1 ⟨rfl, hb1⟩)
        go_ret
        exact ⟨⟨i, rfl, HY.out⟩, bel_then HB.out HB.out.size hb1⟩
      | false =>
        rw [hq] at HC
        have HN := hid (HNO.out hq)
        clear HNO HYES hq
        obtain ⟨xs, xt, xo, ⟨mkp, mkc, mks, mrp, mrc, mrs⟩, xcp, xcc, xcs⟩ := x
        simp only [encDx, Mx.ksl, Mx.rsl, Dx.csl] at *
        go_wp2_with (go_at_fn k; refine HC.out.mono ?_; rintro e w1 ⟨rfl, hb1⟩)
        have HB1 := hid (bel_then HB.out HB.out.size hb1)
        clear hb1
        go_roundg (l.length - (i + 1))
        case measure => omega
        exact ⟨i + 1, by go_num, by omega, by omega, HB1.out, HN.out⟩
    · have hltz : ¬ (i : Int) < (l.length : Int) := by omega
      have hti : l.take i = l := List.take_of_length_le (by omega)
      rw [hti] at HI
      go_wp2_with fail
      go_ret
      exact ⟨⟨-1, rfl, Or.inl ⟨rfl, HI.out.2⟩⟩, HI.out.1⟩

theorem enters_thr : ∀ args w, (callFunc 55 args).run Try.prog w = .ok (.enter 55 args) w := enters_of Try.func55 (by kernel_rfl) rfl

set_option maxHeartbeats 2000000 in
set_option maxRecDepth 100000 in
theorem thr1_any (x : Dx) (s : Int) (M : Nat) (w : World) (hM : w.heap[M]? = some (.cells #[.int .u64 s] 28 (0, 0))) :
    Calls Try.prog 55 #[.agg (encDx x).toArray, .pointer (some ⟨M, 0, none⟩)] w fun e w' => e = .returned (.bool (decide (s < x.stamp))) ∧ Below w.heap.size w w' := by
  obtain ⟨hb, h1, hs⟩ := one_box w (encDx x).toArray 35
  obtain ⟨V, hV⟩ : ∃ V, w.alloc (.cells (encDx x).toArray 35) = V := ⟨_, rfl⟩
  rw [hV] at hb h1 hs
  have hlt : M < w.heap.size := (Array.getElem?_eq_some_iff.1 hM).1
  have h2 := (hb.block M hlt).trans hM
  have HB := hid hb
  obtain ⟨K, hK⟩ : ∃ K, w.heap.size = K := ⟨_, rfl⟩
  rw [hK] at h1
  obtain ⟨xs, xt, xo, ⟨mkp, mkc, mks, mrp, mrc, mrs⟩, xcp, xcc, xcs⟩ := x
  simp only [encDx, Mx.ksl, Mx.rsl, Dx.csl] at *
  have c1 : V.cell? ⟨K, 1, none⟩ = some (.int .u64 xt) := by rw [Lib.cell_of_heap h1]; rfl
  have d0 : V.cell? ⟨M, 0, none⟩ = some (.int .u64 s) := by rw [Lib.cell_of_heap h2]; rfl
  clear hM h1 h2 hb hs
  go_enter Try.func55, Try.ntmps55
  go_wp2_with fail
  try rw [hV]
  go_ret
  exact ⟨rfl, HB.out⟩

/-- How many have stamps of s or less, where stamps rise. -/
def ThrP (l : List Dx) (s : Int) (k : Nat) : Prop := k ≤ l.length ∧ (∀ x ∈ l.take k, x.stamp ≤ s) ∧ ∀ h : k < l.length, s < (l[k]).stamp

set_option maxHeartbeats 2000000 in
set_option maxRecDepth 100000 in
theorem through_any (v : Value) (l : List Dx) (s : Int) (w : World) (hv : KDx.Is w v l) (hl : l.length ≤ 9000000000000000000) :
    Calls Try.prog 36 #[v, .int .u64 s] w fun e w' => (∃ k : Nat, e = .returned (.int .i64 k) ∧ ThrP l s k) ∧ Below w.heap.size w w' := by
  obtain ⟨hb, h1, hs⟩ := one_box w #[.int .u64 s] 28
  obtain ⟨V, hV⟩ : ∃ V, w.alloc (.cells #[.int .u64 s] 28) = V := ⟨_, rfl⟩
  obtain ⟨M, hM⟩ : ∃ M, w.heap.size = M := ⟨_, rfl⟩
  rw [hV] at hb h1 hs
  rw [hM] at h1 hs
  have HX := hid (idxD_any (fun x => decide (s < x.stamp)) 55 #[.pointer (some ⟨M, 0, none⟩)] enters_thr v l V (Kind.is_kept hv hb) hl (fun W x hW hx => thr1_any x s M W ((hW.block M (by omega)).trans h1)))
  have HB := hid hb
  obtain ⟨p, cap, rfl, _⟩ := hv
  clear hb h1 hs
  go_enter Try.func36, Try.ntmps36
  go_wp2_with fail
  try rw [hV]
  try rw [hM]
  refine HX.out.mono ?_
  rintro e w1 ⟨⟨n, rfl, hn⟩, hb1⟩
  have HB1 := hid (bel_then HB.out HB.out.size hb1)
  clear hb1 HX
  rcases hn with ⟨rfl, hno⟩ | ⟨j, rfl, hj, hlow, hat⟩
  · have HR : Hid (ThrP l s l.length) := ⟨Nat.le_refl _, fun x hx => by
      rw [List.take_length] at hx
      have := of_decide_eq_false (hno x hx)
      omega, fun h => by omega⟩
    clear hno
    go_wp2_with fail
    go_ret
    exact ⟨⟨l.length, rfl, HR.out⟩, HB1.out⟩
  · have HR : Hid (ThrP l s j) := ⟨by omega, fun x hx => by
      have := of_decide_eq_false (hlow x hx)
      omega, fun h => of_decide_eq_true (hat h)⟩
    have hj0 : ¬ ((j : Int) < 0) := by omega
    clear hlow hat
    go_wp2_with fail
    go_ret
    exact ⟨⟨j, rfl, HR.out⟩, HB1.out⟩

/-- A tracker of the program in block g. -/
structure TrkM (n0 : Nat) (W : World) (g : Nat) (t : Tk) (ds : List Dx) (va : Value) (last : Int) : Prop where
  obj : W.heap[g]? = some (.cells #[.int .i64 (t.most : Nat), va, .int .u64 t.sum, .int .u64 last] 72 (0, 0))
  low : n0 ≤ g
  all : KDx.Own n0 W va ds
  each : ∀ d ∈ ds, QD.E n0 W d
  kept : ds.map Dx.dn = t.kept
  hlast : (t.last = none ∧ last = 0) ∨ t.last = some last
  lastb : 0 ≤ last ∧ last ≤ 18446744073709551615
  sumb : t.sum ≤ 18446744073709551615
  ok : OkT t
  room : t.most ≤ 64

/-- Its blocks. -/
def BlkTr (g : Nat) (ds : List Dx) (va : Value) (k : Nat) : Prop := k = g ∨ va.ownBlock = some k ∨ ∃ d ∈ ds, BlkD13 d k

section
variable {n0 : Nat} {W : World} {g : Nat} {t : Tk} {ds : List Dx} {va : Value} {last : Int}
theorem TrkM.lt (h : TrkM n0 W g t ds va last) : g < W.heap.size := (Array.getElem?_eq_some_iff.1 h.obj).1
theorem TrkM.len (h : TrkM n0 W g t ds va last) : ds.length = t.kept.length := by rw [← h.kept, List.length_map]
theorem TrkM.few (h : TrkM n0 W g t ds va last) : ds.length ≤ 64 := by have := h.len; have := h.ok.few; have := h.room; omega
theorem TrkM.blk (h : TrkM n0 W g t ds va last) (k : Nat) (hk : BlkTr g ds va k) : n0 ≤ k ∧ k < W.heap.size := by
  rcases hk with rfl | hk | ⟨x, hx, hk⟩
  · exact ⟨h.low, h.lt⟩
  · exact World.ownsRow.lt (show W.ownsRow n0 KDx.T KDx.k va ds.length (KDx.cells ds) from h.all) k hk
  · exact QD.blk (h.each x hx) k hk
theorem TrkM.fr {W' : World} {P : Nat → Prop} (h : TrkM n0 W g t ds va last) (f : Fr P W W') (hP : ∀ k, BlkTr g ds va k → ¬ P k) : TrkM n0 W' g t ds va last :=
  ⟨(f.block g h.lt (hP g (Or.inl rfl))).trans h.obj, h.low, f.row (show W.ownsRow n0 KDx.T KDx.k va ds.length (KDx.cells ds) from h.all) fun k hk => hP k (Or.inr (Or.inl hk)), fun x hx => QD.fr (h.each x hx) f fun k hk => hP k (Or.inr (Or.inr ⟨x, hx, hk⟩)), h.kept, h.hlast, h.lastb, h.sumb, h.ok, h.room⟩
theorem TrkM.on {W' : World} (h : TrkM n0 W g t ds va last) (hb : Below W.heap.size W W') : TrkM n0 W' g t ds va last := h.fr (P := fun _ => False) (Fr.of_below hb) fun _ _ k => k
theorem TrkM.shape (h : TrkM n0 W g t ds va last) : ∃ p c, va = .slice p ds.length c := Kind.own_shape h.all
theorem TrkM.inn (h : TrkM n0 W g t ds va last) : ∀ d ∈ ds, DIn W d := fun d hd => ⟨(h.each d hd).1.inn.1, (h.each d hd).1.inn.2, (h.each d hd).2.1, (h.each d hd).2.2.1, (h.each d hd).2.2.2⟩
/-- Where through cuts. -/
theorem TrkM.cut (h : TrkM n0 W g t ds va last) {s : Int} {k : Nat} (hk : ThrP ds s k) : CutT t.kept s k := by
  have hl := h.len
  refine cut_rise h.ok.rise (by have := hk.1; omega) (fun d hd => ?_) fun hlt => ?_
  · rw [← h.kept, ← List.map_take] at hd
    obtain ⟨x, hx, rfl⟩ := List.mem_map.1 hd
    exact hk.2.1 x hx
  · have h1 : k < ds.length := by omega
    have h2 := hk.2.2 h1
    have e : (t.kept[k]) = (ds[k]).dn := by
      have : t.kept[k]? = some (ds[k]).dn := by rw [← h.kept, List.getElem?_map, List.getElem?_eq_getElem h1]; rfl
      rw [List.getElem?_eq_getElem hlt] at this
      exact Option.some.inj this
    rw [e]
    exact h2
end

set_option maxHeartbeats 4000000 in
set_option maxRecDepth 100000 in
theorem tnew_any (n0 : Nat) (w : World) (hn : n0 ≤ w.heap.size) (most : Int) : Calls Try.prog 10 #[.int .i64 most] w fun e w' => e = .returned (.pointer (some ⟨w.heap.size, 0, none⟩)) ∧ TrkM n0 w' w.heap.size (newT most) [] (.slice none 0 0) 0 ∧ Below w.heap.size w w' := by
  have hfin : ∀ m : Int, m = (roomT most : Nat) → TrkM n0 (w.alloc (.cells #[.int .i64 m, .slice none 0 0, .int .u64 0, .int .u64 0] 72)) w.heap.size (newT most) [] (.slice none 0 0) 0 := fun m hm =>
    ⟨by rw [hm]; exact heap_alloc_new w _, hn, Kind.own_nil _ _ _, (fun d hd => by cases hd), rfl, Or.inl ⟨rfl, rfl⟩, ⟨by omega, by omega⟩, by show (0 : Int) ≤ _; omega, ok_newT most, by show roomT most ≤ 64; unfold roomT; omega⟩
  have hb : ∀ m : Int, Below w.heap.size w (w.alloc (.cells #[.int .i64 m, .slice none 0 0, .int .u64 0, .int .u64 0] 72)) := fun m => (Below.refl _ _).alloc (Nat.le_refl _) _
  have HF := hid hfin
  have HB := hid hb
  clear hfin hb
  have HE : Hid (min (max most 0) 64 = (roomT most : Nat)) := by show _ = _; unfold roomT; omega
  go_enter Try.func10, Try.ntmps10
  go_wp2_with fail
  go_ret
  exact ⟨rfl, HF.out _ HE.out, HB.out _⟩

set_option maxHeartbeats 1000000 in
theorem tkept_any {n0 : Nat} {W : World} {g : Nat} {t : Tk} {ds : List Dx} {va : Value} {last : Int} (h : TrkM n0 W g t ds va last) : Calls Try.prog 29 #[.pointer (some ⟨g, 0, none⟩)] W fun e w' => e = .returned va ∧ Below W.heap.size W w' := by
  obtain ⟨p, c, rfl⟩ := h.shape
  have z0 : W.cell? ⟨g, 1, none⟩ = some (.slice p ds.length c) := by rw [Lib.cell_of_heap h.obj]; rfl
  go_enter Try.func29, Try.ntmps29
  go_wp2_with fail
  go_ret
  exact ⟨rfl, Below.refl _ _⟩
set_option maxHeartbeats 1000000 in
theorem tkept_nil (W : World) : Calls Try.prog 29 #[.pointer none] W fun e w' => e = .returned (.slice none 0 0) ∧ Below W.heap.size W w' := by
  go_enter Try.func29, Try.ntmps29
  go_wp2_with fail
  go_ret
  exact ⟨rfl, Below.refl _ _⟩
set_option maxHeartbeats 1000000 in
theorem tlen_any {n0 : Nat} {W : World} {g : Nat} {t : Tk} {ds : List Dx} {va : Value} {last : Int} (h : TrkM n0 W g t ds va last) : Calls Try.prog 13 #[.pointer (some ⟨g, 0, none⟩)] W fun e w' => e = .returned (.int .i64 (t.kept.length : Nat)) ∧ Below W.heap.size W w' := by
  obtain ⟨p, c, rfl⟩ := h.shape
  have HK := hid (tkept_any h)
  rw [← h.len]
  clear h
  go_enter Try.func13, Try.ntmps13
  go_wp2_with fail
  refine HK.out.mono ?_
  rintro e w1 ⟨rfl, hb1⟩
  have HB := hid hb1
  clear hb1
  go_wp2_with fail
  go_ret
  exact ⟨rfl, HB.out⟩
set_option maxHeartbeats 1000000 in
theorem tlen_nil (W : World) : Calls Try.prog 13 #[.pointer none] W fun e w' => e = .returned (.int .i64 0) ∧ Below W.heap.size W w' := by
  have HK := hid (tkept_nil W)
  go_enter Try.func13, Try.ntmps13
  go_wp2_with fail
  refine HK.out.mono ?_
  rintro e w1 ⟨rfl, hb1⟩
  have HB := hid hb1
  clear hb1
  go_wp2_with fail
  go_ret
  exact ⟨rfl, HB.out⟩
set_option maxHeartbeats 1000000 in
theorem tsum_any {n0 : Nat} {W : World} {g : Nat} {t : Tk} {ds : List Dx} {va : Value} {last : Int} (h : TrkM n0 W g t ds va last) : Calls Try.prog 15 #[.pointer (some ⟨g, 0, none⟩)] W fun e w' => e = .returned (.int .u64 t.sum) ∧ Below W.heap.size W w' := by
  have z0 : W.cell? ⟨g, 2, none⟩ = some (.int .u64 t.sum) := by rw [Lib.cell_of_heap h.obj]; rfl
  go_enter Try.func15, Try.ntmps15
  go_wp2_with fail
  go_ret
  exact ⟨rfl, Below.refl _ _⟩
set_option maxHeartbeats 1000000 in
theorem tsum_nil (W : World) : Calls Try.prog 15 #[.pointer none] W fun e w' => e = .returned (.int .u64 0) ∧ Below W.heap.size W w' := by
  go_enter Try.func15, Try.ntmps15
  go_wp2_with fail
  go_ret
  exact ⟨rfl, Below.refl _ _⟩

theorem list_post {W : World} {l : List Dn} {e : Ending} {w' : World} (h : EachPost KDx QD Dx.dn W l e w') : ListPost W l e w' := by
  obtain ⟨p, c, L, rfl, hst, hm⟩ := h
  exact ⟨_, L, rfl, hst.row.own, fun d hd => ⟨(hst.each d hd).1.1, (hst.each d hd).1.2.1⟩, hst.apart, hm, hst.row.bel⟩
theorem ListPost.back {V W : World} {l : List Dn} {e : Ending} {w' : World} (hb : Below V.heap.size V W) (h : ListPost W l e w') : ListPost V l e w' := by
  obtain ⟨u, ds, rfl, h1, h2, h3, h4, h5⟩ := h
  exact ⟨u, ds, rfl, Kind.own_weak h1 hb.size, fun d hd => ⟨(h2 d hd).1.weak hb.size, (h2 d hd).2⟩, h3, h4, bel_then hb hb.size h5⟩

set_option maxHeartbeats 1000000 in
theorem tlist_any {n0 : Nat} {W : World} {g : Nat} {t : Tk} {ds : List Dx} {va : Value} {last : Int} (h : TrkM n0 W g t ds va last) : Calls Try.prog 17 #[.pointer (some ⟨g, 0, none⟩)] W fun e w' => ListPost W t.kept e w' := by
  have HK := hid (tkept_any h)
  have HC : Hid (∀ V, Below W.heap.size W V → Calls Try.prog 32 #[va, .func (.func 33) #[] #[]] V fun e w' => ListPost V t.kept e w') := fun V hV => by
    have h' := h.on hV
    have := copyD_any va ds V (Kind.own_is h'.all) h'.inn (by have := h'.few; omega)
    rw [h.kept] at this
    exact this.mono fun e w' q => list_post q
  obtain ⟨p, c, rfl⟩ := h.shape
  clear h
  go_enter Try.func17, Try.ntmps17
  go_wp2_with fail
  refine HK.out.mono ?_
  rintro e w1 ⟨rfl, hb1⟩
  have HB := hid hb1
  have HC1 := hid (HC.out w1 hb1)
  clear hb1
  go_wp2_with fail
  refine HC1.out.mono ?_
  rintro e w2 ⟨u, ds', rfl, q⟩
  have HQ := hid (ListPost.back HB.out ⟨u, ds', rfl, q⟩)
  obtain ⟨p', c', rfl⟩ := Kind.own_shape q.1
  clear q
  go_wp2_with fail
  go_ret
  exact HQ.out
set_option maxHeartbeats 1000000 in
theorem tlist_nil (W : World) : Calls Try.prog 17 #[.pointer none] W fun e w' => ListPost W [] e w' := by
  have HK := hid (tkept_nil W)
  have HC : Hid (∀ V : World, Calls Try.prog 32 #[.slice none 0 0, .func (.func 33) #[] #[]] V fun e w' => ListPost V [] e w') := fun V =>
    (copyD_any (.slice none 0 0) [] V (Kind.is_nil _ _) (fun x hx => by cases hx) (by simp)).mono fun e w' q => list_post q
  go_enter Try.func17, Try.ntmps17
  go_wp2_with fail
  refine HK.out.mono ?_
  rintro e w1 ⟨rfl, hb1⟩
  have HB := hid hb1
  have HC1 := hid (HC.out w1)
  clear hb1
  go_wp2_with fail
  refine HC1.out.mono ?_
  rintro e w2 ⟨u, ds', rfl, q⟩
  have HQ := hid (ListPost.back HB.out ⟨u, ds', rfl, q⟩)
  obtain ⟨p', c', rfl⟩ := Kind.own_shape q.1
  clear q
  go_wp2_with fail
  go_ret
  exact HQ.out

end Go.Proofs.Ytmihddbnddgfhaa

/-
  Package marks (stage 12): Equal.
-/
namespace Go.Proofs.Ytmihddbnddgfhaa
open Go.RowKit

theorem neqKy_at : NeqAt Try.prog 67 (fun x : Ky => .agg (encKy x).toArray) (fun x y => decide (x = y)) :=
  ⟨fun x y w => by have := Z.neq_key x.1 x.2 y.1 y.2 w; rw [Z.eqK_iff] at this; exact this, GuardAt.agg (fun x : Ky => (encKy x).toArray) (by kernel_rfl)⟩
theorem eqlKy_at : EqlAt Try.prog 67 (fun x : Ky => .agg (encKy x).toArray) (fun x y => decide (x = y)) :=
  ⟨fun x y w => by have := Z.eql_key x.1 x.2 y.1 y.2 w; rw [Z.eqK_iff] at this; exact this, GuardAt.agg (fun x : Ky => (encKy x).toArray) (by kernel_rfl)⟩
theorem allEq_decideK : ∀ (p q : List Ky), Lib.allEq (fun x y => decide (x = y)) p q = decide (p = q)
  | [], [] => rfl
  | [], y :: q => by simp [Lib.allEq]
  | x :: p, [] => by simp [Lib.allEq]
  | x :: p, y :: q => by
    have := allEq_decideK p q
    unfold Lib.allEq
    rw [this]
    by_cases h1 : x = y <;> by_cases h2 : p = q <;> simp [h1, h2]
theorem kk_enc {w : World} {b off : Nat} {p : List Ky} (h : KK.At w b off p) (j : Nat) (hj : j < p.length) (i : Nat) (v : Value) (hv : (encKy p[j])[i]? = some v) : w.cell? ⟨b, off + j * 2 + i, none⟩ = some v := h j hj i v hv

set_option maxHeartbeats 1000000 in
theorem conKy_none (q1 : Option Addr) (c1 : Nat) (k : Ky) (w : World) :
    Calls Try.prog 64 #[.slice q1 0 c1, .agg (encKy k).toArray] w fun e w' => e = .returned (.bool false) ∧ Below w.heap.size w w' := by
  have hix : ∀ W : World, Calls Try.prog 70 #[.slice q1 0 c1, .agg (encKy k).toArray] W fun e w' => e = .returned (.int .i64 (-1)) ∧ Below W.heap.size W w' := fun W => by
    have HB := hid ((Below.refl W.heap.size W).alloc (Nat.le_refl _) (.cells #[.string k.1, .string k.2] 67))
    obtain ⟨ka, kb⟩ := k
    simp only [encKy] at *
    go_enter Try.func70, Try.ntmps70
    go_wp2_with fail
    refine wp_loop_rounds 1 ?_
    rw [rounds_succ]
    go_wp2_with fail
    go_ret
    exact ⟨rfl, HB.out⟩
  have HX := hid hix
  have HB := hid ((Below.refl w.heap.size w).alloc (Nat.le_refl _) (.cells #[.string k.1, .string k.2] 67))
  clear hix
  obtain ⟨ka, kb⟩ := k
  simp only [encKy] at *
  go_enter Try.func64, Try.ntmps64
  go_wp2_with fail
  refine (HX.out _).mono ?_
  rintro e w1 ⟨rfl, hb1⟩
  have HB1 := hid (bel_then HB.out HB.out.size hb1)
  clear hb1
  go_wp2_with fail
  go_ret
  exact ⟨rfl, HB1.out⟩

theorem conKy_any (v : Value) (p : List Ky) (k : Ky) (w : World) (hv : KK.Is w v p) (hl1 : p.length ≤ maxLen) :
    Calls Try.prog 64 #[v, .agg (encKy k).toArray] w fun e w' => e = .returned (.bool (p.any fun x => decide (x = k))) ∧ Below w.heap.size w w' := by
  obtain ⟨a1, k1, rfl, hd1⟩ := hv
  by_cases h1 : p = []
  · subst h1
    exact conKy_none a1 k1 k w
  · rcases hd1 with hd1 | ⟨b1, o1, rfl, x1⟩
    · exact absurd hd1 h1
    · unfold maxLen at hl1
      have hc := AnyQ.slices_Contains (α := Ky) Try.conKys 2 Try.isAgg67 Try.sizeOf67 encKy (fun _ => rfl) (fun x y => decide (x = y)) eqlKy_at b1 o1 p.length k1 p k w (Nat.le_refl _) (by omega)
        (fun j hj i v hv => by rw [getElem!_pos p j hj] at hv; exact kk_enc x1 j hj i v hv)
      change Calls Try.prog 64 _ _ _ at hc
      refine hc.mono ?_
      rintro e w' ⟨rfl, hb⟩
      refine ⟨ret_bool ?_, hb⟩
      rw [List.take_length]
      congr 1
      funext x
      exact decide_eq_decide.2 ⟨fun h => h.symm, fun h => h.symm⟩

end Go.Proofs.Ytmihddbnddgfhaa

/-
  Package marks (stage 12): hit, Hits, Which.
-/
namespace Go.Proofs.Ytmihddbnddgfhaa
open Go.RowKit

theorem enters_mhit : ∀ args w, (callFunc 66 args).run Try.prog w = .ok (.enter 66 args) w := enters_of Try.func66 (by kernel_rfl) rfl
theorem enters_mhits : ∀ args w, (callFunc 52 args).run Try.prog w = .ok (.enter 52 args) w := enters_of Try.func52 (by kernel_rfl) rfl

set_option maxHeartbeats 2000000 in
set_option maxRecDepth 100000 in
theorem hit1_any (c : Cx) (x : Rx) (M : Nat) (w : World) (hM : w.heap[M]? = some (.cells (encCx c).toArray 70 (0, 0))) (hc : CIn w c) (hx : x.at w) :
    Calls Try.prog 66 #[.agg (encRx x).toArray, .pointer (some ⟨M, 0, none⟩)] w fun e w' => e = .returned (.bool (touchesM x.rg c.ch)) ∧ Below w.heap.size w w' := by
  obtain ⟨hb, h1, hs⟩ := one_box w (encRx x).toArray 85
  obtain ⟨V, hV⟩ : ∃ V, w.alloc (.cells (encRx x).toArray 85) = V := ⟨_, rfl⟩
  rw [hV] at hb h1 hs
  have hlt : M < w.heap.size := (Array.getElem?_eq_some_iff.1 hM).1
  have h2 := (hb.block M hlt).trans hM
  have HS := hid (mtouches12_any x c V (hx.on hb) (hc.on hb))
  have HB := hid hb
  generalize touchesM x.rg c.ch = R at *
  obtain ⟨K, hK⟩ : ∃ K, w.heap.size = K := ⟨_, rfl⟩
  rw [hK] at h1
  obtain ⟨xt, xp, xc, xm⟩ := x
  obtain ⟨ca, cb, wl, wp, wc, wo, il, ip, ic, io⟩ := c
  simp only [encRx, encCx, Rx.sl] at *
  have c0 : V.cell? ⟨K, 0, none⟩ = some (.string xt) := by rw [Lib.cell_of_heap h1]; rfl
  have c1 : V.cell? ⟨K, 1, none⟩ = some (.slice xp xm.length xc) := by rw [Lib.cell_of_heap h1]; rfl
  have d0 : V.cell? ⟨M, 0, none⟩ = some (.string ca) := by rw [Lib.cell_of_heap h2]; rfl
  have d1 : V.cell? ⟨M, 1, none⟩ = some (.string cb) := by rw [Lib.cell_of_heap h2]; rfl
  have d2 : V.cell? ⟨M, 2, none⟩ = some (.bool wl) := by rw [Lib.cell_of_heap h2]; rfl
  have d3 : V.cell? ⟨M, 3, none⟩ = some (.slice wp wo.length wc) := by rw [Lib.cell_of_heap h2]; rfl
  have d4 : V.cell? ⟨M, 4, none⟩ = some (.bool il) := by rw [Lib.cell_of_heap h2]; rfl
  have d5 : V.cell? ⟨M, 5, none⟩ = some (.slice ip io.length ic) := by rw [Lib.cell_of_heap h2]; rfl
  clear hM hc hx h1 h2 hb hs
  go_enter Try.func66, Try.ntmps66
  go_wp2_with fail
  try rw [hV]
  try rw [hK]
  refine HS.out.mono ?_
  rintro e w1 ⟨rfl, hb1⟩
  have HB1 := hid (bel_then HB.out HB.out.size hb1)
  clear hb1
  go_wp2_with fail
  go_ret
  exact ⟨rfl, HB1.out⟩

set_option maxHeartbeats 4000000 in
set_option maxRecDepth 100000 in
theorem mhit12_any (m : Mx) (c : Cx) (w : World) (hm : MIn w m) (hw : LenM m) (hc : CIn w c) :
    Calls Try.prog 53 #[.agg (encMx m).toArray, .agg (encCx c).toArray] w fun e w' => e = .returned (.bool (hitM m.mk' c.ch)) ∧ Below w.heap.size w w' := by
  obtain ⟨hbV, h1, h2, hs⟩ := two_boxes w (encMx m).toArray (encCx c).toArray 32 70
  obtain ⟨V, hV⟩ : ∃ V, (w.alloc (.cells (encMx m).toArray 32)).alloc (.cells (encCx c).toArray 70) = V := ⟨_, rfl⟩
  obtain ⟨M, hM⟩ : ∃ M, w.heap.size = M := ⟨_, rfl⟩
  rw [hV] at hbV h1 h2 hs
  rw [hM] at h1 h2 hs
  have l1 := hw.1
  have l2 := hw.2
  have HK := hid (conKy_any m.ksl m.ks (c.a, c.b) V (hm.on hbV).keys (by unfold maxLen; omega))
  have HR : Hid (∀ W', Below V.heap.size V W' → Calls Try.prog 65 #[m.rsl, .func (.func 66) #[] #[.pointer (some ⟨M + 1, 0, none⟩)]] W' fun e w' => e = .returned (.bool (m.rs.any fun r => touchesM r.rg c.ch)) ∧ Below W'.heap.size W' w') := fun W' hW =>
    hasRange_any (fun r => touchesM r.rg c.ch) _ _ enters_mhit _ m.rs W' ((hm.on hbV).on hW).rows (by omega) (fun W x hW2 hx => hit1_any c x (M + 1) W (((bel_then hW hW.size hW2).block (M + 1) (by omega)).trans h2) ((hc.on hbV).on (bel_then hW hW.size hW2)) ((((hm.on hbV).on (bel_then hW hW.size hW2))).each x hx))
  have HB := hid hbV
  have HBX : Hid (∀ W' : World, Below V.heap.size V W' → (W'.cell? ⟨M, 0, none⟩ = some m.ksl ∧ W'.cell? ⟨M, 1, none⟩ = some m.rsl) ∧ W'.cell? ⟨M + 1, 0, none⟩ = some (.string c.a) ∧ W'.cell? ⟨M + 1, 1, none⟩ = some (.string c.b)) := fun W' hW => by
    have e1 := (hW.block M (by omega)).trans h1
    have e2 := (hW.block (M + 1) (by omega)).trans h2
    exact ⟨⟨by rw [Lib.cell_of_heap e1]; rfl, by rw [Lib.cell_of_heap e1]; rfl⟩, by rw [Lib.cell_of_heap e2]; rfl, by rw [Lib.cell_of_heap e2]; rfl⟩
  have HV : Hid (∀ B1 B2, (m.ks.any fun x => decide (x = (c.a, c.b))) = B1 → (m.rs.any fun r => touchesM r.rg c.ch) = B2 → hitM m.mk' c.ch = (B1 || B2)) := by
    rintro _ _ rfl rfl
    unfold hitM Mx.mk'
    rw [List.any_map]
    rfl
  obtain ⟨B1, hB1⟩ : ∃ B1, (m.ks.any fun x => decide (x = (c.a, c.b))) = B1 := ⟨_, rfl⟩
  obtain ⟨B2, hB2⟩ : ∃ B2, (m.rs.any fun r => touchesM r.rg c.ch) = B2 := ⟨_, rfl⟩
  have HE := hid (HV.out B1 B2 hB1 hB2)
  rw [hB1] at HK
  rw [hB2] at HR
  obtain ⟨RR, hRR⟩ : ∃ RR, hitM m.mk' c.ch = RR := ⟨_, rfl⟩
  rw [hRR] at HE ⊢
  obtain ⟨⟨a0, a1⟩, b0, b1⟩ := HBX.out V (Below.refl _ _)
  clear hm hw hc hbV h1 h2 hs HV hB1 hB2 hRR
  obtain ⟨akp, akc, aks, arp, arc, ars⟩ := m
  obtain ⟨ca, cb, wl, wp, wc, wo, il, ip, ic, io⟩ := c
  simp only [encMx, encCx, Mx.ksl, Mx.rsl, encKy] at *
  go_enter Try.func53, Try.ntmps53
  cases B1 with
  | true =>
    go_wp2_with fail
    try rw [hV]
    refine HK.out.mono ?_
    rintro e w1 ⟨rfl, hb1⟩
    obtain ⟨⟨a0, a1⟩, b0, b1⟩ := HBX.out w1 hb1
    have HB1 := hid (bel_then HB.out HB.out.size hb1)
    clear hb1 HR
    go_wp2_with fail
    go_ret
    exact ⟨ret_bool HE.out.symm, HB1.out⟩
  | false =>
    go_wp2_with fail
    try rw [hV]
    refine HK.out.mono ?_
    rintro e w1 ⟨rfl, hb1⟩
    obtain ⟨⟨a0, a1⟩, b0, b1⟩ := HBX.out w1 hb1
    have HR1 := hid (HR.out w1 hb1)
    have HB1 := hid (bel_then HB.out HB.out.size hb1)
    clear hb1 HR
    go_wp2_with fail
    try rw [hM]
    refine HR1.out.mono ?_
    rintro e w2 ⟨rfl, hb2⟩
    have HB2 := hid (bel_then HB1.out HB1.out.size hb2)
    clear hb2
    go_wp2_with fail
    go_ret
    exact ⟨ret_bool (by rw [HE.out]; rfl), HB2.out⟩

set_option maxHeartbeats 2000000 in
set_option maxRecDepth 100000 in
theorem hits1_any (m : Mx) (c : Cx) (M : Nat) (w : World) (hM : w.heap[M]? = some (.cells (encMx m).toArray 32 (0, 0))) (hm : MIn w m) (hw : LenM m) (hc : CIn w c) :
    Calls Try.prog 52 #[.agg (encCx c).toArray, .pointer (some ⟨M, 0, none⟩)] w fun e w' => e = .returned (.bool (hitM m.mk' c.ch)) ∧ Below w.heap.size w w' := by
  obtain ⟨hb, h1, hs⟩ := one_box w (encCx c).toArray 70
  obtain ⟨V, hV⟩ : ∃ V, w.alloc (.cells (encCx c).toArray 70) = V := ⟨_, rfl⟩
  rw [hV] at hb h1 hs
  have hlt : M < w.heap.size := (Array.getElem?_eq_some_iff.1 hM).1
  have h2 := (hb.block M hlt).trans hM
  have HS := hid (mhit12_any m c V (hm.on hb) hw (hc.on hb))
  have HB := hid hb
  generalize hitM m.mk' c.ch = R at *
  obtain ⟨K, hK⟩ : ∃ K, w.heap.size = K := ⟨_, rfl⟩
  rw [hK] at h1
  obtain ⟨akp, akc, aks, arp, arc, ars⟩ := m
  obtain ⟨ca, cb, wl, wp, wc, wo, il, ip, ic, io⟩ := c
  simp only [encMx, encCx, Mx.ksl, Mx.rsl] at *
  have c0 : V.cell? ⟨M, 0, none⟩ = some (.slice akp aks.length akc) := by rw [Lib.cell_of_heap h2]; rfl
  have c1 : V.cell? ⟨M, 1, none⟩ = some (.slice arp ars.length arc) := by rw [Lib.cell_of_heap h2]; rfl
  have d0 : V.cell? ⟨K, 0, none⟩ = some (.string ca) := by rw [Lib.cell_of_heap h1]; rfl
  have d1 : V.cell? ⟨K, 1, none⟩ = some (.string cb) := by rw [Lib.cell_of_heap h1]; rfl
  have d2 : V.cell? ⟨K, 2, none⟩ = some (.bool wl) := by rw [Lib.cell_of_heap h1]; rfl
  have d3 : V.cell? ⟨K, 3, none⟩ = some (.slice wp wo.length wc) := by rw [Lib.cell_of_heap h1]; rfl
  have d4 : V.cell? ⟨K, 4, none⟩ = some (.bool il) := by rw [Lib.cell_of_heap h1]; rfl
  have d5 : V.cell? ⟨K, 5, none⟩ = some (.slice ip io.length ic) := by rw [Lib.cell_of_heap h1]; rfl
  clear hM hc hm hw h1 h2 hb hs
  go_enter Try.func52, Try.ntmps52
  go_wp2_with fail
  try rw [hV]
  try rw [hK]
  refine HS.out.mono ?_
  rintro e w1 ⟨rfl, hb1⟩
  have HB1 := hid (bel_then HB.out HB.out.size hb1)
  clear hb1
  go_wp2_with fail
  go_ret
  exact ⟨rfl, HB1.out⟩

set_option maxHeartbeats 2000000 in
set_option maxRecDepth 100000 in
theorem mhits12_any' (m : Mx) (v : Value) (l : List Cx) (w : World) (hm : MIn w m) (hw : LenM m) (hv : ChgIn w v l) (hl : l.length < 1500000000000) :
    Calls Try.prog 35 #[.agg (encMx m).toArray, v] w fun e w' => BoolPost w (hitsM m.mk' (l.map Cx.ch)) e w' := by
  obtain ⟨hb, h1, hs⟩ := one_box w (encMx m).toArray 32
  obtain ⟨V, hV⟩ : ∃ V, w.alloc (.cells (encMx m).toArray 32) = V := ⟨_, rfl⟩
  obtain ⟨M, hM⟩ : ∃ M, w.heap.size = M := ⟨_, rfl⟩
  rw [hV] at hb h1 hs
  rw [hM] at h1 hs
  have hvV := hv.on hb
  have HH := hid (hasChange_any (fun x => hitM m.mk' x.ch) 52 #[.pointer (some ⟨M, 0, none⟩)] enters_mhits v l V hvV.is (by omega) (fun W x hW hx => hits1_any m x M W ((hW.block M (by omega)).trans h1) ((hm.on hb).on hW) hw ((hvV.each x hx).on hW)))
  have HE : Hid (l.any (fun x => hitM m.mk' x.ch) = hitsM m.mk' (l.map Cx.ch)) := by show _ = _; unfold hitsM; rw [List.any_map]; rfl
  have HB := hid hb
  generalize l.any (fun x => hitM m.mk' x.ch) = R at *
  generalize hitsM m.mk' (l.map Cx.ch) = R2 at *
  obtain ⟨p, cap, rfl⟩ : ∃ p cap, v = .slice p l.length cap := by obtain ⟨p, cap, h, _⟩ := hv.is; exact ⟨p, cap, h⟩
  clear hv hvV hm hw hb h1 hs
  obtain ⟨akp, akc, aks, arp, arc, ars⟩ := m
  simp only [encMx, Mx.ksl, Mx.rsl] at *
  go_enter Try.func35, Try.ntmps35
  go_wp2_with fail
  try rw [hV]
  try rw [hM]
  refine HH.out.mono ?_
  rintro e w1 ⟨rfl, hb1⟩
  have HB1 := hid (bel_then HB.out HB.out.size hb1)
  clear hb1
  go_wp2_with fail
  go_ret
  exact ⟨ret_bool HE.out, HB1.out⟩

/-- Whose keys hit, in the list's order. -/
def hitKs (m : Mk) (l : List Cx) : List Ky := (l.filter fun x => hitM m x.ch).map fun x => (x.a, x.b)
theorem hitKs_which (m : Mk) (l : List Cx) : sortK (hitKs m l) = whichM m (l.map Cx.ch) := by
  unfold sortK hitKs whichM
  rw [List.foldl_map, List.foldl_filter, List.foldl_map]
  rfl
theorem hitKs_snoc (m : Mk) (l : List Cx) (x : Cx) : hitKs m (l ++ [x]) = if hitM m x.ch = true then hitKs m l ++ [(x.a, x.b)] else hitKs m l := by
  unfold hitKs
  rw [List.filter_append, List.map_append]
  by_cases h : hitM m x.ch = true
  · simp [h]
  · simp [h]
theorem hitKs_len (m : Mk) (l : List Cx) : (hitKs m l).length ≤ l.length := by
  unfold hitKs
  rw [List.length_map]
  exact List.length_filter_le _ _

theorem infoKy12 : (Try.prog.info? 67).map (fun i => (i.zero, i.size, i.bytes)) = some (some (.agg #[.string ⟨#[]⟩, .string ⟨#[]⟩]), 2, 32) := by kernel_rfl

end Go.Proofs.Ytmihddbnddgfhaa

/-
  Package track (stage 13): beside.
-/
namespace Go.Proofs.Ytmihddbnddgfhaa
open Go.RowKit

/-- A row cut at its front. -/
theorem is_drop {α : Type} {K : Kind α} {w : World} {b : Nat} {d : List α} (h : K.At w b 0 d) (k : Nat) : K.At w b (k * K.k) (d.drop k) := fun i hi j u hu => by
  rw [List.length_drop] at hi
  rw [List.getElem_drop] at hu
  have := h (k + i) (by omega) j u hu
  rw [Nat.zero_add, Nat.add_mul] at this
  exact this

set_option maxHeartbeats 4000000 in
set_option maxRecDepth 100000 in
theorem beside_any {n0 : Nat} {W : World} {g : Nat} {t : Tk} {ds : List Dx} {va : Value} {last : Int} (h : TrkM n0 W g t ds va last) (s : Int) :
    Calls Try.prog 34 #[.pointer (some ⟨g, 0, none⟩), .int .u64 s] W fun e w' => (∃ k u, e = .returned u ∧ ThrP ds s k ∧ KDx.Is w' u (ds.drop k)) ∧ Below W.heap.size W w' := by
  have HX := hid (through_any va ds s W.drew (Kind.is_kept (Kind.own_is h.all) (Below.refl _ _).drew) (by have := h.few; omega))
  have hall := h.all
  obtain ⟨p, c, rfl⟩ := h.shape
  have HH := hid h
  have HCL : Hid (∀ V, Below W.heap.size W V → V.cell? ⟨g, 1, none⟩ = some (.slice p ds.length c)) := fun V hV => by rw [Lib.cell_of_heap (h.on hV).obj]; rfl
  have a0 := HCL.out W (Below.refl _ _)
  clear h
  have HF : Hid ((p = none ∧ ds.length = 0 ∧ c = 0) ∨ ∃ g1, p = some ⟨g1, 0, none⟩ ∧ ds.length ≤ c ∧ ∀ V, Below W.heap.size W V → KDx.At V g1 0 ds) := by
    rcases hall.2 with ⟨h1, h2⟩ | ⟨g1, c1, cur, h1, h2, h3, h4, _⟩
    · injection h1 with e1 e2 e3
      exact Or.inl ⟨e1, h2, e3⟩
    · injection h1 with e1 e2 e3
      subst e1 e3
      refine Or.inr ⟨g1, rfl, h4, fun V hV => ?_⟩
      obtain ⟨p9, c9, he, hd⟩ := Kind.own_is (Kind.own_on hall hV)
      injection he with e1 e2 e3
      rcases hd with hd | ⟨b, off, hp, hd⟩
      · intro i hi
        rw [hd] at hi
        cases hi
      · rw [← e1] at hp
        injection hp with hp
        injection hp with hp1 hp2
        subst hp1 hp2
        exact hd
  clear hall
  go_enter Try.func34, Try.ntmps34
  go_wp2_with fail
  refine wp_region_held_drew (S := fun w' => w'.cell? ⟨g, 1, none⟩ = some (.slice p ds.length c)) (by kernel_rfl) a0 (fun hHeld => ?_)
  refine take_val (i := 0) (.pointer (some ⟨g, 0, none⟩)) rfl (by kernel_rfl) (by kernel_rfl) (by kernel_rfl) (fun _ _ _ h => h) (by rfl) (fun w hSw => by go_simp) hHeld ?_
  simp only [Act.put, List.setIfInBounds_toArray, List.set_cons_zero, List.set_cons_succ]
  refine take_val (i := 1) (.pointer (some ⟨g, 0, none⟩)) rfl (by kernel_rfl) (by kernel_rfl) (by kernel_rfl) (fun _ _ _ h => h) (by rfl) (fun w hSw => by go_simp) hHeld ?_
  simp only [Act.put, List.setIfInBounds_toArray, List.set_cons_zero, List.set_cons_succ]
  refine take_val (i := 2) (.pointer (some ⟨g, 1, none⟩)) rfl (by kernel_rfl) (by kernel_rfl) (by kernel_rfl) (fun _ _ _ h => h) (by rfl) (fun w hSw => by go_simp) hHeld ?_
  simp only [Act.put, List.setIfInBounds_toArray, List.set_cons_zero, List.set_cons_succ]
  refine take_val (i := 3) (.slice p ds.length c) rfl (by kernel_rfl) (by kernel_rfl) (by kernel_rfl) (fun _ _ _ h => h) (by rfl) (fun w hSw => by go_simp) hHeld ?_
  simp only [Act.put, List.setIfInBounds_toArray, List.set_cons_zero, List.set_cons_succ]
  refine take_val (i := 4) (.pointer (some ⟨g, 0, none⟩)) rfl (by kernel_rfl) (by kernel_rfl) (by kernel_rfl) (fun _ _ _ h => h) (by rfl) (fun w hSw => by go_simp) hHeld ?_
  simp only [Act.put, List.setIfInBounds_toArray, List.set_cons_zero, List.set_cons_succ]
  refine take_val (i := 5) (.pointer (some ⟨g, 0, none⟩)) rfl (by kernel_rfl) (by kernel_rfl) (by kernel_rfl) (fun _ _ _ h => h) (by rfl) (fun w hSw => by go_simp) hHeld ?_
  simp only [Act.put, List.setIfInBounds_toArray, List.set_cons_zero, List.set_cons_succ]
  refine take_val (i := 6) (.pointer (some ⟨g, 1, none⟩)) rfl (by kernel_rfl) (by kernel_rfl) (by kernel_rfl) (fun _ _ _ h => h) (by rfl) (fun w hSw => by go_simp) hHeld ?_
  simp only [Act.put, List.setIfInBounds_toArray, List.set_cons_zero, List.set_cons_succ]
  refine take_val (i := 7) (.slice p ds.length c) rfl (by kernel_rfl) (by kernel_rfl) (by kernel_rfl) (fun _ _ _ h => h) (by rfl) (fun w hSw => by go_simp) hHeld ?_
  simp only [Act.put, List.setIfInBounds_toArray, List.set_cons_zero, List.set_cons_succ]
  refine take_val (i := 8) (.int .u64 s) rfl (by kernel_rfl) (by kernel_rfl) (by kernel_rfl) (fun _ _ _ h => h) (by rfl) (fun w hSw => by go_simp) hHeld ?_
  simp only [Act.put, List.setIfInBounds_toArray, List.set_cons_zero, List.set_cons_succ]
  clear hHeld a0
  refine wpAnyH_ready (rs := [9]) (by kernel_rfl) (by simp) ?_
  refine AllReadyH.cons (at_drop0 rfl) (fun K hK => ?_) AllReadyH.nil
  rw [if_pos (by rfl)]
  go_simp
  refine HX.out.mono ?_
  rintro e w1 ⟨⟨k, rfl, hk⟩, hb1⟩
  have hb : Below W.heap.size W w1 := (bel_drewN (Below.refl _ _) 1).trans hb1
  have HB := hid hb
  have a1 := HCL.out w1 hb
  have HK := hid hk
  have hkl := hk.1
  clear hb1 hb hk HX
  go_wp2_with fail
  refine hK.out _ _ a1 (fun hHeld => ?_)
  clear hK K
  try simp only [Act.put, List.setIfInBounds_toArray, List.set_cons_zero, List.set_cons_succ]
  clear a1
  have hk0 : (0 : Int) ≤ k := by omega
  have hk1 : (k : Int) ≤ (ds.length : Int) := by omega
  rcases HF.out with ⟨rfl, h0, rfl⟩ | ⟨g1, rfl, hlc, hat⟩
  · have hk2 : k = 0 := by omega
    subst hk2
    rw [h0] at hHeld ⊢
    refine take_val (i := 10) (.slice none 0 0) rfl (by kernel_rfl) (by kernel_rfl) (by kernel_rfl) (fun _ _ _ h => h) (by rfl) (fun w hSw => by go_simp) hHeld ?_
    simp only [Act.put, List.setIfInBounds_toArray, List.set_cons_zero, List.set_cons_succ]
    refine take_val (i := 11) (.slice none 0 0) rfl (by kernel_rfl) (by kernel_rfl) (by kernel_rfl) (fun _ _ _ h => h) (by rfl) (fun w hSw => by go_simp) hHeld ?_
    simp only [Act.put, List.setIfInBounds_toArray, List.set_cons_zero, List.set_cons_succ]
    refine wpAnyH_done (by kernel_rfl) ?_ _
    go_wp2_with fail
    go_ret
    refine ⟨⟨0, _, rfl, HK.out, ?_⟩, HB.out⟩
    rw [List.eq_nil_of_length_eq_zero h0]
    exact Kind.is_nil _ _
  · obtain ⟨A, hA, HA⟩ : ∃ A : Addr, (if c = k then some (⟨g1, 0, none⟩ : Addr) else some ⟨g1, k * 6, none⟩) = some A ∧ Hid (k < ds.length → A = ⟨g1, k * 6, none⟩) := by
      by_cases hh : c = k
      · exact ⟨_, if_pos hh, fun h0 => absurd h0 (by omega)⟩
      · exact ⟨_, if_neg hh, fun _ => rfl⟩
    have hcz : (ds.length : Int) ≤ (c : Int) := by omega
    have HAT := hid hat
    clear hat
    refine take_val (i := 10) (.slice (some A) (ds.length - k) (c - k)) rfl (by kernel_rfl) (by kernel_rfl) (by kernel_rfl) (fun _ _ _ h => h) (by rfl) (fun w hSw => by go_simp) hHeld ?_
    simp only [Act.put, List.setIfInBounds_toArray, List.set_cons_zero, List.set_cons_succ]
    refine take_val (i := 11) (.slice (some A) (ds.length - k) (c - k)) rfl (by kernel_rfl) (by kernel_rfl) (by kernel_rfl) (fun _ _ _ h => h) (by rfl) (fun w hSw => by go_simp) hHeld ?_
    simp only [Act.put, List.setIfInBounds_toArray, List.set_cons_zero, List.set_cons_succ]
    refine wpAnyH_done (by kernel_rfl) ?_ _
    go_wp2_with fail
    go_ret
    refine ⟨⟨k, .slice (some A) (ds.length - k) (c - k), rfl, HK.out, some A, c - k, by rw [List.length_drop], ?_⟩, HB.out⟩
    by_cases hkd : k < ds.length
    · rw [HA.out hkd]
      exact Or.inr ⟨g1, k * 6, rfl, is_drop (HAT.out w1 HB.out) k⟩
    · exact Or.inl (List.drop_eq_nil_of_le (by omega))

end Go.Proofs.Ytmihddbnddgfhaa

/-
  Package track (stage 13): slices.Delete at done ones, the first ones; Drop.
-/
namespace Go.Proofs.Ytmihddbnddgfhaa
open Go.RowKit Go.Lib

/-- append in a region that draws its order, where its run is known. -/
theorem step_append_run13 {P : Program} {ops : Array Oper} {o : Oper} {a : Act} {w : World} {K : Act → World → Prop} {Q : Exit → Act → World → Prop} {E : Prop}
    (hg : o.guard = none) (s x : Operand) (t t' : TypeId) (hop : o.op = Op.call { callee := Callee.builtin Builtin.append, args := #[s, x], argTypes := #[t, t'] })
    (v u : Value) (hs : a.eval s = v) (hx : a.eval x = u) {v' : Value} {w' : World} (hr : (Builtin.append_ #[t, t'] o.type #[v, u]).run P w = .ok v' w') (hK : K (a.put o.dst v') w') :
    if Region.wanted o (yielded ops a.tmps) = true then Oper.wp P o a w K Q else E := by
  have hw : Region.wanted o (yielded ops a.tmps) = true := by simp [Region.wanted, hg]
  rw [if_pos hw]
  unfold Oper.wp
  simp [execOp, hop, resolve, invoke, builtin, hs, hx, hr, Result.andThen]
  exact hK

theorem Kind.cells_drop {α : Type} (K : Kind α) (d : List α) (k : Nat) : K.cells (d.drop k) = (K.cells d).drop (k * K.k) := by
  by_cases hk : k ≤ d.length
  · have e : K.cells d = K.cells (d.take k) ++ K.cells (d.drop k) := by rw [← K.cells_append, List.take_append_drop]
    have hl : (K.cells (d.take k)).length = k * K.k := by rw [K.cells_len, List.length_take, Nat.min_eq_left hk]
    rw [e, ← hl, List.drop_left]
  · have e1 : d.drop k = [] := List.drop_of_length_le (by omega)
    have e2 : (K.cells d).drop (k * K.k) = [] := List.drop_of_length_le (by rw [K.cells_len]; exact Nat.mul_le_mul_right _ (by omega))
    rw [e1, e2]
    rfl
theorem Kind.own_block {α : Type} {K : Kind α} {N g n cap : Nat} {w : World} {o : List α} (h : K.Own N w (.slice (some ⟨g, 0, none⟩) n cap) o) :
    o.length = n ∧ N ≤ g ∧ n ≤ cap ∧ cap ≤ maxLen ∧ ∃ cur : Array Value, w.heap[g]? = some (.cells cur K.T (0, 0)) ∧ cur.size = cap * K.k ∧ cur.toList.take (n * K.k) = K.cells o := by
  rcases h.2 with ⟨hv, _⟩ | ⟨g', cap', cur, hv, h1, h2, h3, h4, h5, h6⟩
  · cases hv
  · injection hv with e1 e2 e3
    injection e1 with e1
    injection e1 with e1 _ _
    subst e1 e2 e3
    exact ⟨rfl, h1, h3, h4, cur, h2, h5, h6⟩
theorem Kind.own_mk {α : Type} {K : Kind α} {N g n cap : Nat} {w : World} {o : List α} {cur : Array Value} (hn : o.length = n) (h1 : N ≤ g) (h2 : w.heap[g]? = some (.cells cur K.T (0, 0))) (h3 : n ≤ cap) (h4 : cap ≤ maxLen) (h5 : cur.size = cap * K.k) (h6 : cur.toList.take (n * K.k) = K.cells o) :
    K.Own N w (.slice (some ⟨g, 0, none⟩) n cap) o := by
  subst hn
  exact ⟨K.cells_len o, Or.inr ⟨g, cap, cur, rfl, h1, h2, h3, h4, h5, h6⟩⟩
/-- Cells of the row behind its end written over. -/
theorem Kind.own_past13 {α : Type} {K : Kind α} {N g n cap : Nat} {o : List α} (vs : List Value) : ∀ (w : World) (p : Nat), K.Own N w (.slice (some ⟨g, 0, none⟩) n cap) o → o.length = n → n * K.k ≤ p → K.Own N (w.setCells g p vs) (.slice (some ⟨g, 0, none⟩) n cap) o := by
  induction vs with
  | nil => intro w p h _ _; exact h
  | cons v vs ih =>
    intro w p h hn hp
    rw [World.setCells]
    refine ih _ _ ?_ hn (by omega)
    subst hn
    have h1 := (World.ownsRow.stored (show w.ownsRow N K.T K.k (.slice (some ⟨g, 0, none⟩) o.length cap) o.length (K.cells o) from h) p v).1
    rw [List.set_eq_of_length_le (by rw [K.cells_len]; exact hp)] at h1
    exact h1
theorem grown_sets13 {g : Nat} (vs : List Value) : ∀ (w w0 : World) (p : Nat), w0.grownBy w (some g) → w0.grownBy (w.setCells g p vs) (some g) := by
  induction vs with
  | nil => intro w w0 p h; exact h
  | cons v vs ih => intro w w0 p h; rw [World.setCells]; exact ih _ _ _ (grown_trans h (grown_set w g p v))
theorem grown_row13 (w : World) (g : Nat) (cs : Array Value) : w.grownBy (w.drew.setRow g cs) (some g) :=
  ⟨rfl, rfl, rfl, by simp [World.setRow], fun k _ hne => setRow_other w.drew g k _ (fun e => hne (by rw [e]))⟩
/-- The row behind 'append(s[:0], s[k:]...)'. -/
theorem Kind.own_cut13 {α : Type} {K : Kind α} {N g n cap k : Nat} {w : World} {o : List α} {cur : Array Value} (hn : o.length = n) (h1 : N ≤ g) (h2 : w.heap[g]? = some (.cells cur K.T (0, 0))) (h3 : n ≤ cap) (h4 : cap ≤ maxLen) (h5 : cur.size = cap * K.k) :
    K.Own N (w.setRow g (cur.toList.take (0 * K.k) ++ K.cells (o.drop k) ++ cur.toList.drop (0 * K.k + (K.cells (o.drop k)).length)).toArray) (.slice (some ⟨g, 0, none⟩) (n - k) cap) (o.drop k) := by
  have hl : (K.cells (o.drop k)).length = (n - k) * K.k := by rw [K.cells_len, List.length_drop, hn]
  have hc : cur.toList.length = cap * K.k := by rw [Array.length_toList, h5]
  have hle : (n - k) * K.k ≤ cap * K.k := Nat.mul_le_mul_right _ (by omega)
  refine Kind.own_mk (by rw [List.length_drop, hn]) h1 (setRow_heap w g cur _ _ _ h2) (by omega) h4 ?_ ?_
  · rw [Nat.zero_mul, Nat.zero_add, List.take_zero, List.nil_append]
    simp only [List.size_toArray, List.length_append, List.length_drop, hl, hc]
    omega
  · rw [Nat.zero_mul, Nat.zero_add, List.take_zero, List.nil_append]
    show List.take _ (_ ++ _) = _
    rw [← hl, List.take_left]

/-- clear of done ones in a row. -/
theorem run_clearD (w : World) (g o n : Nat) (hn : 0 < n) (hc : ∀ j, j < n * 6 → (w.cell? ⟨g, o + j, none⟩).isSome = true) (hf : ∀ j, j < n * 6 → w.frozen? ⟨g, o + j, none⟩ = false) :
    ∃ zs : List Value, ∀ ty c, (Builtin.clear_ #[41] ty #[.slice (some ⟨g, o, none⟩) n c]).run Try.prog w = .ok (.tuple #[]) (w.setCells g o zs) := by
  have hv : ∀ w, (zeroValue 35).run Try.prog w = .ok (.agg #[.int .u64 0, .int .u64 0, .bool false, .slice none 0 0, .slice none 0 0, .slice none 0 0]) w := Try.zeroValue35
  obtain ⟨zs, hzs⟩ : ∃ zs, (Builtin.zeroCells (Value.agg #[.int .u64 0, .int .u64 0, .bool false, .slice none 0 0, .slice none 0 0, .slice none 0 0]).cells n).toList = zs := ⟨_, rfl⟩
  have hl : zs.length = n * 6 := by rw [← hzs, Array.length_toList, size_zeroCells]; rfl
  have h1 : ∀ v ∈ zs, v.oneCell' = true := by
    intro v hm
    rw [← hzs] at hm
    simp only [Builtin.zeroCells, Array.toList_map, List.mem_map] at hm
    obtain ⟨i, _, rfl⟩ := hm
    have h3 : i % (Value.agg #[.int .u64 0, .int .u64 0, .bool false, .slice none 0 0, .slice none 0 0, .slice none 0 0]).cells.size < 6 := Nat.mod_lt _ (by decide)
    obtain ⟨m, hm⟩ : ∃ m, i % (Value.agg #[.int .u64 0, .int .u64 0, .bool false, .slice none 0 0, .slice none 0 0, .slice none 0 0]).cells.size = m := ⟨_, rfl⟩
    rw [hm] at h3 ⊢
    rcases (show m = 0 ∨ m = 1 ∨ m = 2 ∨ m = 3 ∨ m = 4 ∨ m = 5 by omega) with rfl | rfl | rfl | rfl | rfl | rfl <;> rfl
  refine ⟨zs, fun ty c => ?_⟩
  have hst := run_storeCells_cells (P := Try.prog) g o zs 0 w (by rw [hl]; simpa using hc) (by rw [hl]; simpa using hf) h1
  simp only [Nat.add_zero] at hst
  obtain ⟨m, rfl⟩ : ∃ m, n = m + 1 := ⟨n - 1, by omega⟩
  simp [Builtin.clear_, run_underlying Try.underlying41, hv, hzs, hst]

set_option maxHeartbeats 4000000 in
set_option maxRecDepth 100000 in
theorem delD_any (N g n cap k : Nat) (o : List Dx) (w : World) (h : KDx.Own N w (.slice (some ⟨g, 0, none⟩) n cap) o) (hk : 0 < k) (hkn : k ≤ n) :
    Calls Try.prog 37 #[.slice (some ⟨g, 0, none⟩) n cap, .int .i64 0, .int .i64 (k : Int)] w fun e w' =>
      e = .returned (.slice (some ⟨g, 0, none⟩) (n - k) cap) ∧ KDx.Own N w' (.slice (some ⟨g, 0, none⟩) (n - k) cap) (o.drop k) ∧ w.grownBy w' (some g) := by
  obtain ⟨i0, hi0, hz0, hz1, hz2⟩ := info_parts Try.infoDx13
  obtain ⟨hn, hNg, hnc, hcm, cur, hg, hs, ht⟩ := Kind.own_block h
  have hnl : (KDx.cells (o.drop k)).length = (n - k) * i0.size := by rw [KDx.cells_len, List.length_drop, hn, hz1]; rfl
  obtain ⟨news, hnews⟩ : ∃ news, KDx.cells (o.drop k) = news := ⟨_, rfl⟩
  have hsrc : ∀ j u, news[j]? = some u → w.drew.cell? ((⟨g, k * 6, none⟩ : Addr).add j) = some u := fun j u hu => by
    rw [addr_add]
    rw [← hnews, KDx.cells_drop, List.getElem?_drop] at hu
    show w.cell? _ = _
    rw [cell_of_row w g _ cur _ _ hg, ← Array.getElem?_toList]
    have hj : k * KDx.k + j < n * KDx.k := by
      have := (List.getElem?_eq_some_iff.1 hu).1
      rwa [KDx.cells_len, hn] at this
    rw [← ht, List.getElem?_take, if_pos hj] at hu
    exact hu
  have hones : ∀ u ∈ news, u.oneCell' = true := by rw [← hnews]; exact KDx.cells_ones _
  have hrd := Kind.own_cut13 (K := KDx) (w := w.drew) (k := k) hn hNg hg hnc hcm hs
  rw [hnews] at hnl hrd
  have hrun : ∀ (A : Addr) (c : Nat) (ty : TypeId), (k < n → A = ⟨g, k * 6, none⟩) → (Builtin.append_ #[41, 41] ty #[.slice (some ⟨g, 0, none⟩) 0 cap, .slice (some A) (n - k) c]).run Try.prog w.drew =
      .ok (.slice (some ⟨g, 0, none⟩) (n - k) cap) (w.drew.setRow g (cur.toList.take (0 * KDx.k) ++ news ++ cur.toList.drop (0 * KDx.k + news.length)).toArray) := fun A c ty hA => by
    have hsrc' : ∀ j u, news[j]? = some u → w.drew.cell? (A.add j) = some u := fun j u hu => by
      have hj := (List.getElem?_eq_some_iff.1 hu).1
      rw [hnl] at hj
      have h0 : k < n := Nat.lt_of_not_le fun e => by rw [Nat.sub_eq_zero_of_le e] at hj; simp at hj
      rw [hA h0]
      exact hsrc j u hu
    have := run_append_room (P := Try.prog) w.drew 41 ty 35 i0 Try.underlying41 hi0 g 0 cap cur hg A (n - k) c news hnl hsrc' hones (by omega) (by rw [hnl, hz1, hs]; show 0 * 6 + (n - k) * 6 ≤ cap * 6; omega)
    rw [Nat.zero_add, hz1] at this
    exact this
  obtain ⟨W1, hW1⟩ : ∃ W1, w.drew.setRow g (cur.toList.take (0 * KDx.k) ++ news ++ cur.toList.drop (0 * KDx.k + news.length)).toArray = W1 := ⟨_, rfl⟩
  rw [hW1] at hrun hrd
  have hg1 : w.grownBy W1 (some g) := by rw [← hW1]; exact grown_row13 w g _
  obtain ⟨_, _, _, _, cur1, hgc1, hs1, _⟩ := Kind.own_block hrd
  obtain ⟨zs, hcl⟩ : ∃ zs : List Value, ∀ ty c, (Builtin.clear_ #[41] ty #[.slice (some ⟨g, (n - k) * 6, none⟩) k c]).run Try.prog W1 = .ok (.tuple #[]) (W1.setCells g ((n - k) * 6) zs) := by
    have hs1' : cur1.size = cap * 6 := hs1
    refine run_clearD W1 g ((n - k) * 6) k hk (fun j hj => ?_) fun j hj => Lib.frozen_of_heap hgc1 _
    rw [cell_of_row W1 g _ cur1 _ _ hgc1, Array.getElem?_eq_getElem (by omega)]; rfl
  have HRD := hid (Kind.own_past13 zs W1 ((n - k) * 6) hrd (by rw [List.length_drop, hn]) (Nat.le_refl _))
  have HG := hid (grown_sets13 zs W1 w ((n - k) * 6) hg1)
  have HRUN := hid hrun
  have mixed : Try.prog.follows .mixedOrders = true := by kernel_rfl
  obtain ⟨A, hA, HA2⟩ : ∃ A : Addr, (if cap = k then some (⟨g, 0, none⟩ : Addr) else some ⟨g, k * 6, none⟩) = some A ∧ Hid (k < n → A = ⟨g, k * 6, none⟩) := by
    by_cases hh : cap = k
    · exact ⟨_, if_pos hh, fun h0 => absurd h0 (by omega)⟩
    · exact ⟨_, if_neg hh, fun _ => rfl⟩
  have hiz1 : (0 : Int) ≤ (k : Int) := by omega
  have hin : (k : Int) ≤ (n : Int) := by omega
  have hic : (0 : Int) ≤ (cap : Int) := by omega
  have hnc' : (n : Int) ≤ (cap : Int) := by omega
  have hne : ((0 : Int) == (k : Int)) = false := by rw [beq_eq_false_iff_ne]; omega
  have hn1 : n - (n - k) = k := by omega
  have hnz : ((n - k : Nat) : Int) ≤ (n : Int) := by omega
  have hnz0 : (0 : Int) ≤ ((n - k : Nat) : Int) := by omega
  have hcn1 : ¬ (cap = n - k) := by omega
  clear hrun hrd hg1 hgc1 hs1 hsrc hones hnl hnews hW1 hg hs ht h hz0 hz2 hi0 hz1
  go_enter Try.func37, Try.ntmps37
  go_wp2_with fail
  go_region_law_o (refine step_append_run13 rfl (.tmp 22) (.tmp 25) 41 41 rfl (.slice (some ⟨g, 0, none⟩) 0 cap) (.slice (some A) (n - k) (cap - k)) (by simp [Act.eval, Act.put]) (by simp [Act.eval, Act.put]) (HRUN.out A _ _ HA2.out) ?_)
  go_wp2_with fail
  go_ret
  exact ⟨rfl, HRD.out, HG.out⟩

end Go.Proofs.Ytmihddbnddgfhaa

/-
  The reference's tracker in memory (stage 13): List, Drop.
-/
namespace Go.Proofs.Ytmihddbnddgfhaa
open Go.RowKit

/-- What List answers: the done ones themselves. -/
def RListPost (W : World) (ds : List Dx) (l : List Dn) (e : Ending) (w' : World) : Prop :=
  ∃ p c es, e = .returned (.slice p es.length c) ∧ KDx.Own W.heap.size w' (.slice p es.length c) es ∧ (∀ d ∈ es, d ∈ ds) ∧ es.map Dx.dn = l ∧ Below W.heap.size W w'

set_option maxHeartbeats 4000000 in
set_option maxRecDepth 100000 in
theorem rlist13_any {n0 : Nat} {W : World} {g : Nat} {most : Nat} {ds : List Dx} {gn : List Bool} {sum : Int} {va vg : Value} (hR : RefT n0 W g most ds gn sum va vg) (hl : ds.length ≤ 1400000000000) :
    Calls Try.prog 18 #[.pointer (some ⟨g, 0, none⟩)] W fun e w' => RListPost W ds (keptG (ds.map Dx.dn) gn) e w' := by
  obtain ⟨i0, hi0, hz0, hz1, hz2⟩ := info_parts Try.infoDx13
  have HI0 := hid hi0
  clear hi0
  obtain ⟨⟨pa, ca, rfl⟩, pg, cg, rfl⟩ := hR.shape
  have HR := hid hR
  have HLN : Hid (gn.length = (ds.map Dx.dn).length) := by rw [List.length_map]; exact hR.len
  have HLG := hid hR.len
  have z0 : W.cell? ⟨g, 1, none⟩ = some (.slice pa ds.length ca) := by rw [Lib.cell_of_heap hR.obj]; rfl
  clear hR
  go_enter Try.func18, Try.ntmps18
  go_wp2_with fail
  clear z0
  go_loopg [3, 4] ds.length (fun gg vl vi wr => ∃ (i : Nat) (L : List Dx) (p : Option Addr) (c : Nat), vl = .slice p L.length c ∧ vi = .int .i64 i ∧ i ≤ ds.length ∧ ds.length - i ≤ gg ∧ L.length ≤ i ∧ Hid (RowSt KDx W.heap.size W (.slice p L.length c) L wr ∧ (∀ d ∈ L, d ∈ ds) ∧ L.map Dx.dn = keptG ((ds.map Dx.dn).take i) (gn.take i)))
  case atStart => exact ⟨0, [], none, 0, rfl, rfl, by omega, by omega, by simp, RowSt.nil KDx (Below.refl _ _) (Nat.le_refl _), (fun d hd => by cases hd), by simp [keptG]⟩
  case round =>
    obtain ⟨i, L, p, c, rfl, rfl, hi, hgk, hLi, HS⟩ := hrel
    have hR := HR.out.on HS.out.1.bel
    have z0 : wr.cell? ⟨g, 1, none⟩ = some (.slice pa ds.length ca) := by rw [Lib.cell_of_heap hR.obj]; rfl
    by_cases hlt : i < ds.length
    · have hlg : i < gn.length := by rw [HLG.out]; exact hlt
      have i1 : (0 : Int) ≤ ↑i := by omega
      have i2 : (↑i : Int) < ↑ds.length := by omega
      have i3 : (↑i : Int) < ↑gn.length := by omega
      have y0 : wr.cell? ⟨g, 2, none⟩ = some (.slice pg gn.length cg) := by rw [Lib.cell_of_heap hR.obj]; rfl
      obtain ⟨g1, rfl, _, _, k1, _⟩ := Kind.own_form hR.all (by omega)
      obtain ⟨g2, rfl, _, _, k2, _⟩ := Kind.own_form hR.gone (by omega)
      have z1 := kb13_at k2 i hlg
      obtain ⟨c0, c1, c2, c3, c4, c5⟩ := kdx_at k1 i hlt
      rw [Nat.zero_add] at z1 c0 c1 c2 c3 c4 c5
      have hk := keptG_take HLN.out (i := i) (by rw [List.length_map]; exact hlt)
      rw [List.getElem_map] at hk
      have HMEM := hid (List.getElem_mem hlt)
      generalize ds[i] = x at *
      cases hb : gn[i] with
      | true =>
        rw [hb] at z1 hk
        have HK : Hid (L.map Dx.dn = keptG ((ds.map Dx.dn).take (i + 1)) (gn.take (i + 1))) := by
          show _ = _
          rw [hk, HS.out.2.2]
          simp
        clear hk hb hR k1 k2
        go_wp2_with fail
        go_roundg (ds.length - (i + 1))
        case measure => omega
        exact ⟨i + 1, L, p, c, rfl, by go_num, by omega, by omega, by omega, HS.out.1, HS.out.2.1, HK.out⟩
      | false =>
        rw [hb] at z1 hk
        have HK : Hid ((L ++ [x]).map Dx.dn = keptG ((ds.map Dx.dn).take (i + 1)) (gn.take (i + 1))) := by
          show _ = _
          rw [hk, List.map_append, HS.out.2.2]
          rfl
        have HMM : Hid (∀ d ∈ L ++ [x], d ∈ ds) := fun d hd => by
          rcases List.mem_append.1 hd with h | h
          · exact HS.out.2.1 d h
          · rw [List.mem_singleton.1 h]; exact HMEM.out
        clear hk hb hR k1 k2
        obtain ⟨xs, xt, xo, ⟨mkp, mkc, mks, mrp, mrc, mrs⟩, xcp, xcc, xcs⟩ := x
        simp only [Mx.ksl, Mx.rsl, Dx.csl] at c3 c4 c5
        go_wp2_with (at_builtin; refine wpList_push KDx rfl _ _ 41 rfl i0 _ 96 Try.underlying41 HI0.out hz0 hz1 hz2 rfl W.heap.size W _ L rfl (HS.out.1.on ((Below.refl _ _).alloc (Nat.le_refl _) _)) ⟨xs, xt, xo, ⟨mkp, mkc, mks, mrp, mrc, mrs⟩, xcp, xcc, xcs⟩ _ _ _ rfl rfl _ _ (heap_alloc_new _ _) (by unfold maxLen; omega) (by omega) ?_; intro g8 c8 w8 hst8 hg8 hn8; have HS8 := hid hst8; clear hst8 hg8 hn8)
        go_roundg (ds.length - (i + 1))
        case measure => omega
        exact ⟨i + 1, L ++ [⟨xs, xt, xo, ⟨mkp, mkc, mks, mrp, mrc, mrs⟩, xcp, xcc, xcs⟩], some ⟨g8, 0, none⟩, c8, by rw [List.length_append]; rfl, by go_num, by omega, by omega, by rw [List.length_append, List.length_singleton]; omega, by rw [List.length_append]; exact HS8.out, HMM.out, HK.out⟩
    · have hltz : ¬ (i : Int) < (ds.length : Int) := by omega
      have HK : Hid (L.map Dx.dn = keptG (ds.map Dx.dn) gn) := by
        have := HS.out.2.2
        rw [List.take_of_length_le (by rw [List.length_map]; omega), List.take_of_length_le (by rw [HLG.out]; omega)] at this
        exact this
      clear hR
      go_wp2_with fail
      go_ret
      exact ⟨p, c, L, rfl, HS.out.1.own, HS.out.2.1, HK.out, HS.out.1.bel⟩

theorem typ_ne {w : World} {k : Nat} {cs cs' : Array Value} {T T' : TypeId} {f f' : Nat × Nat} (h : w.heap[k]? = some (.cells cs T f)) (h' : w.heap[k]? = some (.cells cs' T' f')) (hne : T ≠ T') : False := by
  rw [h] at h'
  injection h' with h'
  injection h' with _ h'
  exact hne h'
/-- The blocks of a done one are of types of their own. -/
theorem DOwn.typ {N : Nat} {w : World} {x : Dx} (h : DOwn N w x) (k : Nat) (hk : BlkD13 x k) {cs : Array Value} {T : TypeId} {f : Nat × Nat} (hc : w.heap[k]? = some (.cells cs T f)) (hT : T ≠ 67 ∧ T ≠ 85 ∧ T ≠ 87 ∧ T ≠ 70 ∧ T ≠ 90 ∧ T ≠ 9) : False := by
  obtain ⟨h1, h2, h3, h4, h5, h6⟩ := hT
  have hj : ∀ {u : Value} {o : List Fx}, OwnJ N w u o → BlkX u o k → False := fun {u o} hx hb => by
    rcases hb with hb | ⟨f, hf, hb⟩
    · obtain ⟨cs', q⟩ := own_type hx.1.1 hb
      exact typ_ne hc q h5
    · obtain ⟨cs', q⟩ := own_type (show w.ownsRow N 9 1 f.sl f.txt.length (f.txt.map Value.string) from hx.1.2 f hf) hb
      exact typ_ne hc q h6
  rcases hk with hk | hk | ⟨r, hr, hk⟩ | hk | ⟨c, hc', hk | hk⟩
  · obtain ⟨cs', q⟩ := own_type (show w.ownsRow N 67 KK.k x.m.ksl x.m.ks.length (KK.cells x.m.ks) from h.mrk.keys) hk
    exact typ_ne hc q h1
  · obtain ⟨cs', q⟩ := own_type (show w.ownsRow N 85 KRx.k x.m.rsl x.m.rs.length (KRx.cells x.m.rs) from h.mrk.rows) hk
    exact typ_ne hc q h2
  · obtain ⟨cs', q⟩ := own_type (show w.ownsRow N 87 KM.k r.sl r.tm.length (KM.cells r.tm) from (h.mrk.each r hr).1) hk
    exact typ_ne hc q h3
  · obtain ⟨cs', q⟩ := own_type (show w.ownsRow N 70 KCx.k x.csl x.cs.length (KCx.cells x.cs) from h.row) hk
    exact typ_ne hc q h4
  · exact hj (h.each c hc').was hk
  · exact hj (h.each c hc').is hk

/-- One goes. -/
theorem RefT.put {n0 : Nat} {W : World} {g : Nat} {most : Nat} {ds : List Dx} {gn : List Bool} {sum : Int} {va : Value} {g2 n c2 : Nat} (h : RefT n0 W g most ds gn sum va (.slice (some ⟨g2, 0, none⟩) n c2)) (hn : gn.length = n) {i : Nat} (hi : i < gn.length) :
    RefT n0 (W.setCell ⟨g2, i, none⟩ (.bool true)) g most ds (gn.set i true) sum va (.slice (some ⟨g2, 0, none⟩) n c2) := by
  have hob : (Value.slice (some ⟨g2, 0, none⟩) n c2).ownBlock = some g2 := by
    unfold Value.ownBlock
    simp
  obtain ⟨cs, hc⟩ := own_type (show W.ownsRow n0 4 KB13.k (.slice (some ⟨g2, 0, none⟩) n c2) gn.length (KB13.cells gn) from h.gone) hob
  have f := fr_set W g2 i (.bool true)
  refine ⟨(f.block g h.lt fun e => ?_).trans h.obj, h.low, f.row (show W.ownsRow n0 KDx.T KDx.k va ds.length (KDx.cells ds) from h.all) fun k hk e => ?_, Kind.own_put1 rfl h.gone hn i hi true (.bool true) rfl, fun d hd => ⟨(h.each d hd).1.frB f fun k hk e => ?_, (h.each d hd).2⟩, by rw [List.length_set]; exact h.len⟩
  · subst e
    exact typ_ne hc h.obj (by decide)
  · subst e
    obtain ⟨cs', q⟩ := own_type (show W.ownsRow n0 35 KDx.k va ds.length (KDx.cells ds) from h.all) hk
    exact typ_ne hc q (by decide)
  · subst e
    exact (h.each d hd).1.typ k hk hc (by decide)

/-- Half way through a drop. -/
def halfG (s : Int) (l : List Dn) (gn : List Bool) (i : Nat) : List Bool := (dropG s l gn).take i ++ gn.drop i

set_option maxHeartbeats 4000000 in
set_option maxRecDepth 100000 in
theorem rdrop13_any {n0 : Nat} {W : World} {g : Nat} {most : Nat} {ds : List Dx} {gn : List Bool} {sum : Int} {va vg : Value} (hR : RefT n0 W g most ds gn sum va vg) (hl : ds.length ≤ 9000000000000000000) (s : Int) :
    Calls Try.prog 28 #[.pointer (some ⟨g, 0, none⟩), .int .u64 s] W fun e w' => e = .returned (.int .i64 (((keptG (ds.map Dx.dn) gn).length : Int) - ((keptG (ds.map Dx.dn) (dropG s (ds.map Dx.dn) gn)).length : Int))) ∧ RefT n0 w' g most ds (dropG s (ds.map Dx.dn) gn) sum va vg ∧ Fr (fun b => vg.ownBlock = some b) W w' := by
  obtain ⟨⟨pa, ca, rfl⟩, pg, cg, rfl⟩ := hR.shape
  have hlz : (ds.map Dx.dn).length = ds.length := List.length_map _
  have hln : gn.length = (ds.map Dx.dn).length := by rw [List.length_map]; exact hR.len
  have HLG := hid hR.len
  have HDL := hid (dropG_len s (ds.map Dx.dn) gn hln)
  have HLN := hid hln
  have HST : Hid (∀ i, (hi : i < ds.length) → ∀ hg : i < gn.length, (halfG s (ds.map Dx.dn) gn i).length = gn.length ∧ (halfG s (ds.map Dx.dn) gn i)[i]? = some gn[i] ∧ (halfG s (ds.map Dx.dn) gn i).set i (gn[i] || decide ((ds[i]).stamp ≤ s)) = halfG s (ds.map Dx.dn) gn (i + 1)) := fun i hi hg => by
    have hl1 : ((dropG s (ds.map Dx.dn) gn).take i).length = i := by rw [List.length_take, HDL.out, hlz]; omega
    refine ⟨?_, ?_, ?_⟩
    · unfold halfG
      rw [List.length_append, hl1, List.length_drop]; omega
    · unfold halfG
      rw [List.getElem?_append_right (by omega), hl1, Nat.sub_self, List.getElem?_drop, Nat.add_zero, List.getElem?_eq_getElem hg]
    · have := dropG_step (s := s) hln (i := i) (by rw [hlz]; exact hi)
      rw [List.getElem_map] at this
      exact this
  have HKT : Hid (∀ i, (hi : i < ds.length) → ∀ hg : i < gn.length, (keptG ((ds.map Dx.dn).take (i + 1)) (gn.take (i + 1))).length = (keptG ((ds.map Dx.dn).take i) (gn.take i)).length + (if gn[i] then 0 else 1) ∧ (keptG ((ds.map Dx.dn).take (i + 1)) ((dropG s (ds.map Dx.dn) gn).take (i + 1))).length = (keptG ((ds.map Dx.dn).take i) ((dropG s (ds.map Dx.dn) gn).take i)).length + (if (gn[i] || decide ((ds[i]).stamp ≤ s)) then 0 else 1)) := fun i hi hg => by
    have h1 := keptG_take hln (i := i) (by rw [hlz]; exact hi)
    have h2 := keptG_take HDL.out (i := i) (by rw [hlz]; exact hi)
    have h3 := dropG_get s (ds.map Dx.dn) gn i (by rw [hlz]; exact hi) hg
    rw [List.getElem?_eq_getElem (by rw [HDL.out, hlz]; exact hi)] at h3
    rw [Option.some.inj h3, List.getElem_map] at h2
    rw [h1, h2, List.length_append, List.length_append]
    exact ⟨by cases gn[i] <;> rfl, by show _ + List.length (if (gn[i] || decide ((ds[i]).stamp ≤ s)) = true then [] else [(ds[i]).dn]) = _; cases (gn[i] || decide ((ds[i]).stamp ≤ s)) <;> rfl⟩
  have HR0 : Hid (RefT n0 W g most ds (halfG s (ds.map Dx.dn) gn 0) sum (.slice pa ds.length ca) (.slice pg gn.length cg)) := by
    show RefT _ _ _ _ _ _ _ _ _
    unfold halfG
    simpa using hR
  have z0 : W.cell? ⟨g, 1, none⟩ = some (.slice pa ds.length ca) := by rw [Lib.cell_of_heap hR.obj]; rfl
  clear hR hln
  go_enter Try.func28, Try.ntmps28
  go_wp2_with fail
  clear z0
  go_loopg [5, 6] ds.length (fun gg vn vi wr => ∃ i n : Nat, vn = .int .i64 n ∧ vi = .int .i64 i ∧ i ≤ ds.length ∧ ds.length - i ≤ gg ∧ n ≤ i ∧ Hid (RefT n0 wr g most ds (halfG s (ds.map Dx.dn) gn i) sum (.slice pa ds.length ca) (.slice pg gn.length cg) ∧ n + (keptG ((ds.map Dx.dn).take i) ((dropG s (ds.map Dx.dn) gn).take i)).length = (keptG ((ds.map Dx.dn).take i) (gn.take i)).length ∧ Fr (fun b => (Value.slice pg gn.length cg).ownBlock = some b) W wr))
  case atStart => exact ⟨0, 0, rfl, rfl, by omega, by omega, by omega, HR0.out, by simp [keptG], Fr.refl _ _⟩
  case round =>
    clear HR0
    obtain ⟨i, n, rfl, rfl, hi, hgk, hni, HS⟩ := hrel
    have hR := HS.out.1
    have z0 : wr.cell? ⟨g, 1, none⟩ = some (.slice pa ds.length ca) := by rw [Lib.cell_of_heap hR.obj]; rfl
    by_cases hlt : i < ds.length
    · have hlg : i < gn.length := by rw [HLG.out]; exact hlt
      have i1 : (0 : Int) ≤ ↑i := by omega
      have i2 : (↑i : Int) < ↑ds.length := by omega
      have i3 : (↑i : Int) < ↑gn.length := by omega
      have y0 : wr.cell? ⟨g, 2, none⟩ = some (.slice pg gn.length cg) := by rw [Lib.cell_of_heap hR.obj]; rfl
      obtain ⟨hh1, hh2, hh3⟩ := HST.out i hlt hlg
      obtain ⟨t1, t2⟩ := HKT.out i hlt hlg
      obtain ⟨g1, rfl, _, _, k1, _⟩ := Kind.own_form hR.all (by omega)
      obtain ⟨g2, rfl, _, _, k2, f2⟩ := Kind.own_form hR.gone (by omega)
      have z1 := kb13_at k2 i (by omega)
      have hh4 : (halfG s (ds.map Dx.dn) gn i)[i]'(by omega) = gn[i] := by
        rw [List.getElem?_eq_getElem (by omega)] at hh2
        exact Option.some.inj hh2
      rw [hh4] at z1
      have c1 := (kdx_at k1 i hlt).2.1
      rw [Nat.zero_add] at z1 c1
      have hself : (halfG s (ds.map Dx.dn) gn i).set i gn[i] = halfG s (ds.map Dx.dn) gn i := by
        rw [← hh4]; exact List.set_getElem_self _
      have hput := hR.put (g2 := g2) hh1 (i := i) (by omega)
      have z2 := f2 i
      generalize ds[i] = x at *
      cases hb : gn[i] with
      | true =>
        rw [hb] at z1 hh3 t1 t2 hself
        rw [Bool.true_or, hself] at hh3
        have HN : Hid (RefT n0 wr g most ds (halfG s (ds.map Dx.dn) gn (i + 1)) sum (.slice (some ⟨g1, 0, none⟩) ds.length ca) (.slice (some ⟨g2, 0, none⟩) gn.length cg) ∧ n + (keptG ((ds.map Dx.dn).take (i + 1)) ((dropG s (ds.map Dx.dn) gn).take (i + 1))).length = (keptG ((ds.map Dx.dn).take (i + 1)) (gn.take (i + 1))).length ∧ Fr (fun b => (Value.slice (some ⟨g2, 0, none⟩) gn.length cg).ownBlock = some b) W wr) := by
          refine ⟨by rw [← hh3]; exact hR, ?_, HS.out.2.2⟩
          rw [t1, t2]
          exact HS.out.2.1
        clear hb hR k1 k2 f2 hh1 hh2 hh3 hh4 hself t1 t2 hput
        go_wp2_with fail
        go_roundg (ds.length - (i + 1))
        case measure => omega
        exact ⟨i + 1, n, rfl, by go_num, by omega, by omega, by omega, HN.out⟩
      | false =>
        rw [hb] at z1 hh3 t1 t2 hself
        by_cases hs : x.stamp ≤ s
        · rw [decide_eq_true hs, Bool.false_or] at hh3 t2
          have HN : Hid (RefT n0 (wr.setCell ⟨g2, i, none⟩ (.bool true)) g most ds (halfG s (ds.map Dx.dn) gn (i + 1)) sum (.slice (some ⟨g1, 0, none⟩) ds.length ca) (.slice (some ⟨g2, 0, none⟩) gn.length cg) ∧ n + 1 + (keptG ((ds.map Dx.dn).take (i + 1)) ((dropG s (ds.map Dx.dn) gn).take (i + 1))).length = (keptG ((ds.map Dx.dn).take (i + 1)) (gn.take (i + 1))).length ∧ Fr (fun b => (Value.slice (some ⟨g2, 0, none⟩) gn.length cg).ownBlock = some b) W (wr.setCell ⟨g2, i, none⟩ (.bool true))) := by
            refine ⟨by rw [← hh3]; exact hput, ?_, HS.out.2.2.then (fr_set wr g2 i _) fun k hk => Or.inl ?_⟩
            · rw [t1, t2]
              have := HS.out.2.1
              simp only [if_true, Bool.false_eq_true, if_false]
              omega
            · subst hk
              unfold Value.ownBlock
              simp
          clear hb hR k1 k2 f2 hh1 hh2 hh3 hh4 hself t1 t2 hput
          go_wp2_with fail
          go_roundg (ds.length - (i + 1))
          case measure => omega
          exact ⟨i + 1, n + 1, by go_num, by go_num, by omega, by omega, by omega, HN.out⟩
        · rw [decide_eq_false hs, Bool.false_or, hself] at hh3
          rw [decide_eq_false hs, Bool.false_or] at t2
          have HN : Hid (RefT n0 wr g most ds (halfG s (ds.map Dx.dn) gn (i + 1)) sum (.slice (some ⟨g1, 0, none⟩) ds.length ca) (.slice (some ⟨g2, 0, none⟩) gn.length cg) ∧ n + (keptG ((ds.map Dx.dn).take (i + 1)) ((dropG s (ds.map Dx.dn) gn).take (i + 1))).length = (keptG ((ds.map Dx.dn).take (i + 1)) (gn.take (i + 1))).length ∧ Fr (fun b => (Value.slice (some ⟨g2, 0, none⟩) gn.length cg).ownBlock = some b) W wr) := by
            refine ⟨by rw [← hh3]; exact hR, ?_, HS.out.2.2⟩
            rw [t1, t2]
            have := HS.out.2.1
            simp only [Bool.false_eq_true, if_false]
            omega
          clear hb hR k1 k2 f2 hh1 hh2 hh3 hh4 hself t1 t2 hput
          go_wp2_with fail
          go_roundg (ds.length - (i + 1))
          case measure => omega
          exact ⟨i + 1, n, rfl, by go_num, by omega, by omega, by omega, HN.out⟩
    · have hltz : ¬ (i : Int) < (ds.length : Int) := by omega
      have HN : Hid ((n : Int) = ((keptG (ds.map Dx.dn) gn).length : Int) - ((keptG (ds.map Dx.dn) (dropG s (ds.map Dx.dn) gn)).length : Int) ∧ RefT n0 wr g most ds (dropG s (ds.map Dx.dn) gn) sum (.slice pa ds.length ca) (.slice pg gn.length cg)) := by
        have h1 := HS.out.2.1
        have h2 := hR
        unfold halfG at h2
        rw [List.take_of_length_le (by rw [hlz]; omega), List.take_of_length_le (by rw [HDL.out, hlz]; omega), List.take_of_length_le (by rw [HLG.out]; omega)] at h1
        rw [List.take_of_length_le (by rw [HDL.out, hlz]; omega), List.drop_eq_nil_of_le (by rw [HLG.out]; omega), List.append_nil] at h2
        exact ⟨by omega, h2⟩
      clear hR
      go_wp2_with fail
      go_ret
      exact ⟨by rw [← HN.out.1]; rfl, HN.out.2, HS.out.2.2⟩

end Go.Proofs.Ytmihddbnddgfhaa

/-
  Package track (stage 13): a tracker that turns; Drop.
-/
namespace Go.Proofs.Ytmihddbnddgfhaa
open Go.RowKit

section
variable {n0 : Nat} {W : World} {g : Nat} {t : Tk} {ds : List Dx} {va : Value} {last : Int}
theorem TrkM.row_ne (h : TrkM n0 W g t ds va last) (k : Nat) (hk : va.ownBlock = some k) : k ≠ g := fun e => by
  subst e
  obtain ⟨cs', q⟩ := own_type (show W.ownsRow n0 35 KDx.k va ds.length (KDx.cells ds) from h.all) hk
  exact typ_ne h.obj q (by decide)
theorem TrkM.each_ne (h : TrkM n0 W g t ds va last) {d : Dx} (hd : d ∈ ds) (k : Nat) (hk : BlkD13 d k) : ¬ (k = g ∨ va.ownBlock = some k) := fun e => by
  rcases e with e | e
  · subst e
    exact (h.each d hd).1.typ k hk h.obj (by decide)
  · obtain ⟨cs', q⟩ := own_type (show W.ownsRow n0 35 KDx.k va ds.length (KDx.cells ds) from h.all) e
    exact (h.each d hd).1.typ k hk q (by decide)
/-- A done one of the tracker stands where its row and its block turn. -/
theorem TrkM.each_fr {W' : World} (h : TrkM n0 W g t ds va last) (f : Fr (fun b => b = g ∨ va.ownBlock = some b) W W') {d : Dx} (hd : d ∈ ds) : QD.E n0 W' d := QD.fr (h.each d hd) f fun k hk => h.each_ne hd k hk
/-- A cell of the tracker is set. -/
theorem TrkM.set (h : TrkM n0 W g t ds va last) (j : Nat) (u : Value) : KDx.Own n0 (W.setCell ⟨g, j, none⟩ u) va ds ∧ ∀ d ∈ ds, QD.E n0 (W.setCell ⟨g, j, none⟩ u) d := by
  have f := fr_set W g j u
  exact ⟨f.row (show W.ownsRow n0 KDx.T KDx.k va ds.length (KDx.cells ds) from h.all) fun k hk => h.row_ne k hk, fun d hd => QD.fr (h.each d hd) f fun k hk e => h.each_ne hd k hk (Or.inl e)⟩
end

/-- What a call that turns a tracker leaves. -/
def TrkPost (n0 : Nat) (W : World) (g : Nat) (ds : List Dx) (va : Value) (t' : Tk) (w' : World) : Prop :=
  ∃ ds' va' last', TrkM n0 w' g t' ds' va' last' ∧ Fr (BlkTr g ds va) W w' ∧ ∀ k, BlkTr g ds' va' k → BlkTr g ds va k ∨ W.heap.size ≤ k

set_option maxHeartbeats 4000000 in
set_option maxRecDepth 100000 in
theorem tdrop_any {n0 : Nat} {W : World} {g : Nat} {t : Tk} {ds : List Dx} {va : Value} {last : Int} (h : TrkM n0 W g t ds va last) (s : Int) :
    Calls Try.prog 21 #[.pointer (some ⟨g, 0, none⟩), .int .u64 s] W fun e w' => e = .returned (.int .i64 ((t.kept.length : Int) - ((dropT t s).kept.length : Int))) ∧ TrkPost n0 W g ds va (dropT t s) w' := by
  have HK := hid (tkept_any h)
  have HTH : Hid (∀ V, Below W.heap.size W V → Calls Try.prog 36 #[va, .int .u64 s] V fun e w' => (∃ k : Nat, e = .returned (.int .i64 k) ∧ ThrP ds s k) ∧ Below V.heap.size V w') := fun V hV => through_any va ds s V (Kind.own_is (h.on hV).all) (by have := h.few; omega)
  have hall := h.all
  obtain ⟨p, c, rfl⟩ := h.shape
  have HH := hid h
  have HNUM : Hid (∀ k, ThrP ds s k → ((k : Int) = (t.kept.length : Int) - ((dropT t s).kept.length : Int)) ∧ (dropT t s).kept = t.kept.drop k) := fun k hk => by
    have hc := h.cut hk
    have e := hc.kept t rfl
    refine ⟨?_, e⟩
    rw [e, List.length_drop]
    have := hc.le
    omega
  have hfew := h.few
  clear h
  go_enter Try.func21, Try.ntmps21
  go_wp2_with fail
  refine HK.out.mono ?_
  rintro e w1 ⟨rfl, hb1⟩
  have HB1 := hid hb1
  have HT1 := hid (HTH.out w1 hb1)
  clear hb1 HTH HK
  go_wp2_with fail
  refine HT1.out.mono ?_
  rintro e w2 ⟨⟨k, rfl, hk⟩, hb2⟩
  have hb : Below W.heap.size W w2 := bel_then HB1.out HB1.out.size hb2
  obtain ⟨hnum, hkd⟩ := HNUM.out k hk
  have h2 := HH.out.on hb
  have HN := hid hnum
  have hkl := hk.1
  have HOK : Hid (TrkM n0 w2 g t ds (.slice p ds.length c) last ∧ Below W.heap.size W w2 ∧ (dropT t s).kept = (ds.drop k).map Dx.dn) := ⟨h2, hb, by rw [hkd, ← HH.out.kept, List.map_drop]⟩
  clear hnum hkd hk hb2 hb HT1 HNUM
  by_cases hk0 : k = 0
  · subst hk0
    clear h2 hall
    go_wp2_with fail
    go_ret
    refine ⟨by rw [← HN.out]; rfl, ds, _, last, ?_, Fr.of_below HOK.out.2.1, fun k hk => Or.inl hk⟩
    obtain ⟨q, _, q2⟩ := HOK.out
    exact ⟨q.obj, q.low, q.all, q.each, by rw [q2]; rfl, q.hlast, q.lastb, q.sumb, ok_dropT q.ok s, q.room⟩
  · have hkp : 0 < k := by omega
    have hkz : ((k : Int) > 0) := by omega
    obtain ⟨g1, rfl⟩ : ∃ g1, p = some ⟨g1, 0, none⟩ := by
      rcases hall.2 with ⟨_, h2⟩ | ⟨g1, c1, cur, h1, _⟩
      · omega
      · injection h1 with e1
        exact ⟨g1, e1⟩
    clear hall
    have HDL := hid (delD_any n0 g1 ds.length c k ds w2 h2.all hkp hkl)
    have z0 : w2.cell? ⟨g, 1, none⟩ = some (.slice (some ⟨g1, 0, none⟩) ds.length c) := by rw [Lib.cell_of_heap h2.obj]; rfl
    clear h2
    go_wp2_with fail
    clear z0
    refine HDL.out.mono ?_
    rintro e w3 ⟨rfl, ho3, hg3⟩
    have h2 := HOK.out.1
    have hob : (Value.slice (some ⟨g1, 0, none⟩) ds.length c).ownBlock = some g1 := by
      unfold Value.ownBlock
      simp
    have hgg : g ≠ g1 := fun e => h2.row_ne g1 hob e.symm
    have f3 : Fr (fun b => b = g1) w2 w3 := Fr.of_grown hg3 fun k hk => by simpa using hk.symm
    have e3 : w3.heap[g]? = _ := (f3.block g h2.lt hgg).trans h2.obj
    obtain ⟨W4, hW4⟩ : ∃ W4, w3.setCell ⟨g, 1, none⟩ (.slice (some ⟨g1, 0, none⟩) (ds.length - k) c) = W4 := ⟨_, rfl⟩
    have e4 : W4.heap[g]? = some (.cells #[.int .i64 (t.most : Nat), .slice (some ⟨g1, 0, none⟩) (ds.length - k) c, .int .u64 t.sum, .int .u64 last] 72 (0, 0)) := by
      rw [← hW4]
      exact heap_setCell_same _ g 1 _ _ _ e3
    have f4 : Fr (fun b => b = g) w3 W4 := by rw [← hW4]; exact fr_set w3 g 1 _
    have f24 : Fr (fun b => b = g ∨ (Value.slice (some ⟨g1, 0, none⟩) ds.length c).ownBlock = some b) w2 W4 :=
      (f3.mono fun k hk => Or.inr (by rw [hk]; exact hob)).then f4 fun k hk => Or.inl (Or.inl hk)
    have ho4 : KDx.Own n0 W4 (.slice (some ⟨g1, 0, none⟩) (ds.length - k) c) (ds.drop k) :=
      f4.row (show w3.ownsRow n0 KDx.T KDx.k (.slice (some ⟨g1, 0, none⟩) (ds.length - k) c) (ds.drop k).length (KDx.cells (ds.drop k)) from ho3) fun b hb e => by
        unfold Value.ownBlock at hb
        simp at hb
        omega
    have HF : Hid (TrkPost n0 W g ds (.slice (some ⟨g1, 0, none⟩) ds.length c) (dropT t s) W4) := by
      refine ⟨ds.drop k, _, last, ⟨e4, h2.low, ho4, fun d hd => h2.each_fr f24 (List.mem_of_mem_drop hd), HOK.out.2.2.symm, h2.hlast, h2.lastb, h2.sumb, ok_dropT h2.ok s, h2.room⟩, ?_, fun b hb => Or.inl ?_⟩
      · exact (Fr.of_below HOK.out.2.1).then f24 fun b hb => Or.inl (hb.imp id Or.inl)
      · rcases hb with hb | hb | ⟨d, hd, hb⟩
        · exact Or.inl hb
        · refine Or.inr (Or.inl ?_)
          rw [hob]
          unfold Value.ownBlock at hb
          simp at hb
          rw [hb]
        · exact Or.inr (Or.inr ⟨d, List.mem_of_mem_drop hd, hb⟩)
    have z1 : w3.cell? ⟨g, 1, none⟩ = some (.slice (some ⟨g1, 0, none⟩) ds.length c) := by rw [Lib.cell_of_heap e3]; rfl
    have y1 : w3.frozen? ⟨g, 1, none⟩ = false := Lib.frozen_of_heap e3 1
    clear h2 hob hgg f3 e3 e4 f4 f24 ho4 ho3 hg3 HDL
    go_wp2_with fail
    try rw [hW4]
    go_ret
    exact ⟨by rw [← HN.out]; rfl, HF.out⟩

set_option maxHeartbeats 1000000 in
theorem tdrop_nil (W : World) (s : Int) : Calls Try.prog 21 #[.pointer none, .int .u64 s] W fun e w' => e = .returned (.int .i64 0) ∧ Below W.heap.size W w' := by
  have HK := hid (tkept_nil W)
  have HTH : Hid (∀ V : World, Calls Try.prog 36 #[.slice none 0 0, .int .u64 s] V fun e w' => e = .returned (.int .i64 0) ∧ Below V.heap.size V w') := fun V =>
    (through_any (.slice none 0 0) [] s V (Kind.is_nil _ _) (by simp)).mono fun e w' ⟨⟨k, he, hk⟩, hb⟩ => by
      have h0 : k = 0 := by have := hk.1; simp at this; exact this
      subst h0
      exact ⟨he, hb⟩
  go_enter Try.func21, Try.ntmps21
  go_wp2_with fail
  refine HK.out.mono ?_
  rintro e w1 ⟨rfl, hb1⟩
  have HB1 := hid hb1
  have HT1 := hid (HTH.out w1)
  clear hb1
  go_wp2_with fail
  refine HT1.out.mono ?_
  rintro e w2 ⟨rfl, hb2⟩
  have HB2 := hid (bel_then HB1.out HB1.out.size hb2)
  clear hb2
  go_wp2_with fail
  go_ret
  exact ⟨rfl, HB2.out⟩

end Go.Proofs.Ytmihddbnddgfhaa
