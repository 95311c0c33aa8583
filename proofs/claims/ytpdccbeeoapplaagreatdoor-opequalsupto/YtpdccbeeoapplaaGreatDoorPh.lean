/-
  Texts of this claim, one behind the other: Oxq Cob Coz Ozx Bal Hoe Ojo Ojz Oob Oxl Oxv.
-/
import Derived.Test.YtpdccbeeoapplaaGreatDoorPf
import Derived.Test.YtpdccbeeoapplaaGreatDoorPg
import Derived.Test.YtpdccbeeoapplaaGreatDoorPd
import Derived.Test.YtpdccbeeoapplaaGreatDoorRows
import Derived.MakeChecks
import Derived.ProofKit
import Derived.OpenShut
import Derived.Lay
import Derived.Stop.Joined
import Derived.SliceStrings
import Derived.Deep.SlicePairs
import Derived.Lib.LaidU8
import Derived.SizedLaws
import Derived.ChangeSlices
import Derived.JoinedCond
import Derived.Lib.SmallJoins
import Derived.ShutString
import Derived.Below
import Derived.Deep.DeepHandedRow
import Derived.Test.YtpdccbeeoapplaaGreatDoorPc
import Derived.Test.YtpdccbeeoapplaaGreatDoorPa
import Derived.Stop.LaidErr
import Derived.LaidLaws
import Derived.Lib.LaidTab
import Derived.Shelf.Vars
namespace Go.Proofs.YtpdccbeeoapplaaGreatDoor
open Go.RowKit Go.Lib
set_option maxHeartbeats 8000000 in
set_option maxRecDepth 100000 in
theorem equals16_any (o o' : Bool) (a a' : Option Addr) (cap cap' : Nat) (d d' : List Ex) (w : World) (hd : RqIn w (.slice a d.length cap) d) (hd' : RqIn w (.slice a' d'.length cap') d') (hv : OpVars w)
    (hc : ∀ x ∈ d, CopyX x.vo ∧ x.eo.length ≤ 1048576 ∧ x.po.length ≤ 1048576) (hf : d.length ≤ 1048576) :
    Calls Tryz.prog 6 #[.agg #[.bool o, .slice a d.length cap], .agg #[.bool o', .slice a' d'.length cap']] w fun e w' => e = .returned (.bool true) ∧ Below w.heap.size w w' := by
  have HD := hid hd
  have HD' := hid hd'
  have HCP := hid hc
  obtain ⟨a1, cap1, hq, hrow⟩ := hd.row
  cases hq
  have HR := hid hrow
  have hb0 : Below w.heap.size w ((w.alloc (.cells #[.bool o, .slice a d.length cap] 24)).alloc (.cells #[.bool o', .slice a' d'.length cap'] 24)) := ((Below.refl _ _).alloc (Nat.le_refl _) _).alloc (by simp) _
  have HFX := hid (fixed16_any _ (hv.on hb0))
  obtain ⟨V0, hV0⟩ : ∃ V0, ((w.alloc (.cells #[.bool o, .slice a d.length cap] 24)).alloc (.cells #[.bool o', .slice a' d'.length cap'] 24)) = V0 := ⟨_, rfl⟩
  have HB0 : Hid (Below w.heap.size w V0) := hid (by rw [← hV0]; exact hb0)
  have HQ0 : Hid (V0.heap[w.heap.size]? = some (.cells #[.bool o, .slice a d.length cap] 24 (0, 0))) := hid (by rw [← hV0]; exact (Below.heap_alloc _ _ _ (by simp)).trans (heap_alloc_new w _))
  have HP0 : Hid (V0.heap[w.heap.size + 1]? = some (.cells #[.bool o', .slice a' d'.length cap'] 24 (0, 0))) := hid (by rw [← hV0]; have := heap_alloc_new (w.alloc (.cells #[.bool o, .slice a d.length cap] 24)) (.cells #[.bool o', .slice a' d'.length cap'] 24); simpa using this)
  rw [hV0] at HFX
  clear hd hd' hrow hv hc hb0
  go_enter Tryz.func6, Tryz.ntmps6
  go_wp2_with fail
  try rw [hV0]
  clear hV0
  refine HFX.out.mono ?_
  rintro e w1 ⟨rfl, hb1⟩
  have HB1 := hid (HB0.out.trans (hb1.mono HB0.out.size))
  have HQ1 : Hid (w1.heap[w.heap.size]? = some (.cells #[.bool o, .slice a d.length cap] 24 (0, 0))) := hid ((hb1.block _ (Array.getElem?_eq_some_iff.1 HQ0.out).1).trans HQ0.out)
  have HP1 : Hid (w1.heap[w.heap.size + 1]? = some (.cells #[.bool o', .slice a' d'.length cap'] 24 (0, 0))) := hid ((hb1.block _ (Array.getElem?_eq_some_iff.1 HP0.out).1).trans HP0.out)
  obtain ⟨k1, k2, _, _⟩ := two_facts HQ1.out
  clear hb1 HFX HB0 HQ0 HP0 V0
  go_wp2_with fail
  go_loopg [12] d.length (fun g vi wr => ∃ (i : Nat), vi = .int .i64 i ∧ i ≤ d.length ∧ d.length - i ≤ g ∧ Hid (Below w.heap.size w wr) ∧ Hid (wr.heap[w.heap.size]? = some (.cells #[.bool o, .slice a d.length cap] 24 (0, 0))) ∧ Hid (wr.heap[w.heap.size + 1]? = some (.cells #[.bool o', .slice a' d'.length cap'] 24 (0, 0))))
  case atStart => exact ⟨0, rfl, by omega, by omega, HB1, HQ1, HP1⟩
  case round =>
    obtain ⟨i, rfl, hi, hig, HB, HQ, HP⟩ := hrel
    by_cases hlt : i < d.length
    · have hltz : (i : Int) < (d.length : Int) := by omega
      have hiz : (0 : Int) ≤ (i : Int) := by omega
      obtain ⟨b, off, rfl, hat⟩ : ∃ b off, a = some ⟨b, off, none⟩ ∧ KEx.At w b off d := by
        rcases HR.out with h | ⟨b, off, h1, h2⟩
        · rw [h] at hlt; simp at hlt
        · exact ⟨b, off, h1, h2⟩
      obtain ⟨y, hy⟩ : ∃ y, d[i]? = some y := ⟨_, List.getElem?_eq_getElem hlt⟩
      obtain ⟨c0, c1, c2, c3, c4, c5, c6, c7, c8, c9⟩ := row_cellsQ (Kind.at_kept hat HB.out) i y hy
      simp only [Nat.add_zero] at c0
      obtain ⟨G, hG⟩ : ∃ G, wr.heap.size = G := ⟨_, rfl⟩
      obtain ⟨W1, hW1⟩ : ∃ W1, wr.alloc (.cells #[.int .i64 y.kind, .string y.temp, .string y.ka, .string y.kb, .int .i64 y.iff, .slice y.vp y.vo.length y.vc, .slice y.ep y.eo.length y.ec, .slice y.pp y.po.length y.pc, .int .u64 y.stamp, .int .i64 y.num] 41) = W1 := ⟨_, rfl⟩
      have hb1 : Below wr.heap.size wr W1 := by rw [← hW1]; exact (Below.refl _ _).alloc (Nat.le_refl _) _
      have HX1 : Hid (W1.heap[G]? = some (.cells #[.int .i64 y.kind, .string y.temp, .string y.ka, .string y.kb, .int .i64 y.iff, .slice y.vp y.vo.length y.vc, .slice y.ep y.eo.length y.ec, .slice y.pp y.po.length y.pc, .int .u64 y.stamp, .int .i64 y.num] 41 (0, 0))) := hid (by rw [← hW1, ← hG]; exact heap_alloc_new wr _)
      have HB1 := hid hb1
      have HS6 : Hid (∀ w', Below W1.heap.size W1 w' → w'.cell? ⟨G, 0, none⟩ = some (.int .i64 y.kind) ∧ w'.cell? ⟨G, 1, none⟩ = some (.string y.temp) ∧ w'.cell? ⟨G, 2, none⟩ = some (.string y.ka) ∧ w'.cell? ⟨G, 3, none⟩ = some (.string y.kb) ∧ w'.cell? ⟨G, 4, none⟩ = some (.int .i64 y.iff) ∧ w'.cell? ⟨G, 5, none⟩ = some (.slice y.vp y.vo.length y.vc) ∧ w'.cell? ⟨G, 6, none⟩ = some (.slice y.ep y.eo.length y.ec) ∧ w'.cell? ⟨G, 7, none⟩ = some (.slice y.pp y.po.length y.pc) ∧ w'.cell? ⟨G, 8, none⟩ = some (.int .u64 y.stamp) ∧ w'.cell? ⟨G, 9, none⟩ = some (.int .i64 y.num)) := hid fun w' h => by
        have hx := (h.block G (Array.getElem?_eq_some_iff.1 HX1.out).1).trans HX1.out
        refine ⟨?_, ?_, ?_, ?_, ?_, ?_, ?_, ?_, ?_, ?_⟩ <;> (rw [Lib.cell_of_heap hx]; rfl)
      have hs6 := HS6.out W1.drew (bel_drewN (Below.refl _ _) 1)
      clear hat hy hb1
      go_upto_region 6 with fail
      try rw [hW1]
      try rw [hG]
      clear hW1 c0 c1 c2 c3 c4 c5 c6 c7 c8 c9
      go_cut [12, 26] from 12 to 27 (fun v12 v26 wx => v12 = .int .i64 i ∧ v26 = .bool false ∧ Hid (Below W1.heap.size W1 wx))
      case first =>
        by_cases h1 : 1 ≤ y.kind
        case neg =>
          have HW2 : Hid (Calls Tryz.prog 17 #[.agg #[.int .i64 y.kind, .string y.temp, .string y.ka, .string y.kb, .int .i64 y.iff, .slice y.vp y.vo.length y.vc, .slice y.ep y.eo.length y.ec, .slice y.pp y.po.length y.pc, .int .u64 y.stamp, .int .i64 y.num]] W1.drew fun e w' => e = .returned (.bool false) ∧ Below W1.drew.heap.size W1.drew w') := hid (by
            have h := opWrites_any y W1.drew
            have e : (decide (1 ≤ y.kind) && decide (y.kind ≤ 5)) = false := by rw [decide_eq_false h1]; rfl
            rw [e] at h
            exact h)
          refine wp_region_held_drew (S := fun w' => w'.cell? ⟨G, 0, none⟩ = some (.int .i64 y.kind) ∧ w'.cell? ⟨G, 1, none⟩ = some (.string y.temp) ∧ w'.cell? ⟨G, 2, none⟩ = some (.string y.ka) ∧ w'.cell? ⟨G, 3, none⟩ = some (.string y.kb) ∧ w'.cell? ⟨G, 4, none⟩ = some (.int .i64 y.iff) ∧ w'.cell? ⟨G, 5, none⟩ = some (.slice y.vp y.vo.length y.vc) ∧ w'.cell? ⟨G, 6, none⟩ = some (.slice y.ep y.eo.length y.ec) ∧ w'.cell? ⟨G, 7, none⟩ = some (.slice y.pp y.po.length y.pc) ∧ w'.cell? ⟨G, 8, none⟩ = some (.int .u64 y.stamp) ∧ w'.cell? ⟨G, 9, none⟩ = some (.int .i64 y.num)) (by kernel_rfl) hs6 (fun hHeld => ?_)
          refine take_val (i := 0) (.agg #[.int .i64 y.kind, .string y.temp, .string y.ka, .string y.kb, .int .i64 y.iff, .slice y.vp y.vo.length y.vc, .slice y.ep y.eo.length y.ec, .slice y.pp y.po.length y.pc, .int .u64 y.stamp, .int .i64 y.num]) rfl (by kernel_rfl) (by kernel_rfl) (by kernel_rfl) (fun _ _ _ h => h) (by rfl) (fun w hSw => by go_simp) hHeld ?_
          simp only [Act.put, List.setIfInBounds_toArray, List.set_cons_zero, List.set_cons_succ]
          refine take_val (i := 2) (.pointer (some ⟨G, 0, none⟩)) rfl (by kernel_rfl) (by kernel_rfl) (by kernel_rfl) (fun _ _ _ h => h) (by rfl) (fun w hSw => by go_simp) hHeld ?_
          simp only [Act.put, List.setIfInBounds_toArray, List.set_cons_zero, List.set_cons_succ]
          refine take_val (i := 3) (.int .i64 y.kind) rfl (by kernel_rfl) (by kernel_rfl) (by kernel_rfl) (fun _ _ _ h => h) (by rfl) (fun w hSw => by go_simp) hHeld ?_
          simp only [Act.put, List.setIfInBounds_toArray, List.set_cons_zero, List.set_cons_succ]
          refine take_val (i := 4) (.bool false) rfl (by kernel_rfl) (by kernel_rfl) (by kernel_rfl) (fun _ _ _ h => h) (by rfl) (fun w hSw => by go_simp) hHeld ?_
          simp only [Act.put, List.setIfInBounds_toArray, List.set_cons_zero, List.set_cons_succ]
          refine wpAnyH_ready (rs := [1]) (by kernel_rfl) (by simp) ?_
          refine AllReadyH.cons (at_drop0 rfl) (fun K hK => ?_) AllReadyH.nil
          rw [if_pos (by rfl)]
          go_simp
          refine HW2.out.mono ?_
          rintro e w3 ⟨rfl, hb3⟩
          have hb3' : Below W1.heap.size W1 w3 := (bel_drewN (Below.refl W1.heap.size W1) 1).trans hb3
          have q3 := HS6.out w3 hb3'
          have HB3 := hid hb3'
          clear hb3 hb3'
          go_wp2_with fail
          refine hK.out _ _ q3 (fun hHeld => ?_)
          clear hK K
          try simp only [Act.put, List.setIfInBounds_toArray, List.set_cons_zero, List.set_cons_succ]
          refine take_val (i := 5) (.bool false) rfl (by kernel_rfl) (by kernel_rfl) (by kernel_rfl) (fun _ _ _ h => h) (by rfl) (fun w hSw => by go_simp) hHeld ?_
          simp only [Act.put, List.setIfInBounds_toArray, List.set_cons_zero, List.set_cons_succ]
          refine take_not (i := 6) rfl (by kernel_rfl) (by kernel_rfl) (by kernel_rfl) (fun _ _ _ h => h) (by rfl) hHeld ?_
          simp only [Act.put, List.setIfInBounds_toArray, List.set_cons_zero, List.set_cons_succ]
          refine take_not (i := 7) rfl (by kernel_rfl) (by kernel_rfl) (by kernel_rfl) (fun _ _ _ h => h) (by rfl) hHeld ?_
          simp only [Act.put, List.setIfInBounds_toArray, List.set_cons_zero, List.set_cons_succ]
          refine take_not (i := 8) rfl (by kernel_rfl) (by kernel_rfl) (by kernel_rfl) (fun _ _ _ h => h) (by rfl) hHeld ?_
          simp only [Act.put, List.setIfInBounds_toArray, List.set_cons_zero, List.set_cons_succ]
          refine take_val (i := 9) (.bool false) rfl (by kernel_rfl) (by kernel_rfl) (by kernel_rfl) (fun _ _ _ h => h) (by rfl) (fun w hSw => by go_simp) hHeld ?_
          simp only [Act.put, List.setIfInBounds_toArray, List.set_cons_zero, List.set_cons_succ]
          refine take_val (i := 10) (.bool false) rfl (by kernel_rfl) (by kernel_rfl) (by kernel_rfl) (fun _ _ _ h => h) (by rfl) (fun w hSw => by go_simp) hHeld ?_
          simp only [Act.put, List.setIfInBounds_toArray, List.set_cons_zero, List.set_cons_succ]
          refine wpAnyH_done (by kernel_rfl) ?_ _
          clear hHeld
          go_wp2_with fail
          go_meet
          case rel => exact ⟨rfl, rfl, HB3⟩
        by_cases h5 : y.kind ≤ 5
        case neg =>
          have HW2 : Hid (Calls Tryz.prog 17 #[.agg #[.int .i64 y.kind, .string y.temp, .string y.ka, .string y.kb, .int .i64 y.iff, .slice y.vp y.vo.length y.vc, .slice y.ep y.eo.length y.ec, .slice y.pp y.po.length y.pc, .int .u64 y.stamp, .int .i64 y.num]] W1.drew fun e w' => e = .returned (.bool false) ∧ Below W1.drew.heap.size W1.drew w') := hid (by
            have h := opWrites_any y W1.drew
            have e : (decide (1 ≤ y.kind) && decide (y.kind ≤ 5)) = false := by rw [decide_eq_true h1, decide_eq_false h5]; rfl
            rw [e] at h
            exact h)
          refine wp_region_held_drew (S := fun w' => w'.cell? ⟨G, 0, none⟩ = some (.int .i64 y.kind) ∧ w'.cell? ⟨G, 1, none⟩ = some (.string y.temp) ∧ w'.cell? ⟨G, 2, none⟩ = some (.string y.ka) ∧ w'.cell? ⟨G, 3, none⟩ = some (.string y.kb) ∧ w'.cell? ⟨G, 4, none⟩ = some (.int .i64 y.iff) ∧ w'.cell? ⟨G, 5, none⟩ = some (.slice y.vp y.vo.length y.vc) ∧ w'.cell? ⟨G, 6, none⟩ = some (.slice y.ep y.eo.length y.ec) ∧ w'.cell? ⟨G, 7, none⟩ = some (.slice y.pp y.po.length y.pc) ∧ w'.cell? ⟨G, 8, none⟩ = some (.int .u64 y.stamp) ∧ w'.cell? ⟨G, 9, none⟩ = some (.int .i64 y.num)) (by kernel_rfl) hs6 (fun hHeld => ?_)
          refine take_val (i := 0) (.agg #[.int .i64 y.kind, .string y.temp, .string y.ka, .string y.kb, .int .i64 y.iff, .slice y.vp y.vo.length y.vc, .slice y.ep y.eo.length y.ec, .slice y.pp y.po.length y.pc, .int .u64 y.stamp, .int .i64 y.num]) rfl (by kernel_rfl) (by kernel_rfl) (by kernel_rfl) (fun _ _ _ h => h) (by rfl) (fun w hSw => by go_simp) hHeld ?_
          simp only [Act.put, List.setIfInBounds_toArray, List.set_cons_zero, List.set_cons_succ]
          refine take_val (i := 2) (.pointer (some ⟨G, 0, none⟩)) rfl (by kernel_rfl) (by kernel_rfl) (by kernel_rfl) (fun _ _ _ h => h) (by rfl) (fun w hSw => by go_simp) hHeld ?_
          simp only [Act.put, List.setIfInBounds_toArray, List.set_cons_zero, List.set_cons_succ]
          refine take_val (i := 3) (.int .i64 y.kind) rfl (by kernel_rfl) (by kernel_rfl) (by kernel_rfl) (fun _ _ _ h => h) (by rfl) (fun w hSw => by go_simp) hHeld ?_
          simp only [Act.put, List.setIfInBounds_toArray, List.set_cons_zero, List.set_cons_succ]
          refine take_val (i := 4) (.bool true) rfl (by kernel_rfl) (by kernel_rfl) (by kernel_rfl) (fun _ _ _ h => h) (by rfl) (fun w hSw => by go_simp) hHeld ?_
          simp only [Act.put, List.setIfInBounds_toArray, List.set_cons_zero, List.set_cons_succ]
          refine wpAnyH_ready (rs := [1]) (by kernel_rfl) (by simp) ?_
          refine AllReadyH.cons (at_drop0 rfl) (fun K hK => ?_) AllReadyH.nil
          rw [if_pos (by rfl)]
          go_simp
          refine HW2.out.mono ?_
          rintro e w3 ⟨rfl, hb3⟩
          have hb3' : Below W1.heap.size W1 w3 := (bel_drewN (Below.refl W1.heap.size W1) 1).trans hb3
          have q3 := HS6.out w3 hb3'
          have HB3 := hid hb3'
          clear hb3 hb3'
          go_wp2_with fail
          refine hK.out _ _ q3 (fun hHeld => ?_)
          clear hK K
          try simp only [Act.put, List.setIfInBounds_toArray, List.set_cons_zero, List.set_cons_succ]
          refine take_val (i := 5) (.bool true) rfl (by kernel_rfl) (by kernel_rfl) (by kernel_rfl) (fun _ _ _ h => h) (by rfl) (fun w hSw => by go_simp) hHeld ?_
          simp only [Act.put, List.setIfInBounds_toArray, List.set_cons_zero, List.set_cons_succ]
          refine take_val (i := 6) (.pointer (some ⟨G, 0, none⟩)) rfl (by kernel_rfl) (by kernel_rfl) (by kernel_rfl) (fun _ _ _ h => h) (by rfl) (fun w hSw => by go_simp) hHeld ?_
          simp only [Act.put, List.setIfInBounds_toArray, List.set_cons_zero, List.set_cons_succ]
          refine take_val (i := 7) (.int .i64 y.kind) rfl (by kernel_rfl) (by kernel_rfl) (by kernel_rfl) (fun _ _ _ h => h) (by rfl) (fun w hSw => by go_simp) hHeld ?_
          simp only [Act.put, List.setIfInBounds_toArray, List.set_cons_zero, List.set_cons_succ]
          refine take_val (i := 8) (.bool false) rfl (by kernel_rfl) (by kernel_rfl) (by kernel_rfl) (fun _ _ _ h => h) (by rfl) (fun w hSw => by go_simp) hHeld ?_
          simp only [Act.put, List.setIfInBounds_toArray, List.set_cons_zero, List.set_cons_succ]
          refine take_val (i := 9) (.bool false) rfl (by kernel_rfl) (by kernel_rfl) (by kernel_rfl) (fun _ _ _ h => h) (by rfl) (fun w hSw => by go_simp) hHeld ?_
          simp only [Act.put, List.setIfInBounds_toArray, List.set_cons_zero, List.set_cons_succ]
          refine take_val (i := 10) (.bool false) rfl (by kernel_rfl) (by kernel_rfl) (by kernel_rfl) (fun _ _ _ h => h) (by rfl) (fun w hSw => by go_simp) hHeld ?_
          simp only [Act.put, List.setIfInBounds_toArray, List.set_cons_zero, List.set_cons_succ]
          refine wpAnyH_done (by kernel_rfl) ?_ _
          clear hHeld
          go_wp2_with fail
          go_meet
          case rel => exact ⟨rfl, rfl, HB3⟩
        have HW2 : Hid (Calls Tryz.prog 17 #[.agg #[.int .i64 y.kind, .string y.temp, .string y.ka, .string y.kb, .int .i64 y.iff, .slice y.vp y.vo.length y.vc, .slice y.ep y.eo.length y.ec, .slice y.pp y.po.length y.pc, .int .u64 y.stamp, .int .i64 y.num]] W1.drew fun e w' => e = .returned (.bool true) ∧ Below W1.drew.heap.size W1.drew w') := hid (by
          have h := opWrites_any y W1.drew
          have e : (decide (1 ≤ y.kind) && decide (y.kind ≤ 5)) = true := by rw [decide_eq_true h1, decide_eq_true h5]; rfl
          rw [e] at h
          exact h)
        refine wp_region_held_drew (S := fun w' => w'.cell? ⟨G, 0, none⟩ = some (.int .i64 y.kind) ∧ w'.cell? ⟨G, 1, none⟩ = some (.string y.temp) ∧ w'.cell? ⟨G, 2, none⟩ = some (.string y.ka) ∧ w'.cell? ⟨G, 3, none⟩ = some (.string y.kb) ∧ w'.cell? ⟨G, 4, none⟩ = some (.int .i64 y.iff) ∧ w'.cell? ⟨G, 5, none⟩ = some (.slice y.vp y.vo.length y.vc) ∧ w'.cell? ⟨G, 6, none⟩ = some (.slice y.ep y.eo.length y.ec) ∧ w'.cell? ⟨G, 7, none⟩ = some (.slice y.pp y.po.length y.pc) ∧ w'.cell? ⟨G, 8, none⟩ = some (.int .u64 y.stamp) ∧ w'.cell? ⟨G, 9, none⟩ = some (.int .i64 y.num)) (by kernel_rfl) hs6 (fun hHeld => ?_)
        refine take_val (i := 0) (.agg #[.int .i64 y.kind, .string y.temp, .string y.ka, .string y.kb, .int .i64 y.iff, .slice y.vp y.vo.length y.vc, .slice y.ep y.eo.length y.ec, .slice y.pp y.po.length y.pc, .int .u64 y.stamp, .int .i64 y.num]) rfl (by kernel_rfl) (by kernel_rfl) (by kernel_rfl) (fun _ _ _ h => h) (by rfl) (fun w hSw => by go_simp) hHeld ?_
        simp only [Act.put, List.setIfInBounds_toArray, List.set_cons_zero, List.set_cons_succ]
        refine take_val (i := 2) (.pointer (some ⟨G, 0, none⟩)) rfl (by kernel_rfl) (by kernel_rfl) (by kernel_rfl) (fun _ _ _ h => h) (by rfl) (fun w hSw => by go_simp) hHeld ?_
        simp only [Act.put, List.setIfInBounds_toArray, List.set_cons_zero, List.set_cons_succ]
        refine take_val (i := 3) (.int .i64 y.kind) rfl (by kernel_rfl) (by kernel_rfl) (by kernel_rfl) (fun _ _ _ h => h) (by rfl) (fun w hSw => by go_simp) hHeld ?_
        simp only [Act.put, List.setIfInBounds_toArray, List.set_cons_zero, List.set_cons_succ]
        refine take_val (i := 4) (.bool true) rfl (by kernel_rfl) (by kernel_rfl) (by kernel_rfl) (fun _ _ _ h => h) (by rfl) (fun w hSw => by go_simp) hHeld ?_
        simp only [Act.put, List.setIfInBounds_toArray, List.set_cons_zero, List.set_cons_succ]
        refine wpAnyH_ready (rs := [1]) (by kernel_rfl) (by simp) ?_
        refine AllReadyH.cons (at_drop0 rfl) (fun K hK => ?_) AllReadyH.nil
        rw [if_pos (by rfl)]
        go_simp
        refine HW2.out.mono ?_
        rintro e w3 ⟨rfl, hb3⟩
        have hb3' : Below W1.heap.size W1 w3 := (bel_drewN (Below.refl W1.heap.size W1) 1).trans hb3
        have q3 := HS6.out w3 hb3'
        have HB3 := hid hb3'
        clear hb3 hb3'
        go_wp2_with fail
        refine hK.out _ _ q3 (fun hHeld => ?_)
        clear hK K
        try simp only [Act.put, List.setIfInBounds_toArray, List.set_cons_zero, List.set_cons_succ]
        refine take_val (i := 5) (.bool true) rfl (by kernel_rfl) (by kernel_rfl) (by kernel_rfl) (fun _ _ _ h => h) (by rfl) (fun w hSw => by go_simp) hHeld ?_
        simp only [Act.put, List.setIfInBounds_toArray, List.set_cons_zero, List.set_cons_succ]
        refine take_val (i := 6) (.pointer (some ⟨G, 0, none⟩)) rfl (by kernel_rfl) (by kernel_rfl) (by kernel_rfl) (fun _ _ _ h => h) (by rfl) (fun w hSw => by go_simp) hHeld ?_
        simp only [Act.put, List.setIfInBounds_toArray, List.set_cons_zero, List.set_cons_succ]
        refine take_val (i := 7) (.int .i64 y.kind) rfl (by kernel_rfl) (by kernel_rfl) (by kernel_rfl) (fun _ _ _ h => h) (by rfl) (fun w hSw => by go_simp) hHeld ?_
        simp only [Act.put, List.setIfInBounds_toArray, List.set_cons_zero, List.set_cons_succ]
        refine take_val (i := 8) (.bool true) rfl (by kernel_rfl) (by kernel_rfl) (by kernel_rfl) (fun _ _ _ h => h) (by rfl) (fun w hSw => by go_simp) hHeld ?_
        simp only [Act.put, List.setIfInBounds_toArray, List.set_cons_zero, List.set_cons_succ]
        refine take_val (i := 9) (.bool true) rfl (by kernel_rfl) (by kernel_rfl) (by kernel_rfl) (fun _ _ _ h => h) (by rfl) (fun w hSw => by go_simp) hHeld ?_
        simp only [Act.put, List.setIfInBounds_toArray, List.set_cons_zero, List.set_cons_succ]
        refine take_val (i := 10) (.bool false) rfl (by kernel_rfl) (by kernel_rfl) (by kernel_rfl) (fun _ _ _ h => h) (by rfl) (fun w hSw => by go_simp) hHeld ?_
        simp only [Act.put, List.setIfInBounds_toArray, List.set_cons_zero, List.set_cons_succ]
        refine wpAnyH_done (by kernel_rfl) ?_ _
        clear hHeld
        go_wp2_with fail
        go_meet
        case rel => exact ⟨rfl, rfl, HB3⟩
      case rest =>
      obtain ⟨rfl, rfl, HBC⟩ := hcut
      have HB2 : Hid (Below wr.heap.size wr wc) := hid (HB1.out.trans (HBC.out.mono HB1.out.size))
      have HB3 := hid (HB.out.trans (HB2.out.mono HB.out.size))
      have HQ3 : Hid (wc.heap[w.heap.size]? = some (.cells #[.bool o, .slice (some ⟨b, off, none⟩) d.length cap] 24 (0, 0))) := hid ((HB2.out.block _ (Array.getElem?_eq_some_iff.1 HQ.out).1).trans HQ.out)
      have HP3 : Hid (wc.heap[w.heap.size + 1]? = some (.cells #[.bool o', .slice a' d'.length cap'] 24 (0, 0))) := hid ((HB2.out.block _ (Array.getElem?_eq_some_iff.1 HP.out).1).trans HP.out)
      go_wp2_with fail
      go_roundg (d.length - (i + 1))
      case measure => omega
      exact ⟨i + 1, by go_num, by omega, by omega, HB3, HQ3, HP3⟩
    · have hltz : ¬ (i : Int) < (d.length : Int) := by omega
      obtain ⟨E, hE⟩ : ∃ E, decide (o = o' ∧ d.map Ex.en = d'.map Ex.en) = E := ⟨_, rfl⟩
      have HS9 : Hid (∀ w', Below wr.heap.size wr w' → w'.cell? ⟨w.heap.size, 0, none⟩ = some (.bool o) ∧ w'.cell? ⟨w.heap.size, 1, none⟩ = some (.slice a d.length cap) ∧ w'.cell? ⟨w.heap.size + 1, 0, none⟩ = some (.bool o') ∧ w'.cell? ⟨w.heap.size + 1, 1, none⟩ = some (.slice a' d'.length cap')) := hid fun w' h => by
        have hx := (h.block _ (Array.getElem?_eq_some_iff.1 HQ.out).1).trans HQ.out
        have hp := (h.block _ (Array.getElem?_eq_some_iff.1 HP.out).1).trans HP.out
        refine ⟨?_, ?_, ?_, ?_⟩ <;> first | (rw [Lib.cell_of_heap hx]; rfl) | (rw [Lib.cell_of_heap hp]; rfl)
      have hs9 := HS9.out wr.drew (bel_drewN (Below.refl _ _) 1)
      have HDW : Hid (∀ V, Below wr.heap.size wr V → RqIn V (.slice a d.length cap) d ∧ RqIn V (.slice a' d'.length cap') d') := hid fun V hV => ⟨(HD.out.on HB.out).on hV, (HD'.out.on HB.out).on hV⟩
      have HEO : Hid (∀ V, Below wr.heap.size wr V → Calls Tryz.prog 14 #[.agg #[.bool o, .slice a d.length cap], .agg #[.bool o', .slice a' d'.length cap']] V fun e w' => e = .returned (.bool E) ∧ Below V.heap.size V w') := hid fun V hV => by
        rw [← hE]; exact opEqual_any o o' _ _ d d' V (HDW.out V hV).1 (HDW.out V hV).2
      have HER : Hid (∀ V, Below wr.heap.size wr V → Calls Tryz.prog 15 #[.agg #[.bool o, .slice a d.length cap], .agg #[.bool o', .slice a' d'.length cap']] V fun e w' => e = .returned (.bool E) ∧ Below V.heap.size V w') := hid fun V hV => by
        rw [← hE]; exact rEqual16_any o o' _ _ d d' V (HDW.out V hV).1 (HDW.out V hV).2
      have HRQ : Hid (∀ V, Below wr.heap.size wr V → Calls Tryz.prog 18 #[.agg #[.bool o, .slice a d.length cap]] V (CpPost o d V)) := hid fun V hV => rRequest16_any o a cap d V (HDW.out V hV).1 HCP.out hf
      clear hE
      go_upto_region 9 with fail
      refine wp_region_held_drew (S := fun w' => w'.cell? ⟨w.heap.size, 0, none⟩ = some (.bool o) ∧ w'.cell? ⟨w.heap.size, 1, none⟩ = some (.slice a d.length cap) ∧ w'.cell? ⟨w.heap.size + 1, 0, none⟩ = some (.bool o') ∧ w'.cell? ⟨w.heap.size + 1, 1, none⟩ = some (.slice a' d'.length cap')) (by kernel_rfl) hs9 (fun hHeld => ?_)
      refine take_val (i := 0) (.agg #[.bool o, .slice a d.length cap]) rfl (by kernel_rfl) (by kernel_rfl) (by kernel_rfl) (fun _ _ _ h => h) (by rfl) (fun w hSw => by go_simp) hHeld ?_
      simp only [Act.put, List.setIfInBounds_toArray, List.set_cons_zero, List.set_cons_succ]
      refine take_val (i := 1) (.agg #[.bool o', .slice a' d'.length cap']) rfl (by kernel_rfl) (by kernel_rfl) (by kernel_rfl) (fun _ _ _ h => h) (by rfl) (fun w hSw => by go_simp) hHeld ?_
      simp only [Act.put, List.setIfInBounds_toArray, List.set_cons_zero, List.set_cons_succ]
      refine take_val (i := 3) (.agg #[.bool o, .slice a d.length cap]) rfl (by kernel_rfl) (by kernel_rfl) (by kernel_rfl) (fun _ _ _ h => h) (by rfl) (fun w hSw => by go_simp) hHeld ?_
      simp only [Act.put, List.setIfInBounds_toArray, List.set_cons_zero, List.set_cons_succ]
      refine take_val (i := 4) (.agg #[.bool o', .slice a' d'.length cap']) rfl (by kernel_rfl) (by kernel_rfl) (by kernel_rfl) (fun _ _ _ h => h) (by rfl) (fun w hSw => by go_simp) hHeld ?_
      simp only [Act.put, List.setIfInBounds_toArray, List.set_cons_zero, List.set_cons_succ]
      refine wpAnyH_ready (rs := [2]) (by kernel_rfl) (by simp) ?_
      refine AllReadyH.cons (at_drop0 rfl) (fun K hK => ?_) AllReadyH.nil
      rw [if_pos (by rfl)]
      go_simp
      refine (HEO.out _ (bel_drewN (Below.refl _ _) 1)).mono ?_
      rintro e w3 ⟨rfl, hb3⟩
      have hb3' : Below wr.heap.size wr w3 := (bel_drewN (Below.refl wr.heap.size wr) 1).trans hb3
      have q3 := HS9.out w3 hb3'
      have HB3 := hid hb3'
      clear hb3 hb3'
      go_wp2_with fail
      refine hK.out _ _ q3 (fun hHeld => ?_)
      clear hK K
      try simp only [Act.put, List.setIfInBounds_toArray, List.set_cons_zero, List.set_cons_succ]
      refine wpAnyH_ready (rs := [5]) (by kernel_rfl) (by simp) ?_
      refine AllReadyH.cons (at_drop0 rfl) (fun K hK => ?_) AllReadyH.nil
      rw [if_pos (by rfl)]
      go_simp
      refine (HER.out _ HB3.out).mono ?_
      rintro e w4 ⟨rfl, hb4⟩
      have hb4' : Below wr.heap.size wr w4 := HB3.out.trans (hb4.mono HB3.out.size)
      have q4 := HS9.out w4 hb4'
      have HB4 := hid hb4'
      clear hb4 hb4'
      go_wp2_with fail
      refine hK.out _ _ q4 (fun hHeld => ?_)
      clear hK K
      try simp only [Act.put, List.setIfInBounds_toArray, List.set_cons_zero, List.set_cons_succ]
      refine take_val (i := 6) (.bool true) rfl (by kernel_rfl) (by kernel_rfl) (by kernel_rfl) (fun _ _ _ h => h) (by rfl) (fun w hSw => by go_simp) hHeld ?_
      simp only [Act.put, List.setIfInBounds_toArray, List.set_cons_zero, List.set_cons_succ]
      refine take_val (i := 7) (.bool true) rfl (by kernel_rfl) (by kernel_rfl) (by kernel_rfl) (fun _ _ _ h => h) (by rfl) (fun w hSw => by go_simp) hHeld ?_
      simp only [Act.put, List.setIfInBounds_toArray, List.set_cons_zero, List.set_cons_succ]
      refine take_val (i := 8) (.agg #[.bool o, .slice a d.length cap]) rfl (by kernel_rfl) (by kernel_rfl) (by kernel_rfl) (fun _ _ _ h => h) (by rfl) (fun w hSw => by go_simp) hHeld ?_
      simp only [Act.put, List.setIfInBounds_toArray, List.set_cons_zero, List.set_cons_succ]
      refine take_val (i := 9) (.agg #[.bool o, .slice a d.length cap]) rfl (by kernel_rfl) (by kernel_rfl) (by kernel_rfl) (fun _ _ _ h => h) (by rfl) (fun w hSw => by go_simp) hHeld ?_
      simp only [Act.put, List.setIfInBounds_toArray, List.set_cons_zero, List.set_cons_succ]
      refine wpAnyH_ready (rs := [10]) (by kernel_rfl) (by simp) ?_
      refine AllReadyH.cons (at_drop0 rfl) (fun K hK => ?_) AllReadyH.nil
      rw [if_pos (by rfl)]
      go_simp
      refine (HRQ.out _ HB4.out).mono ?_
      rintro e w5 ⟨pv, d2, cv, rfl, hen, hown, hoq, hb5⟩
      have hb5' : Below wr.heap.size wr w5 := HB4.out.trans (hb5.mono HB4.out.size)
      have q5 := HS9.out w5 hb5'
      have HB5 := hid hb5'
      have hl2 : d2.length = d.length := by have := congrArg List.length hen; simpa using this
      have HEQ := hid (opEqual_any o o (.slice a d.length cap) (.slice pv d2.length cv) d d2 w5 (HDW.out _ hb5').1 (own_rq hown hoq (by omega)))
      rw [decide_eq_true (⟨rfl, hen.symm⟩ : o = o ∧ d.map Ex.en = d2.map Ex.en)] at HEQ
      clear hb5 hb5' hen hown hoq hl2
      go_wp2_with fail
      refine hK.out _ _ q5 (fun hHeld => ?_)
      clear hK K
      try simp only [Act.put, List.setIfInBounds_toArray, List.set_cons_zero, List.set_cons_succ]
      refine wpAnyH_ready (rs := [11]) (by kernel_rfl) (by simp) ?_
      refine AllReadyH.cons (at_drop0 rfl) (fun K hK => ?_) AllReadyH.nil
      rw [if_pos (by rfl)]
      go_simp
      refine HEQ.out.mono ?_
      rintro e w6 ⟨rfl, hb6⟩
      have hb6' : Below wr.heap.size wr w6 := HB5.out.trans (hb6.mono HB5.out.size)
      have q6 := HS9.out w6 hb6'
      have HB6 := hid hb6'
      clear hb6 hb6'
      go_wp2_with fail
      refine hK.out _ _ q6 (fun hHeld => ?_)
      clear hK K
      try simp only [Act.put, List.setIfInBounds_toArray, List.set_cons_zero, List.set_cons_succ]
      refine take_val (i := 12) (.bool true) rfl (by kernel_rfl) (by kernel_rfl) (by kernel_rfl) (fun _ _ _ h => h) (by rfl) (fun w hSw => by go_simp) hHeld ?_
      simp only [Act.put, List.setIfInBounds_toArray, List.set_cons_zero, List.set_cons_succ]
      refine take_val (i := 13) (.bool true) rfl (by kernel_rfl) (by kernel_rfl) (by kernel_rfl) (fun _ _ _ h => h) (by rfl) (fun w hSw => by go_simp) hHeld ?_
      simp only [Act.put, List.setIfInBounds_toArray, List.set_cons_zero, List.set_cons_succ]
      refine wpAnyH_done (by kernel_rfl) ?_ _
      clear hHeld
      go_wp2_with fail
      go_ret
      exact ⟨rfl, HB.out.trans (HB6.out.mono HB.out.size)⟩
end Go.Proofs.YtpdccbeeoapplaaGreatDoor

namespace Go.Proofs.YtpdccbeeoapplaaGreatDoor
open Go.ChangeShapes Go.WideShapes Go.ChangeAt Go.RowKit Go.Lib Go.Deep Go.Joins
theorem Tryz.own : ownKnob Tryz.prog.godebug = none := by kernel_rfl
theorem Tryz.laidOut : laidOutB Tryz.prog = true := by kernel_rfl
theorem Tryz.cellsFld : Tryz.prog.cellsOf 47 = 2 := by kernel_rfl
theorem Tryz.cellsStr : Tryz.prog.cellsOf 9 = 1 := by kernel_rfl
theorem Tryz.cellsStrs : Tryz.prog.cellsOf 45 = 1 := by kernel_rfl
end Go.Proofs.YtpdccbeeoapplaaGreatDoor

namespace Go.Proofs.YtpdccbeeoapplaaGreatDoor
open Go.ChangeShapes Go.WideShapes Go.ChangeAt Go.RowKit Go.Lib Go.Deep Go.Joins
theorem Tryz.bytesStr : Tryz.prog.bytesOf 9 = 16 := by kernel_rfl
theorem Tryz.bytesFld : Tryz.prog.bytesOf 47 = 40 := by kernel_rfl
theorem weights_all {H : Type} {P : Program} {e : TypeId} {d : DataW H} {n : Nat} (hn : n ∈ d.weights P e) : ∀ {l : List (DataW H)}, d ∈ l → n ∈ DataW.weightsAll P e l
  | x :: r, h => by
    simp only [DataW.weightsAll, List.mem_append]
    rcases List.mem_cons.1 h with rfl | h
    · exact Or.inl hn
    · exact Or.inr (weights_all hn h)
theorem open_txtZ {H : Type} {enc : TypeId × Value → H} {W : World} {f : Nat} {v : Value} {x : DataW H × List MemPlace} (h : DataW.trod enc Tryz.prog W 0 (fun _ => true) true f 45 [v] = some x) :
    ∃ p cap, ∃ ts : List ByteArray, v = .slice p ts.length cap ∧ TxtAt W p ts ∧ FitT ts ∧ (ts.length = 0 ∨ ∃ n ∈ x.1.weights Tryz.prog 45, ts.length * 16 ≤ n) := by
  rcases open_strings Tryz.underlying45 Tryz.underlying9 Tryz.cellsStr h with ⟨hcs, hx⟩ | ⟨a, l, c, ss, hcs, _, hl, hm, hz, hx, hcell, hws⟩
  · simp at hcs
    exact ⟨none, 0, [], hcs, Or.inl rfl, ⟨by unfold maxLen; simp, fun t ht => by simp at ht⟩, Or.inl rfl⟩
  · simp at hcs
    have hz' : ss.length = c := by simpa using hz
    have hlen : (ss.take l).length = l := by rw [List.length_take]; omega
    refine ⟨some a, c, ss.take l, by rw [hlen]; exact hcs, ?_, ⟨by omega, fun t ht => hws t (List.mem_of_mem_take ht)⟩, Or.inr ?_⟩
    · by_cases h0 : l = 0
      · subst h0; exact Or.inl rfl
      · right
        have hc0 := hcell 0 (by omega)
        obtain ⟨b, off, spot⟩ := a
        have hspot : spot = none := by simpa [Addr.add] using World.cell?_spot hc0
        subst hspot
        refine ⟨b, off, rfl, fun i hi => ?_⟩
        rw [hlen] at hi
        have := hcell i (by omega)
        rw [addr_add] at this
        rw [this, List.getElem_take, List.getD_eq_getElem?_getD, List.getElem?_eq_getElem (by omega)]
        rfl
    · rw [hx, hlen]
      simp only [DataW.weights, Tryz.underlying45]
      refine ⟨_, List.mem_cons_self, ?_⟩
      rw [Tryz.bytesStr]
      have hb2 : (strs (ss.take l) : List (DataW H)).length = l := by rw [show (strs (ss.take l) : List (DataW H)).length = (ss.take l).length by simp [strs], hlen]
      rw [hb2]
      exact Nat.mul_le_mul_right 16 (by omega)
set_option maxRecDepth 100000 in
theorem open_fldsZ {H : Type} {enc : TypeId × Value → H} {W : World} {fuel : Nat} {v : Value} {dd : DataW H} {p : List MemPlace}
    (hf : DataW.trod enc Tryz.prog W 0 (fun _ => true) true fuel 36 [v] = some (dd, p)) (hZ : ∀ n ∈ dd.weights Tryz.prog 36, n ≤ reachBytes) : ∃ d : List Fx, IsXs W v d ∧ FitX d ∧ CopyX d := by
  have hrb := reachBytes_lt
  rcases open_slice_pairs Tryz.underlying36 Tryz.underlying47 Tryz.cellsFld rfl rfl Tryz.cellsStr Tryz.cellsStrs hf with ⟨hcs, _⟩ | ⟨a, len, cap, m, n, V0, V1, D0, D1, P0, P1, hcs, _, hl, hm, hmm, hdat, hall⟩
  · simp at hcs
    subst hcs
    exact ⟨[], ⟨none, 0, rfl, Or.inl rfl, fun x hx => by simp at hx⟩, ⟨by unfold maxLen; simp, fun x hx => by simp at hx⟩, by simp, fun x hx => by simp at hx⟩
  · simp at hcs
    subst hcs
    have hm' : m = cap := by simpa using hmm
    subst hm'
    have each : ∀ i, i < m → ∃ x : Fx, V0 i = .string x.name ∧ V1 i = x.sl ∧ TxtAt W x.p x.txt ∧ FitF x.fld ∧ (x.txt.length = 0 ∨ ∃ n ∈ (D1 i).weights Tryz.prog 45, x.txt.length * 16 ≤ n) := by
      intro i hi
      obtain ⟨_, _, h3, h4⟩ := hall i hi
      obtain ⟨s, e0, _, hs⟩ := DataW.trod_string Tryz.underlying9 h3
      simp only [List.cons.injEq, and_true] at e0
      obtain ⟨q, cc, ts, e1, ht, hft, hbk⟩ := open_txtZ h4
      exact ⟨⟨s, q, cc, ts⟩, e0, e1, ht, ⟨hs, hft⟩, hbk⟩
    have hdd : dd = .slice ((List.range len).map fun i => .agg [D0 i, D1 i]) ((List.range (m - len)).map fun j => .agg [D0 (len + j), D1 (len + j)]) := congrArg Prod.fst hdat
    have hwl : len * 40 ≤ reachBytes := by
      have := hZ ((((List.range len).map fun i => DataW.agg [D0 i, D1 i]).length + ((List.range (m - len)).map fun j => DataW.agg [D0 (len + j), D1 (len + j)]).length) * Tryz.prog.bytesOf 47) (by
        rw [hdd]
        simp only [DataW.weights, Tryz.underlying36]
        exact List.mem_cons_self)
      rw [Tryz.bytesFld] at this
      simp only [List.length_map, List.length_range] at this
      omega
    have hwi : ∀ i, i < len → ∀ n ∈ (D1 i).weights Tryz.prog 45, n ≤ reachBytes := fun i hi n hn => by
      refine hZ n ?_
      rw [hdd]
      simp only [DataW.weights, Tryz.underlying36]
      refine List.mem_cons_of_mem _ (List.mem_append.2 (Or.inl (weights_all (d := .agg [D0 i, D1 i]) ?_ (List.mem_map.2 ⟨i, List.mem_range.2 hi, rfl⟩))))
      simp only [DataW.weights, Tryz.underlying47]
      exact List.mem_append.2 (Or.inr (List.mem_append.2 (Or.inl hn)))
    by_cases h0 : len = 0
    · subst h0
      exact ⟨[], ⟨_, _, rfl, Or.inl rfl, fun x hx => by simp at hx⟩, ⟨by unfold maxLen; simp, fun x hx => by simp at hx⟩, by simp, fun x hx => by simp at hx⟩
    · have hc0 := (hall 0 (by omega)).1
      obtain ⟨b, off, spot⟩ := a
      have hspot : spot = none := by simpa [Addr.add] using World.cell?_spot hc0
      subst hspot
      let f : Nat → Fx := fun i => if h : i < m then (each i h).choose else default
      have fs : ∀ i (h : i < m), V0 i = .string (f i).name ∧ V1 i = (f i).sl ∧ TxtAt W (f i).p (f i).txt ∧ FitF (f i).fld ∧ ((f i).txt.length = 0 ∨ ∃ n ∈ (D1 i).weights Tryz.prog 45, (f i).txt.length * 16 ≤ n) := fun i h => by
        have e : f i = (each i h).choose := dif_pos h
        rw [e]
        exact (each i h).choose_spec
      have hlen : ((List.range len).map f).length = len := by simp
      refine ⟨(List.range len).map f, ⟨_, m, by rw [hlen], Or.inr ⟨b, off, rfl, fun i hi => ?_⟩, fun x hx => ?_⟩, ⟨by rw [hlen]; omega, fun x hx => ?_⟩, by rw [hlen]; omega, fun x hx => ?_⟩
      · have hi0 : i < len := by simpa using hi
        obtain ⟨h1, h2, _, _⟩ := hall i (by omega)
        obtain ⟨g1, g2, _⟩ := fs i (by omega)
        rw [addr_add] at h1 h2
        have ef : ((List.range len).map f)[i]'hi = f i := by simp
        rw [ef, h1, ← g1]
        refine ⟨rfl, ?_⟩
        rw [Nat.add_assoc, h2, g2]
      · obtain ⟨i, hi, rfl⟩ := List.mem_map.1 hx
        exact (fs i (by have := List.mem_range.1 hi; omega)).2.2.1
      · obtain ⟨i, hi, rfl⟩ := List.mem_map.1 hx
        exact (fs i (by have := List.mem_range.1 hi; omega)).2.2.2.1
      · obtain ⟨i, hi, rfl⟩ := List.mem_map.1 hx
        have hil := List.mem_range.1 hi
        rcases (fs i (by omega)).2.2.2.2 with h | ⟨n, hn, h⟩
        · omega
        · have := hwi i hil n hn
          omega
end Go.Proofs.YtpdccbeeoapplaaGreatDoor

namespace Go.Proofs.YtpdccbeeoapplaaGreatDoor
open Go.ChangeShapes Go.WideShapes Go.ChangeAt Go.RowKit Go.Lib Go.Deep Go.Joins
def FitKy (k : Ky) : Prop := k.1.size ≤ maxLen ∧ k.2.size ≤ maxLen
theorem Tryz.cellsWInt : Tryz.prog.cellsOf 3 = 1 := by kernel_rfl
theorem Tryz.cellsWStr : Tryz.prog.cellsOf 9 = 1 := by kernel_rfl
theorem Tryz.cellsWU64 : Tryz.prog.cellsOf 39 = 1 := by kernel_rfl
theorem Tryz.cellsWBool : Tryz.prog.cellsOf 4 = 1 := by kernel_rfl
theorem Tryz.cellsWFs : Tryz.prog.cellsOf 36 = 1 := by kernel_rfl
theorem Tryz.cellsWTs : Tryz.prog.cellsOf 38 = 1 := by kernel_rfl
theorem Tryz.cellsWKey : Tryz.prog.cellsOf 35 = 2 := by kernel_rfl
theorem Tryz.cellsWTm : Tryz.prog.cellsOf 51 = 3 := by kernel_rfl
theorem Tryz.bytesWTm : Tryz.prog.bytesOf 51 = 40 := by kernel_rfl
theorem bulkW_pos {H : Type} (d : DataW H) : 1 ≤ Rows.uptoBulk d := by
  cases d with
  | lit l => cases l <;> simp [Rows.uptoBulk]
  | nil => simp [Rows.uptoBulk]
  | ptr d => simp [Rows.uptoBulk]
  | slice elems spare => simp [Rows.uptoBulk]
  | agg parts => simp [Rows.uptoBulk]
  | iface t d => simp [Rows.uptoBulk]
  | map entries => simp [Rows.uptoBulk]
  | held h => simp [Rows.uptoBulk]
theorem bulkW_mem {H : Type} {d : DataW H} {l : List (DataW H)} (h : d ∈ l) : Rows.uptoBulk d ≤ Rows.uptoBulkAll l := by
  induction l with
  | nil => cases h
  | cons x r ih =>
    simp only [Rows.uptoBulkAll]
    rcases List.mem_cons.1 h with rfl | h
    · omega
    · have := ih h; omega
theorem bulkW_len {H : Type} (l : List (DataW H)) : l.length ≤ Rows.uptoBulkAll l := by
  induction l with
  | nil => simp [Rows.uptoBulkAll]
  | cons x r ih => have := bulkW_pos x; simp only [Rows.uptoBulkAll, List.length_cons]; omega
set_option maxRecDepth 100000 in
theorem open_rowZ {α : Type} [Inhabited α] (K : Kind α) {S : TypeId} {bytes : Nat} (hS : Tryz.prog.underlying S = some (.slice K.T)) (hk : Tryz.prog.cellsOf K.T = K.k) (hby : Tryz.prog.bytesOf K.T = bytes)
    {H : Type} (Ok : α → DataW H → Prop) {enc : TypeId × Value → H} {W : World} {fuel : Nat} {v : Value} {dd : DataW H} {p : List MemPlace}
    (each1 : ∀ (n : Nat) (cs : List Value) (x : DataW H × List MemPlace), DataW.trod enc Tryz.prog W 0 (fun _ => true) true n K.T cs = some x → (∀ n ∈ x.1.weights Tryz.prog K.T, n ≤ reachBytes) → ∃ b : α, cs = K.enc b ∧ Ok b x.1)
    (hf : DataW.trod enc Tryz.prog W 0 (fun _ => true) true fuel S [v] = some (dd, p)) (hZ : ∀ n ∈ dd.weights Tryz.prog S, n ≤ reachBytes) :
    ∃ q : List α, K.Is W v q ∧ (∀ x ∈ q, ∃ d, Rows.uptoBulk d ≤ Rows.uptoBulk dd ∧ Ok x d) ∧ q.length * bytes ≤ reachBytes ∧ q.length ≤ maxLen ∧ q.length ≤ Rows.uptoBulk dd := by
  rcases open_slice hS hf with ⟨hcs, _⟩ | ⟨a, len, cap, m, n, D, Pl, hcs, _, hl, hm, hmm, hdat, hall⟩
  · simp at hcs
    subst hcs
    exact ⟨[], K.is_nil W, fun x hx => by simp at hx, by simp, by simp, by simp⟩
  · simp at hcs
    subst hcs
    have hm' : m = cap := by simpa using hmm
    subst hm'
    rw [hk] at hall
    have hdd : dd = .slice ((List.range len).map D) ((List.range (m - len)).map fun j => D (len + j)) := congrArg Prod.fst hdat
    have hlb : len * bytes ≤ reachBytes := by
      have := hZ ((((List.range len).map D).length + ((List.range (m - len)).map fun j => D (len + j)).length) * Tryz.prog.bytesOf K.T) (by
        rw [hdd]
        simp only [DataW.weights, hS]
        exact List.mem_cons_self)
      rw [hby] at this
      simp only [List.length_map, List.length_range] at this
      exact Nat.le_trans (Nat.mul_le_mul_right _ (Nat.le_add_right _ _)) this
    have hbk : len ≤ Rows.uptoBulk dd := by
      rw [hdd]
      simp only [Rows.uptoBulk]
      have := bulkW_len ((List.range len).map D)
      simp only [List.length_map, List.length_range] at this
      omega
    have hbi : ∀ i, i < len → Rows.uptoBulk (D i) ≤ Rows.uptoBulk dd := fun i hi => by
      rw [hdd]
      simp only [Rows.uptoBulk]
      have := bulkW_mem (d := D i) (l := (List.range len).map D) (List.mem_map.2 ⟨i, List.mem_range.2 hi, rfl⟩)
      omega
    have each : ∀ i, i < len → ∃ t : α, (∀ j u, (K.enc t)[j]? = some u → W.cell? (a.add (i * K.k + j)) = some u) ∧ Ok t (D i) := by
      intro i hi
      obtain ⟨cs', h1, h2⟩ := hall i (by omega)
      obtain ⟨_, hlen, hcell⟩ := World.cells?_some h1
      have hDi : ∀ n ∈ (D i).weights Tryz.prog K.T, n ≤ reachBytes := fun n hn => by
        refine hZ n ?_
        rw [hdd]
        simp only [DataW.weights, hS]
        exact List.mem_cons_of_mem _ (List.mem_append.2 (Or.inl (weights_all hn (List.mem_map.2 ⟨i, List.mem_range.2 hi, rfl⟩))))
      obtain ⟨t, rfl, hok⟩ := each1 _ _ (D i, Pl i) h2 hDi
      refine ⟨t, fun j u hu => ?_, hok⟩
      have hj : j < K.k := by
        have := (List.getElem?_eq_some_iff.1 hu).1
        rwa [K.len] at this
      have := hcell j hj
      rw [add_add] at this
      rw [this]; exact hu
    by_cases h0 : len = 0
    · subst h0
      exact ⟨[], ⟨_, _, rfl, Or.inl rfl⟩, fun x hx => by simp at hx, by simp, by simp, by simp⟩
    · obtain ⟨f, hff⟩ := choose_lt each
      have h1 : 0 < (K.enc (f 0)).length := by rw [K.len]; exact K.pos
      have hc0 := (hff 0 (by omega)).1 0 _ (List.getElem?_eq_getElem h1)
      obtain ⟨b, off, spot⟩ := a
      have hspot : spot = none := by simpa [Addr.add] using World.cell?_spot hc0
      subst hspot
      have hlen : ((List.range len).map f).length = len := by simp
      refine ⟨(List.range len).map f, ⟨_, m, by rw [hlen], Or.inr ⟨b, off, rfl, fun i hi j u hu => ?_⟩⟩, fun x hx => ?_, by rw [hlen]; exact hlb, by rw [hlen]; omega, by rw [hlen]; exact hbk⟩
      · have hi0 : i < len := by simpa using hi
        have ef : ((List.range len).map f)[i]'hi = f i := by simp
        rw [ef] at hu
        have := (hff i hi0).1 j u hu
        rw [_root_.Go.Proofs.YtpdccbeeoapplaaGreatDoor.addr_add] at this
        rw [Nat.add_assoc]
        exact this
      · obtain ⟨i, hi, rfl⟩ := List.mem_map.1 hx
        exact ⟨D i, hbi i (List.mem_range.1 hi), (hff i (List.mem_range.1 hi)).2⟩
section
variable {H : Type} {enc : TypeId × Value → H} {W : World}
set_option maxRecDepth 100000 in
theorem open_kyW {n : Nat} {cs : List Value} {x : DataW H × List MemPlace} (h : DataW.trod enc Tryz.prog W 0 (fun _ => true) true n 35 cs = some x) :
    ∃ k : Ky, cs = [.string k.1, .string k.2] ∧ FitKy k := by
  obtain ⟨xs, k, _, _, hlen, hxl, hf⟩ := DataW.trod_struct Tryz.underlying35 h
  rw [Tryz.cellsWKey] at hlen
  match cs, hlen with
  | [v0, v1], _ =>
    match xs, hxl with
    | [y0, y1], _ =>
      have g0 := hf 0 _ rfl
      have g1 := hf 1 _ rfl
      simp [Tryz.cellsWStr] at g0 g1
      obtain ⟨a, ea, _, ha⟩ := DataW.trod_string Tryz.underlying9 g0
      obtain ⟨b, eb, _, hb⟩ := DataW.trod_string Tryz.underlying9 g1
      simp only [List.cons.injEq, and_true] at ea eb
      exact ⟨(a, b), by rw [ea, eb], ha, hb⟩
set_option maxRecDepth 100000 in
theorem open_termW {n : Nat} {cs : List Value} {x : DataW H × List MemPlace} (h : DataW.trod enc Tryz.prog W 0 (fun _ => true) true n 51 cs = some x) :
    ∃ t : Tm, cs = encM t ∧ t.1.size ≤ maxLen ∧ t.2.2.size ≤ maxLen ∧ -9223372036854775808 ≤ t.2.1 ∧ t.2.1 ≤ 9223372036854775807 := by
  obtain ⟨xs, k, _, _, hlen, hxl, hf⟩ := DataW.trod_struct Tryz.underlying51 h
  rw [Tryz.cellsWTm] at hlen
  match cs, hlen with
  | [v0, v1, v2], _ =>
    match xs, hxl with
    | [y0, y1, y2], _ =>
      have g0 := hf 0 _ rfl
      have g1 := hf 1 _ rfl
      have g2 := hf 2 _ rfl
      simp [Tryz.cellsWStr, Tryz.cellsWInt] at g0 g1 g2
      obtain ⟨a, ea, _, ha⟩ := DataW.trod_string Tryz.underlying9 g0
      obtain ⟨o, eo, _, ho⟩ := DataW.trod_int Tryz.underlying3 g1
      obtain ⟨b, eb, _, hb⟩ := DataW.trod_string Tryz.underlying9 g2
      simp only [List.cons.injEq, and_true] at ea eo eb
      have hw : -9223372036854775808 ≤ o ∧ o ≤ 9223372036854775807 := by
        have := ho
        simp [Lit.wf, IntKind.min, IntKind.max, IntKind.signed, IntKind.bits] at this
        omega
      exact ⟨(a, o, b), by rw [ea, eo, eb]; rfl, ha, hb, hw.1, hw.2⟩
theorem open_termsW {fuel : Nat} {v : Value} {dd : DataW H} {p : List MemPlace}
    (hf : DataW.trod enc Tryz.prog W 0 (fun _ => true) true fuel 38 [v] = some (dd, p)) (hZ : ∀ n ∈ dd.weights Tryz.prog 38, n ≤ reachBytes) : ∃ q : List Tm, KM.Is W v q ∧ FitM q := by
  obtain ⟨q, h1, h2, _, h4, _⟩ := open_rowZ KM Tryz.underlying38 Tryz.cellsWTm Tryz.bytesWTm (fun t _ => t.1.size ≤ maxLen ∧ t.2.2.size ≤ maxLen ∧ -9223372036854775808 ≤ t.2.1 ∧ t.2.1 ≤ 9223372036854775807) (fun n cs x h _ => open_termW h) hf hZ
  exact ⟨q, h1, h4, fun x hx => (h2 x hx).choose_spec.2⟩
end
end Go.Proofs.YtpdccbeeoapplaaGreatDoor

namespace Go.Proofs.YtpdccbeeoapplaaGreatDoor
open Go.ChangeShapes Go.WideShapes Go.ChangeAt Go.RowKit Go.Lib Go.Deep
theorem Tryz.cellsByte : Tryz.prog.cellsOf 5 = 1 := by kernel_rfl
theorem gPlain : Tryz.prog.globalNamed "folio/value.plain" = some 3 := by kernel_rfl
theorem tPlain : (Tryz.prog.globals[3]?).map (·.type) = some 185 := by kernel_rfl
theorem uPair : Tryz.prog.underlying 184 = some (.array 2 5) := by kernel_rfl
theorem cPair : Tryz.prog.cellsOf 184 = 2 := by kernel_rfl
theorem cPlain : Tryz.prog.cellsOf 185 = 26 := by kernel_rfl
def plainLits : List (Int × Int) := [(97, 122), (65, 90), (48, 57), (45, 45), (46, 46), (95, 95), (124, 124), (42, 42), (64, 64), (47, 47), (58, 58), (43, 43), (44, 44)]
theorem plain_data : (Rows.laid_folio_value_plain : DataW Unit) = .agg (plainLits.map fun p => .agg [.lit (.int .u8 p.1), .lit (.int .u8 p.2)]) := rfl
theorem one_byte_read {W : World} {f : Nat} {cs : List Value} {k : Int} {q : List MemPlace} (h : DataW.trod (fun _ => ()) Tryz.prog W 0 (fun _ => true) false f 5 cs = some (.lit (.int .u8 k), q)) : cs = [.int .u8 k] := by
  obtain ⟨n, rfl, e, _⟩ := DataW.trod_int Tryz.underlying5 h
  cases e
  rfl
theorem pair_cells {W : World} {f : Nat} {cs : List Value} {a b : Int} {q : List MemPlace} (hl : cs.length = 2) (h : DataW.trod (fun _ => ()) Tryz.prog W 0 (fun _ => true) false f 184 cs = some (.agg [.lit (.int .u8 a), .lit (.int .u8 b)], q)) : cs = [.int .u8 a, .int .u8 b] := by
  match cs, hl with
  | [x, y], _ =>
    obtain ⟨f0, d0, q0, e0, h0⟩ := array_elem uPair h 0 (by decide)
    obtain ⟨f1, d1, q1, e1, h1⟩ := array_elem uPair h 1 (by decide)
    rw [Tryz.cellsByte] at h0 h1
    simp only [List.getElem?_cons_zero, List.getElem?_cons_succ, Option.some.injEq] at e0 e1
    subst e0 e1
    have k0 := one_byte_read h0
    have k1 := one_byte_read h1
    simp at k0 k1
    rw [k0, k1]
theorem list_pairs : ∀ (n : Nat) (cs : List Value) (ps : List (Int × Int)), cs.length = n * 2 → ps.length = n → (∀ i (h : i < ps.length), (cs.drop (i * 2)).take 2 = [.int .u8 ps[i].1, .int .u8 ps[i].2]) → cs = ps.flatMap fun p => [.int .u8 p.1, .int .u8 p.2]
  | 0, cs, ps, hc, hp, _ => by
    rw [List.length_eq_zero_iff.1 (by omega : cs.length = 0), List.length_eq_zero_iff.1 hp]
    rfl
  | n + 1, cs, ps, hc, hp, h => by
    match ps, hp, cs, hc with
    | _ :: _, _, [], hc => simp at hc
    | _ :: _, _, [_], hc => simp at hc; omega
    | p :: ps, hp, x :: y :: cs, hc =>
      have h0 := h 0 (by simp)
      simp at h0
      have := list_pairs n cs ps (by simp at hc; omega) (by simpa using hp) (fun i hi => by
        have := h (i + 1) (by simp; omega)
        rw [show (i + 1) * 2 = i * 2 + 1 + 1 by omega] at this
        simpa using this)
      rw [List.flatMap_cons, ← this, h0.1, h0.2]
      rfl
end Go.Proofs.YtpdccbeeoapplaaGreatDoor

namespace Go.Proofs.YtpdccbeeoapplaaGreatDoor
open Go.ChangeShapes Go.WideShapes Go.ChangeAt Go.RowKit Go.Lib Go.Deep Go.Joins
theorem Tryz.cellsEd : Tryz.prog.cellsOf 49 = 3 := by kernel_rfl
theorem Tryz.cellsEdI : Tryz.prog.cellsOf 3 = 1 := by kernel_rfl
set_option maxRecDepth 100000 in
theorem open_edit {H : Type} {enc : TypeId × Value → H} {W : World} {n : Nat} {cs : List Value} {x : DataW H × List MemPlace} (h : DataW.trod enc Tryz.prog W 0 (fun _ => true) true n 49 cs = some x) :
    ∃ t : Ed, cs = encE t ∧ t.2.1.size ≤ maxLen ∧ t.2.2.size ≤ maxLen ∧ -9223372036854775808 ≤ t.1 ∧ t.1 ≤ 9223372036854775807 := by
  obtain ⟨xs, k, _, _, hlen, hxl, hf⟩ := DataW.trod_struct Tryz.underlying49 h
  rw [Tryz.cellsEd] at hlen
  match cs, hlen with
  | [v0, v1, v2], _ =>
    match xs, hxl with
    | [y0, y1, y2], _ =>
      have g0 := hf 0 _ rfl
      have g1 := hf 1 _ rfl
      have g2 := hf 2 _ rfl
      simp [Tryz.cellsStr, Tryz.cellsEdI] at g0 g1 g2
      obtain ⟨o, eo, _, ho⟩ := DataW.trod_int Tryz.underlying3 g0
      obtain ⟨a, ea, _, ha⟩ := DataW.trod_string Tryz.underlying9 g1
      obtain ⟨b, eb, _, hb⟩ := DataW.trod_string Tryz.underlying9 g2
      simp only [List.cons.injEq, and_true] at ea eo eb
      have hw : -9223372036854775808 ≤ o ∧ o ≤ 9223372036854775807 := by
        have := ho
        simp [Lit.wf, IntKind.min, IntKind.max, IntKind.signed, IntKind.bits] at this
        omega
      exact ⟨(o, a, b), by rw [ea, eo, eb]; rfl, ha, hb, hw.1, hw.2⟩
end Go.Proofs.YtpdccbeeoapplaaGreatDoor

namespace Go.Proofs.YtpdccbeeoapplaaGreatDoor
open Go.Lib
end Go.Proofs.YtpdccbeeoapplaaGreatDoor

namespace Go.Proofs.YtpdccbeeoapplaaGreatDoor
open Go.RowKit Go.Lib
def wtJ (x : Ex) : Nat := x.vo.length + x.eo.length + x.po.length + 6
end Go.Proofs.YtpdccbeeoapplaaGreatDoor

namespace Go.Proofs.YtpdccbeeoapplaaGreatDoor
open Go.ChangeShapes Go.WideShapes Go.ChangeAt Go.RowKit Go.Lib Go.Deep Go.Joins
theorem Tryz.cellsOEs : Tryz.prog.cellsOf 37 = 1 := by kernel_rfl
theorem Tryz.cellsOEn : Tryz.prog.cellsOf 41 = 10 := by kernel_rfl
theorem Tryz.cellsOEns : Tryz.prog.cellsOf 22 = 1 := by kernel_rfl
theorem Tryz.cellsORq : Tryz.prog.cellsOf 24 = 2 := by kernel_rfl
theorem Tryz.bytesOEd : Tryz.prog.bytesOf 49 = 40 := by kernel_rfl
theorem oi64_of {t : Int} (h : Lit.wf (.int .i64 t) = true) : -9223372036854775808 ≤ t ∧ t ≤ 9223372036854775807 := by
  simp [Lit.wf, IntKind.min, IntKind.max, IntKind.signed, IntKind.bits] at h
  omega
theorem ou64_of {t : Int} (h : Lit.wf (.int .u64 t) = true) : 0 ≤ t ∧ t ≤ 18446744073709551615 := by
  simp [Lit.wf, IntKind.min, IntKind.max, IntKind.signed, IntKind.bits] at h
  omega
section
variable {H : Type} {enc : TypeId × Value → H} {W : World}
theorem slice_bulkO {S e : TypeId} (hS : Tryz.prog.underlying S = some (.slice e)) {fuel : Nat} {p : Option Addr} {n cap : Nat} {dd : DataW H} {pl : List MemPlace} (h : DataW.trod enc Tryz.prog W 0 (fun _ => true) true fuel S [.slice p n cap] = some (dd, pl)) : n ≤ cap ∧ n ≤ Rows.uptoBulk dd := by
  rcases open_slice hS h with ⟨hcs, _⟩ | ⟨a, len, c, m, k, D, Pl, hcs, _, hl, _, _, hdat, _⟩
  · simp at hcs
    omega
  · simp at hcs
    obtain ⟨_, rfl, rfl⟩ := hcs
    refine ⟨hl, ?_⟩
    rw [show dd = _ from congrArg Prod.fst hdat]
    simp only [Rows.uptoBulk]
    have := bulkW_len ((List.range n).map D)
    simp only [List.length_map, List.length_range] at this
    omega
set_option maxRecDepth 100000 in
theorem open_rowS {α : Type} [Inhabited α] (K : Kind α) {S : TypeId} (hS : Tryz.prog.underlying S = some (.slice K.T)) (hk : Tryz.prog.cellsOf K.T = K.k)
    (Ok : α → DataW H → Prop) (wt : α → Nat) (hwt : ∀ b d, Ok b d → wt b ≤ Rows.uptoBulk d) {fuel : Nat} {v : Value} {dd : DataW H} {p : List MemPlace}
    (each1 : ∀ (n : Nat) (cs : List Value) (x : DataW H × List MemPlace), DataW.trod enc Tryz.prog W 0 (fun _ => true) true n K.T cs = some x → (∀ n ∈ x.1.weights Tryz.prog K.T, n ≤ reachBytes) → ∃ b : α, cs = K.enc b ∧ Ok b x.1)
    (hf : DataW.trod enc Tryz.prog W 0 (fun _ => true) true fuel S [v] = some (dd, p)) (hZ : ∀ n ∈ dd.weights Tryz.prog S, n ≤ reachBytes) :
    ∃ q : List α, K.Is W v q ∧ (∀ x ∈ q, ∃ d, Rows.uptoBulk d ≤ Rows.uptoBulk dd ∧ Ok x d) ∧ (q.map wt).sum ≤ Rows.uptoBulk dd := by
  rcases open_slice hS hf with ⟨hcs, _⟩ | ⟨a, len, cap, m, n, D, Pl, hcs, _, hl, hm, hmm, hdat, hall⟩
  · simp at hcs
    subst hcs
    exact ⟨[], K.is_nil W, fun x hx => by simp at hx, by simp⟩
  · simp at hcs
    subst hcs
    have hm' : m = cap := by simpa using hmm
    subst hm'
    rw [hk] at hall
    have hdd : dd = .slice ((List.range len).map D) ((List.range (m - len)).map fun j => D (len + j)) := congrArg Prod.fst hdat
    have hbi : ∀ i, i < len → Rows.uptoBulk (D i) ≤ Rows.uptoBulk dd := fun i hi => by
      rw [hdd]
      simp only [Rows.uptoBulk]
      have := bulkW_mem (d := D i) (l := (List.range len).map D) (List.mem_map.2 ⟨i, List.mem_range.2 hi, rfl⟩)
      omega
    have each : ∀ i, i < len → ∃ t : α, (∀ j u, (K.enc t)[j]? = some u → W.cell? (a.add (i * K.k + j)) = some u) ∧ Ok t (D i) := by
      intro i hi
      obtain ⟨cs', h1, h2⟩ := hall i (by omega)
      obtain ⟨_, hlen, hcell⟩ := World.cells?_some h1
      have hDi : ∀ n ∈ (D i).weights Tryz.prog K.T, n ≤ reachBytes := fun n hn => by
        refine hZ n ?_
        rw [hdd]
        simp only [DataW.weights, hS]
        exact List.mem_cons_of_mem _ (List.mem_append.2 (Or.inl (weights_all hn (List.mem_map.2 ⟨i, List.mem_range.2 hi, rfl⟩))))
      obtain ⟨t, rfl, hok⟩ := each1 _ _ (D i, Pl i) h2 hDi
      refine ⟨t, fun j u hu => ?_, hok⟩
      have hj : j < K.k := by
        have := (List.getElem?_eq_some_iff.1 hu).1
        rwa [K.len] at this
      have := hcell j hj
      rw [add_add] at this
      rw [this]; exact hu
    by_cases h0 : len = 0
    · subst h0
      exact ⟨[], ⟨_, _, rfl, Or.inl rfl⟩, fun x hx => by simp at hx, by simp⟩
    · obtain ⟨f, hff⟩ := choose_lt each
      have h1 : 0 < (K.enc (f 0)).length := by rw [K.len]; exact K.pos
      have hc0 := (hff 0 (by omega)).1 0 _ (List.getElem?_eq_getElem h1)
      obtain ⟨b, off, spot⟩ := a
      have hspot : spot = none := by simpa [Addr.add] using World.cell?_spot hc0
      subst hspot
      have hlen : ((List.range len).map f).length = len := by simp
      refine ⟨(List.range len).map f, ⟨_, m, by rw [hlen], Or.inr ⟨b, off, rfl, fun i hi j u hu => ?_⟩⟩, fun x hx => ?_, ?_⟩
      · have hi0 : i < len := by simpa using hi
        have ef : ((List.range len).map f)[i]'hi = f i := by simp
        rw [ef] at hu
        have := (hff i hi0).1 j u hu
        rw [_root_.Go.Proofs.YtpdccbeeoapplaaGreatDoor.addr_add] at this
        rw [Nat.add_assoc]
        exact this
      · obtain ⟨i, hi, rfl⟩ := List.mem_map.1 hx
        exact ⟨D i, hbi i (List.mem_range.1 hi), (hff i (List.mem_range.1 hi)).2⟩
      · have key : ∀ l : List Nat, (∀ i ∈ l, i < len) → ((l.map f).map wt).sum ≤ Rows.uptoBulkAll (l.map D) := by
          intro l
          induction l with
          | nil => intro _; simp
          | cons i l ih =>
            intro hl
            have h1 := ih fun j hj => hl j (by simp [hj])
            have h2 := hwt _ _ (hff i (hl i (by simp))).2
            simp only [List.map_cons, List.sum_cons, Rows.uptoBulkAll]
            omega
        have := key (List.range len) fun i hi => List.mem_range.1 hi
        rw [hdd]
        simp only [Rows.uptoBulk]
        omega
set_option maxRecDepth 100000 in
theorem open_edsO {fuel : Nat} {v : Value} {dd : DataW H} {p : List MemPlace}
    (hf : DataW.trod enc Tryz.prog W 0 (fun _ => true) true fuel 37 [v] = some (dd, p)) (hZ : ∀ n ∈ dd.weights Tryz.prog 37, n ≤ reachBytes) : ∃ q : List Ed, KE.Is W v q ∧ FitE q := by
  obtain ⟨q, h1, h2, _, h4, _⟩ := open_rowZ KE Tryz.underlying37 Tryz.cellsEd Tryz.bytesOEd (fun t _ => t.2.1.size ≤ maxLen ∧ t.2.2.size ≤ maxLen ∧ -9223372036854775808 ≤ t.1 ∧ t.1 ≤ 9223372036854775807) (fun n cs x h _ => open_edit h) hf hZ
  exact ⟨q, h1, h4, fun x hx => (h2 x hx).choose_spec.2⟩
set_option maxHeartbeats 1000000 in
set_option maxRecDepth 100000 in
theorem open_enO {n : Nat} {cs : List Value} {x : DataW H × List MemPlace} (h : DataW.trod enc Tryz.prog W 0 (fun _ => true) true n 41 cs = some x) (hZ : ∀ n ∈ x.1.weights Tryz.prog 41, n ≤ reachBytes) :
    ∃ b : Ex, cs = encEx b ∧ (ExIn W b ∧ CopyX b.vo ∧ wtJ b ≤ Rows.uptoBulk x.1) := by
  obtain ⟨xs, k, _, hx, hlen, hxl, hf⟩ := DataW.trod_struct Tryz.underlying41 h
  rw [Tryz.cellsOEn] at hlen
  match cs, hlen with
  | [v0, v1, v2, v3, v4, v5, v6, v7, v8, v9], _ =>
    match xs, hxl with
    | [y0, y1, y2, y3, y4, y5, y6, y7, y8], _ =>
      have g0 := hf 0 _ rfl
      have g1 := hf 1 _ rfl
      have g2 := hf 2 _ rfl
      have g3 := hf 3 _ rfl
      have g4 := hf 4 _ rfl
      have g5 := hf 5 _ rfl
      have g6 := hf 6 _ rfl
      have g7 := hf 7 _ rfl
      have g8 := hf 8 _ rfl
      simp [Tryz.cellsWInt, Tryz.cellsWStr, Tryz.cellsWKey, Tryz.cellsWFs, Tryz.cellsOEs, Tryz.cellsWTs, Tryz.cellsWU64] at g0 g1 g2 g3 g4 g5 g6 g7 g8
      obtain ⟨kd, ekd, _, hkd⟩ := DataW.trod_int Tryz.underlying3 g0
      obtain ⟨tm, etm, _, htm⟩ := DataW.trod_string Tryz.underlying9 g1
      obtain ⟨ky, eky, hky⟩ := open_kyW g2
      obtain ⟨fi, efi, _, hfi⟩ := DataW.trod_int Tryz.underlying3 g3
      have hz4 : ∀ n ∈ y4.1.weights Tryz.prog 36, n ≤ reachBytes := fun n hn => hZ n (by
        rw [hx]
        simp only [List.map_cons, List.map_nil, DataW.weights, Tryz.underlying41]
        exact List.mem_append.2 (Or.inr (List.mem_append.2 (Or.inr (List.mem_append.2 (Or.inr (List.mem_append.2 (Or.inr (List.mem_append.2 (Or.inl hn))))))))))
      have hz5 : ∀ n ∈ y5.1.weights Tryz.prog 37, n ≤ reachBytes := fun n hn => hZ n (by
        rw [hx]
        simp only [List.map_cons, List.map_nil, DataW.weights, Tryz.underlying41]
        exact List.mem_append.2 (Or.inr (List.mem_append.2 (Or.inr (List.mem_append.2 (Or.inr (List.mem_append.2 (Or.inr (List.mem_append.2 (Or.inr (List.mem_append.2 (Or.inl hn))))))))))))
      have hz6 : ∀ n ∈ y6.1.weights Tryz.prog 38, n ≤ reachBytes := fun n hn => hZ n (by
        rw [hx]
        simp only [List.map_cons, List.map_nil, DataW.weights, Tryz.underlying41]
        exact List.mem_append.2 (Or.inr (List.mem_append.2 (Or.inr (List.mem_append.2 (Or.inr (List.mem_append.2 (Or.inr (List.mem_append.2 (Or.inr (List.mem_append.2 (Or.inr (List.mem_append.2 (Or.inl hn))))))))))))))
      obtain ⟨d, hd, hfd, hdc⟩ := open_fldsZ (dd := y4.1) (p := y4.2) g4 hz4
      obtain ⟨l, hl, hfl⟩ := open_edsO (dd := y5.1) (p := y5.2) g5 hz5
      obtain ⟨t, ht, hft⟩ := open_termsW (dd := y6.1) (p := y6.2) g6 hz6
      obtain ⟨st, est, _, hst⟩ := DataW.trod_int Tryz.underlying39 g7
      obtain ⟨nn, enn, _, hnn⟩ := DataW.trod_int Tryz.underlying3 g8
      simp only [List.cons.injEq, and_true] at ekd etm eky efi est enn
      obtain ⟨vp, vc, rfl, _⟩ := id hd
      obtain ⟨ep, ec, rfl, _⟩ := id hl
      obtain ⟨pp, pc, rfl, _⟩ := id ht
      have b4 := (slice_bulkO Tryz.underlying36 (dd := y4.1) (pl := y4.2) g4).2
      have b5 := (slice_bulkO Tryz.underlying37 (dd := y5.1) (pl := y5.2) g5).2
      have b6 := (slice_bulkO Tryz.underlying38 (dd := y6.1) (pl := y6.2) g6).2
      refine ⟨⟨kd, tm, ky.1, ky.2, fi, vp, vc, d, ep, ec, l, pp, pc, t, st, nn⟩, ?_, ⟨hd, hfd, hl, hfl, ht, hft, htm, hky.1, hky.2, (oi64_of hkd).1, (oi64_of hkd).2, (oi64_of hfi).1, (oi64_of hfi).2, (ou64_of hst).1, (ou64_of hst).2, (oi64_of hnn).1, (oi64_of hnn).2⟩, hdc, ?_⟩
      · rw [ekd, etm, eky.1, eky.2, efi, est, enn]
        rfl
      · rw [hx]
        have q0 := bulkW_pos y0.1
        have q1 := bulkW_pos y1.1
        have q2 := bulkW_pos y2.1
        have q3 := bulkW_pos y3.1
        have q7 := bulkW_pos y7.1
        have q8 := bulkW_pos y8.1
        simp only [List.map_cons, List.map_nil, Rows.uptoBulk, Rows.uptoBulkAll]
        show d.length + l.length + t.length + 6 ≤ _
        omega
structure RqOk (W : World) (v : Value) (d : List Ex) (n : Nat) : Prop where
  rq : RqIn W v d
  cp : ∀ x ∈ d, CopyX x.vo ∧ x.eo.length ≤ 1048576 ∧ x.po.length ≤ 1048576
  wt : (d.map wtJ).sum ≤ n
  few : d.length ≤ 1048576
set_option maxRecDepth 100000 in
theorem open_rqO {b0 : Nat} {v : Value} {dd : DataW H} {p : List MemPlace} (hv : Value.okWide Tryz.prog W .any b0 24 v) (h : DataW.Trod enc Tryz.prog W 0 (fun _ => true) true 24 v dd p) (hZ : ∀ n ∈ dd.weights Tryz.prog 24, n ≤ reachBytes) (hb : Rows.uptoBulk dd ≤ 1048576) :
    ∃ (o : Bool) (a : Option Addr) (cap : Nat) (d : List Ex), v = .agg #[.bool o, .slice a d.length cap] ∧ d.length ≤ cap ∧ RqOk W (.slice a d.length cap) d 1048576 := by
  obtain ⟨cs, rfl, hsz⟩ := okWide_struct Tryz.underlying24 hv
  obtain ⟨fuel, hf0⟩ := h
  have hf1 : DataW.trod enc Tryz.prog W 0 (fun _ => true) true fuel 24 cs.toList = some (dd, p) := by simpa [Value.cells] using hf0
  obtain ⟨xs, k, _, hx, hlen, hxl, hf⟩ := DataW.trod_struct Tryz.underlying24 hf1
  rw [Tryz.cellsORq] at hlen
  obtain ⟨v0, v1, hcs⟩ : ∃ v0 v1, cs.toList = [v0, v1] := by
    match hc : cs.toList, hlen with
    | [v0, v1], _ => exact ⟨v0, v1, rfl⟩
  rw [hcs] at hf
  match xs, hxl with
  | [y0, y1], _ =>
    have g0 := hf 0 _ rfl
    have g1 := hf 1 _ rfl
    simp [Tryz.cellsWBool, Tryz.cellsOEns] at g0 g1
    have hdd : dd = .agg ([y0, y1].map Prod.fst) := congrArg Prod.fst hx
    obtain ⟨o, eo, _⟩ := DataW.trod_bool Tryz.underlying4 g0
    have hz1 : ∀ n ∈ y1.1.weights Tryz.prog 22, n ≤ reachBytes := fun n hn => hZ n (by
      rw [hdd]
      simp only [List.map_cons, List.map_nil, DataW.weights, Tryz.underlying24]
      exact List.mem_append.2 (Or.inr (List.mem_append.2 (Or.inl hn))))
    have hb1 : Rows.uptoBulk y1.1 ≤ 1048576 := by
      rw [hdd] at hb
      simp only [List.map_cons, List.map_nil, Rows.uptoBulk, Rows.uptoBulkAll] at hb
      omega
    haveI : Inhabited Ex := ⟨zeroEx 0⟩
    obtain ⟨d, hd1, hd2, hd3⟩ := open_rowS KEx Tryz.underlying22 Tryz.cellsOEn (fun b d => ExIn W b ∧ CopyX b.vo ∧ wtJ b ≤ Rows.uptoBulk d) wtJ (fun b d h => h.2.2) (fun n cs x h hz => open_enO h hz) (dd := y1.1) (p := y1.2) g1 hz1
    obtain ⟨a, cap, rfl, _⟩ := id hd1
    obtain ⟨hcap, hfew⟩ := slice_bulkO Tryz.underlying22 (dd := y1.1) (pl := y1.2) g1
    simp only [List.cons.injEq, and_true] at eo
    refine ⟨o, a, cap, d, ?_, hcap, ⟨⟨hd1, fun x hx => (hd2 x hx).choose_spec.2.1, by omega⟩, fun x hx => ?_, by omega, by omega⟩⟩
    · have : cs = #[.bool o, .slice a d.length cap] := Array.ext' (by rw [hcs, eo])
      rw [this]
    · obtain ⟨q, hq1, _, hq2, hq3⟩ := hd2 x hx
      unfold wtJ at hq3
      exact ⟨hq2, by omega, by omega⟩
end
end Go.Proofs.YtpdccbeeoapplaaGreatDoor

namespace Go.Proofs.YtpdccbeeoapplaaGreatDoor
open Go.ChangeShapes Go.WideShapes Go.ChangeAt Go.RowKit Go.Lib
def seatLaid16 : List (String × DataW Unit) := [("math/bits.deBruijn32tab", Rows.laid_math_bits_deBruijn32tab), ("math/bits.deBruijn64tab", Rows.laid_math_bits_deBruijn64tab), ("internal/strconv.uint64pow10", Rows.laid_internal_strconv_uint64pow10), ("unicode/utf8.acceptRanges", Rows.laid_unicode_utf8_acceptRanges), ("strconv.ErrRange", Rows.laid_strconv_ErrRange), ("strconv.ErrSyntax", Rows.laid_strconv_ErrSyntax), ("folio/value.plain", Rows.laid_folio_value_plain), ("unicode/utf8.first", Rows.laid_unicode_utf8_first)]
theorem plain_of_laid16 {W : World} (h : laidMet Tryz.prog seatLaid16 W) : PlainAt W := by
  obtain ⟨g, t, cs, fuel, p, hg, ht, hv, hd⟩ := laidMet.reads h (n := "folio/value.plain") (d := Rows.laid_folio_value_plain) (.tail _ (.tail _ (.tail _ (.tail _ (.tail _ (.tail _ (.head _)))))))
  obtain rfl := Option.some.inj (gPlain.symm.trans hg)
  obtain rfl := Option.some.inj (tPlain.symm.trans ht)
  rw [plain_data] at hd
  obtain ⟨_, _, _, _, hlen, _, _⟩ := DataW.trod_array Tryz.underlying185 hd
  rw [cPlain] at hlen
  have hcs := list_pairs 13 cs.toList plainLits (by simpa using hlen) rfl (fun i hi => by
    have hi13 : i < 13 := hi
    obtain ⟨f, d, q, e, hx⟩ := array_elem Tryz.underlying185 hd i hi13
    rw [cPair] at hx
    rw [List.getElem?_map, List.getElem?_eq_getElem hi] at e
    simp only [Option.map_some, Option.some.injEq] at e
    subst e
    exact pair_cells (by rw [List.length_take, List.length_drop]; rw [hlen]; omega) hx)
  have hv' : W.var? Tryz.prog "folio/value.plain" = some cs := hv
  simp only [World.var?, hg, Option.bind_some] at hv'
  split at hv'
  · rename_i c t' fr hh
    cases hv'
    refine ⟨t', fr, ?_⟩
    rw [hh]
    have : cs = plainCells := Array.toList_inj.1 (by rw [hcs]; rfl)
    rw [this]
  · cases hv'
theorem gPow : Tryz.prog.globalNamed "internal/strconv.uint64pow10" = some 4 := by kernel_rfl
theorem tPow : (Tryz.prog.globals[4]?).map (·.type) = some 192 := by kernel_rfl
theorem cPow : Tryz.prog.cellsOf 192 = 20 := by kernel_rfl
theorem cU64 : Tryz.prog.cellsOf 39 = 1 := by kernel_rfl
theorem uPow : Tryz.prog.underlying 192 = some (.array 20 39) := by kernel_rfl
theorem uU64 : Tryz.prog.underlying 39 = some (.int .u64) := by kernel_rfl
theorem pow_of_laid {W : World} (h : laidMet Tryz.prog seatLaid16 W) : TabIs Tryz.prog W "internal/strconv.uint64pow10" .u64 pow10Tab :=
  tabIs_of_head gPow tPow uPow uU64 cU64 cPow (show laidMet Tryz.prog (("internal/strconv.uint64pow10", tabData .u64 pow10Tab) :: _) W from h.tail.tail)
theorem gSyn : Tryz.prog.globalNamed "strconv.ErrSyntax" = some 5 := by kernel_rfl
theorem tSyn : (Tryz.prog.globals[5]?).map (·.type) = some 81 := by kernel_rfl
theorem gRan : Tryz.prog.globalNamed "strconv.ErrRange" = some 6 := by kernel_rfl
theorem tRan : (Tryz.prog.globals[6]?).map (·.type) = some 81 := by kernel_rfl
theorem cEs : Tryz.prog.cellsOf 242 = 1 := by kernel_rfl
theorem cSt : Tryz.prog.cellsOf 9 = 1 := by kernel_rfl
theorem starE : "*" ++ "errors.errorString" = "*errors.errorString" := by decide
theorem rowE (u : TypeId) (h : Tryz.prog.typeName? 3 u = some "*errors.errorString") : u = 240 :=
  typeName_ptr_named (nm := "errors.errorString") (by rw [starE]; kernel_rfl) (by kernel_rfl) (by decide) u (by rw [starE]; exact h)
theorem syn_of_laid {W : World} (h : laidMet Tryz.prog seatLaid16 W) : ErrIn 5 W := by
  obtain ⟨a, s, hv, _⟩ := laid_sentinel (h.tail.tail.tail.tail.tail) gSyn tSyn Tryz.underlying81 rowE Tryz.underlying240 Tryz.underlying242 rfl rfl Tryz.underlying9 cEs cSt
  exact ⟨_, by simpa using World.var?_cell gSyn hv 0, .inr ⟨_, _, rfl⟩⟩
theorem ran_of_laid {W : World} (h : laidMet Tryz.prog seatLaid16 W) : ErrIn 6 W := by
  obtain ⟨a, s, hv, _⟩ := laid_sentinel (h.tail.tail.tail.tail) gRan tRan Tryz.underlying81 rowE Tryz.underlying240 Tryz.underlying242 rfl rfl Tryz.underlying9 cEs cSt
  exact ⟨_, by simpa using World.var?_cell gRan hv 0, .inr ⟨_, _, rfl⟩⟩
end Go.Proofs.YtpdccbeeoapplaaGreatDoor

namespace Go.Proofs.YtpdccbeeoapplaaGreatDoor
open Go.ChangeShapes Go.WideShapes Go.ChangeAt Go.RowKit
theorem vars_of_laid16 {W : World} (h : laidMetH Tryz.prog seatLaid16 W) (hs : W.ShapedOpen Tryz.prog) : OpVars W := by
  rw [MakeChecks.laidMetH_plain _ _ _ (by kernel_rfl)] at h
  exact ⟨plain_of_laid16 h, cell_of_shapedOpen_int (zero := #[.int .i64 0]) (t := 3) hs (of_decide_eq_true (by kernel_rfl)) (by kernel_rfl) rfl (by kernel_rfl) (by kernel_rfl) Tryz.underlying3, pow_of_laid h, syn_of_laid h, ran_of_laid h⟩
end Go.Proofs.YtpdccbeeoapplaaGreatDoor
