/-
  Texts of this claim, one behind the other: Ojw Cob Coz Ozx Bal Hoe Ojz Oob Oxl Oxv.
-/
import Derived.Test.YtjoimhmhiophfaaGreatDoorPh
import Derived.Test.YtjoimhmhiophfaaGreatDoorPe
import Derived.Test.YtjoimhmhiophfaaGreatDoorRows
import Derived.MakeChecks
import Derived.ProofKit
import Derived.OpenShut
import Derived.Lay
import Derived.Stop.Joined
import Derived.SliceStrings
import Derived.Deep.SlicePairs
import Derived.Lib.LaidU8
import Derived.SizedLaws
import Derived.ChangeSlices
import Derived.JoinedCond
import Derived.Lib.SmallJoins
import Derived.ShutString
import Derived.Below
import Derived.Deep.DeepHandedRow
import Derived.Test.YtjoimhmhiophfaaGreatDoorPd
import Derived.Test.YtjoimhmhiophfaaGreatDoorPa
import Derived.Stop.LaidErr
import Derived.LaidLaws
import Derived.Lib.LaidTab
import Derived.Shelf.Vars
namespace Go.Proofs.YtjoimhmhiophfaaGreatDoor
open Go.RowKit Go.Lib
theorem one_in {W : World} {b off : Nat} {d : List Ex} (h : KEx.At W b off d) (i : Nat) (x : Ex) (hx : d[i]? = some x) (c : Nat) : KEx.Is W (.slice (some ⟨b, off + i * 10, none⟩) 1 c) [x] := by
  refine ⟨_, c, rfl, Or.inr ⟨b, off + i * 10, rfl, ?_⟩⟩
  intro j hj k v hv
  obtain ⟨hi, rfl⟩ := List.getElem?_eq_some_iff.1 hx
  have h0 : j = 0 := by simpa using hj
  subst h0
  have q := h i hi k v (by simpa using hv)
  have e : off + i * 10 + 0 * KEx.k + k = off + i * KEx.k + k := by show _ = off + i * 10 + k; omega
  rw [e]
  exact q
theorem all_may (d : List Ex) (i : Nat) (x : Ex) (hx : d[i]? = some x) : (d.take (i + 1)).all mayO = ((d.take i).all mayO && mayO x) := by
  rw [List.take_add_one, hx, List.all_append]
  simp
theorem want_step (o : Bool) (d : List Ex) (i : Nat) (x : Ex) (hx : d[i]? = some x) : wantJ o (d.take (i + 1)) = wantJ o (d.take i) ++ ((if i = 0 then [] else [32, 59, 32]) ++ aloneJ x) := by
  rw [List.take_add_one, hx, Option.toList_some, want_snoc]
  have : d.take i = [] ↔ i = 0 := by
    obtain ⟨hi, _⟩ := List.getElem?_eq_some_iff.1 hx
    rw [← List.length_eq_zero_iff, List.length_take]
    omega
  simp only [this]
theorem cat_str (l m : List UInt8) : (⟨l.toArray⟩ : ByteArray) ++ ⟨m.toArray⟩ = ⟨(l ++ m).toArray⟩ := by
  apply ByteArray.ext
  simp
set_option maxHeartbeats 8000000 in
set_option maxRecDepth 100000 in
theorem joins16_any (o : Bool) (a : Option Addr) (cap : Nat) (d : List Ex) (w : World) (hd : RqIn w (.slice a d.length cap) d) (hv : OpVars w) (hcap : d.length ≤ cap) (hsz : ∀ i, (wantJ o (d.take i)).length ≤ 4294967000) :
    Calls Tryz.prog 8 #[.agg #[.bool o, .slice a d.length cap]] w fun e w' => e = .returned (.bool true) ∧ Below w.heap.size w w' := by
  have HD := hid hd
  have HV := hid hv
  obtain ⟨a', cap', hq, hrow⟩ := hd.row
  cases hq
  have hlen := hd.len
  have HR := hid hrow
  have HSZ := hid hsz
  have HFX := hid (fixed16_any _ (hv.on ((Below.refl w.heap.size w).alloc (Nat.le_refl _) (.cells #[.bool o, .slice a d.length cap] 24))))
  obtain ⟨W0, hW0⟩ : ∃ W0, w.alloc (.cells #[.bool o, .slice a d.length cap] 24) = W0 := ⟨_, rfl⟩
  have HB0 : Hid (Below w.heap.size w W0) := hid (by rw [← hW0]; exact (Below.refl _ _).alloc (Nat.le_refl _) _)
  have HQ0 : Hid (W0.heap[w.heap.size]? = some (.cells #[.bool o, .slice a d.length cap] 24 (0, 0))) := hid (by rw [← hW0]; exact heap_alloc_new w _)
  rw [hW0] at HFX
  clear hd hrow hv hsz
  go_enter Tryz.func8, Tryz.ntmps8
  go_wp2_with fail
  try rw [hW0]
  clear hW0
  refine HFX.out.mono ?_
  rintro e w1 ⟨rfl, hb1⟩
  have HB1 := hid (HB0.out.trans (hb1.mono HB0.out.size))
  have HQ1 : Hid (w1.heap[w.heap.size]? = some (.cells #[.bool o, .slice a d.length cap] 24 (0, 0))) := hid ((hb1.block _ (Array.getElem?_eq_some_iff.1 HQ0.out).1).trans HQ0.out)
  have k1 : w1.cell? ⟨w.heap.size, 0, none⟩ = some (.bool o) := by rw [Lib.cell_of_heap HQ1.out]; rfl
  have k2 : w1.cell? ⟨w.heap.size, 1, none⟩ = some (.slice a d.length cap) := by rw [Lib.cell_of_heap HQ1.out]; rfl
  have HPR := hid (opPrint_any o _ d w1 (HD.out.on HB1.out) (HV.out.on HB1.out))
  clear hb1 HFX HB0 HQ0 W0
  go_wp2_with fail
  refine HPR.out.mono ?_
  rintro e w2 ⟨rfl, hb2⟩
  have HB2 := hid (HB1.out.trans (hb2.mono HB1.out.size))
  have HQ2 : Hid (w2.heap[w.heap.size]? = some (.cells #[.bool o, .slice a d.length cap] 24 (0, 0))) := hid ((hb2.block _ (Array.getElem?_eq_some_iff.1 HQ1.out).1).trans HQ1.out)
  clear hb2 HPR k1 k2 HB1 HQ1
  have k1 : w2.cell? ⟨w.heap.size, 0, none⟩ = some (.bool o) := by rw [Lib.cell_of_heap HQ2.out]; rfl
  have k2 : w2.cell? ⟨w.heap.size, 1, none⟩ = some (.slice a d.length cap) := by rw [Lib.cell_of_heap HQ2.out]; rfl
  obtain ⟨S0, hS0⟩ : ∃ S0 : ByteArray, (if mayRO d = true then printO o (d.map Ex.en) else ⟨#[]⟩) = S0 := ⟨_, rfl⟩
  obtain ⟨E0, hE0⟩ : ∃ E0 : Int, (if mayRO d = true then (0 : Int) else 4) = E0 := ⟨_, rfl⟩
  rw [hS0, hE0]
  have HS0 := hid hS0
  have HE0 := hid hE0
  clear hS0 hE0
  go_upto_region 4 with fail
  go_cut [5, 6] from 14 (fun v5 v6 wx => v5 = .string ⟨#[]⟩ ∧ v6 = .bool (decide (0 < d.length) && decide (d.length ≤ 16)) ∧ Hid (Below w2.heap.size w2 wx))
  case first =>
    by_cases h0 : 0 < d.length
    · have h0z : (0 : Int) < (d.length : Int) := by omega
      have HZ0 : Hid (decide (0 < d.length) = true) := hid (decide_eq_true h0)
      have hle : decide ((d.length : Int) ≤ 16) = decide (d.length ≤ 16) := by rw [decide_eq_decide]; omega
      have hS : w2.drew.cell? ⟨w.heap.size, 1, none⟩ = some (.slice a d.length cap) := k2
      refine wp_region_held_drew (S := fun w' => w'.cell? ⟨w.heap.size, 1, none⟩ = some (.slice a d.length cap)) (by kernel_rfl) hS (fun hHeld => ?_)
      refine take_val (i := 0) (.pointer (some ⟨w.heap.size, 1, none⟩)) rfl (by kernel_rfl) (by kernel_rfl) (by kernel_rfl) (fun _ _ _ h => h) (by rfl) (fun w hSw => by go_simp) hHeld ?_
      simp only [Act.put, List.setIfInBounds_toArray, List.set_cons_zero, List.set_cons_succ]
      refine take_val (i := 1) (.slice a d.length cap) rfl (by kernel_rfl) (by kernel_rfl) (by kernel_rfl) (fun _ _ _ h => h) (by rfl) (fun w hSw => by go_simp) hHeld ?_
      simp only [Act.put, List.setIfInBounds_toArray, List.set_cons_zero, List.set_cons_succ]
      refine take_val (i := 2) (.int .i64 d.length) rfl (by kernel_rfl) (by kernel_rfl) (by kernel_rfl) (fun _ _ _ h => h) (by rfl) (fun w hSw => by go_simp) hHeld ?_
      simp only [Act.put, List.setIfInBounds_toArray, List.set_cons_zero, List.set_cons_succ]
      refine take_val (i := 3) (.bool true) rfl (by kernel_rfl) (by kernel_rfl) (by kernel_rfl) (fun _ _ _ h => h) (by rfl) (fun w hSw => by go_simp) hHeld ?_
      simp only [Act.put, List.setIfInBounds_toArray, List.set_cons_zero, List.set_cons_succ]
      refine take_val (i := 4) (.bool true) rfl (by kernel_rfl) (by kernel_rfl) (by kernel_rfl) (fun _ _ _ h => h) (by rfl) (fun w hSw => by go_simp) hHeld ?_
      simp only [Act.put, List.setIfInBounds_toArray, List.set_cons_zero, List.set_cons_succ]
      refine take_val (i := 5) (.pointer (some ⟨w.heap.size, 1, none⟩)) rfl (by kernel_rfl) (by kernel_rfl) (by kernel_rfl) (fun _ _ _ h => h) (by rfl) (fun w hSw => by go_simp) hHeld ?_
      simp only [Act.put, List.setIfInBounds_toArray, List.set_cons_zero, List.set_cons_succ]
      refine take_val (i := 6) (.slice a d.length cap) rfl (by kernel_rfl) (by kernel_rfl) (by kernel_rfl) (fun _ _ _ h => h) (by rfl) (fun w hSw => by go_simp) hHeld ?_
      simp only [Act.put, List.setIfInBounds_toArray, List.set_cons_zero, List.set_cons_succ]
      refine take_val (i := 7) (.int .i64 d.length) rfl (by kernel_rfl) (by kernel_rfl) (by kernel_rfl) (fun _ _ _ h => h) (by rfl) (fun w hSw => by go_simp) hHeld ?_
      simp only [Act.put, List.setIfInBounds_toArray, List.set_cons_zero, List.set_cons_succ]
      refine take_val (i := 8) (.bool (decide ((d.length : Int) ≤ 16))) rfl (by kernel_rfl) (by kernel_rfl) (by kernel_rfl) (fun _ _ _ h => h) (by rfl) (fun w hSw => by go_simp) hHeld ?_
      simp only [Act.put, List.setIfInBounds_toArray, List.set_cons_zero, List.set_cons_succ]
      refine take_val (i := 9) (.bool (decide ((d.length : Int) ≤ 16))) rfl (by kernel_rfl) (by kernel_rfl) (by kernel_rfl) (fun _ _ _ h => h) (by rfl) (fun w hSw => by go_simp) hHeld ?_
      simp only [Act.put, List.setIfInBounds_toArray, List.set_cons_zero, List.set_cons_succ]
      refine take_val (i := 10) (.string ⟨#[]⟩) rfl (by kernel_rfl) (by kernel_rfl) (by kernel_rfl) (fun _ _ _ h => h) (by rfl) (fun w hSw => by go_simp) hHeld ?_
      simp only [Act.put, List.setIfInBounds_toArray, List.set_cons_zero, List.set_cons_succ]
      refine take_val (i := 11) (.bool (decide ((d.length : Int) ≤ 16))) rfl (by kernel_rfl) (by kernel_rfl) (by kernel_rfl) (fun _ _ _ h => h) (by rfl) (fun w hSw => by go_simp) hHeld ?_
      simp only [Act.put, List.setIfInBounds_toArray, List.set_cons_zero, List.set_cons_succ]
      refine wpAnyH_done (by kernel_rfl) ?_ _
      clear hHeld
      go_wp2_with fail
      go_meet
      exact ⟨rfl, by rw [HZ0.out, hle]; rfl, hid (bel_drewN (Below.refl _ _) 1)⟩
    · have h0z : ¬ (0 : Int) < (d.length : Int) := by omega
      have HZ0 : Hid (decide (0 < d.length) = false) := hid (decide_eq_false h0)
      have hS : w2.drew.cell? ⟨w.heap.size, 1, none⟩ = some (.slice a d.length cap) := k2
      refine wp_region_held_drew (S := fun w' => w'.cell? ⟨w.heap.size, 1, none⟩ = some (.slice a d.length cap)) (by kernel_rfl) hS (fun hHeld => ?_)
      refine take_val (i := 0) (.pointer (some ⟨w.heap.size, 1, none⟩)) rfl (by kernel_rfl) (by kernel_rfl) (by kernel_rfl) (fun _ _ _ h => h) (by rfl) (fun w hSw => by go_simp) hHeld ?_
      simp only [Act.put, List.setIfInBounds_toArray, List.set_cons_zero, List.set_cons_succ]
      refine take_val (i := 1) (.slice a d.length cap) rfl (by kernel_rfl) (by kernel_rfl) (by kernel_rfl) (fun _ _ _ h => h) (by rfl) (fun w hSw => by go_simp) hHeld ?_
      simp only [Act.put, List.setIfInBounds_toArray, List.set_cons_zero, List.set_cons_succ]
      refine take_val (i := 2) (.int .i64 d.length) rfl (by kernel_rfl) (by kernel_rfl) (by kernel_rfl) (fun _ _ _ h => h) (by rfl) (fun w hSw => by go_simp) hHeld ?_
      simp only [Act.put, List.setIfInBounds_toArray, List.set_cons_zero, List.set_cons_succ]
      refine take_val (i := 3) (.bool false) rfl (by kernel_rfl) (by kernel_rfl) (by kernel_rfl) (fun _ _ _ h => h) (by rfl) (fun w hSw => by go_simp) hHeld ?_
      simp only [Act.put, List.setIfInBounds_toArray, List.set_cons_zero, List.set_cons_succ]
      refine take_val (i := 4) (.bool false) rfl (by kernel_rfl) (by kernel_rfl) (by kernel_rfl) (fun _ _ _ h => h) (by rfl) (fun w hSw => by go_simp) hHeld ?_
      simp only [Act.put, List.setIfInBounds_toArray, List.set_cons_zero, List.set_cons_succ]
      refine take_not (i := 5) rfl (by kernel_rfl) (by kernel_rfl) (by kernel_rfl) (fun _ _ _ h => h) (by rfl) hHeld ?_
      simp only [Act.put, List.setIfInBounds_toArray, List.set_cons_zero, List.set_cons_succ]
      refine take_not (i := 6) rfl (by kernel_rfl) (by kernel_rfl) (by kernel_rfl) (fun _ _ _ h => h) (by rfl) hHeld ?_
      simp only [Act.put, List.setIfInBounds_toArray, List.set_cons_zero, List.set_cons_succ]
      refine take_not (i := 7) rfl (by kernel_rfl) (by kernel_rfl) (by kernel_rfl) (fun _ _ _ h => h) (by rfl) hHeld ?_
      simp only [Act.put, List.setIfInBounds_toArray, List.set_cons_zero, List.set_cons_succ]
      refine take_not (i := 8) rfl (by kernel_rfl) (by kernel_rfl) (by kernel_rfl) (fun _ _ _ h => h) (by rfl) hHeld ?_
      simp only [Act.put, List.setIfInBounds_toArray, List.set_cons_zero, List.set_cons_succ]
      refine take_val (i := 9) (.bool false) rfl (by kernel_rfl) (by kernel_rfl) (by kernel_rfl) (fun _ _ _ h => h) (by rfl) (fun w hSw => by go_simp) hHeld ?_
      simp only [Act.put, List.setIfInBounds_toArray, List.set_cons_zero, List.set_cons_succ]
      refine take_val (i := 10) (.string ⟨#[]⟩) rfl (by kernel_rfl) (by kernel_rfl) (by kernel_rfl) (fun _ _ _ h => h) (by rfl) (fun w hSw => by go_simp) hHeld ?_
      simp only [Act.put, List.setIfInBounds_toArray, List.set_cons_zero, List.set_cons_succ]
      refine take_val (i := 11) (.bool false) rfl (by kernel_rfl) (by kernel_rfl) (by kernel_rfl) (fun _ _ _ h => h) (by rfl) (fun w hSw => by go_simp) hHeld ?_
      simp only [Act.put, List.setIfInBounds_toArray, List.set_cons_zero, List.set_cons_succ]
      refine wpAnyH_done (by kernel_rfl) ?_ _
      clear hHeld
      go_wp2_with fail
      go_meet
      exact ⟨rfl, by rw [HZ0.out]; rfl, hid (bel_drewN (Below.refl _ _) 1)⟩
  obtain ⟨rfl, rfl, HBX⟩ := hcut
  have HB3 := hid (HB2.out.trans (HBX.out.mono HB2.out.size))
  have HQ3 : Hid (wc.heap[w.heap.size]? = some (.cells #[.bool o, .slice a d.length cap] 24 (0, 0))) := hid ((HBX.out.block _ (Array.getElem?_eq_some_iff.1 HQ2.out).1).trans HQ2.out)
  clear k1 k2 HBX HB2 HQ2
  have k1 : wc.cell? ⟨w.heap.size, 0, none⟩ = some (.bool o) := by rw [Lib.cell_of_heap HQ3.out]; rfl
  have k2 : wc.cell? ⟨w.heap.size, 1, none⟩ = some (.slice a d.length cap) := by rw [Lib.cell_of_heap HQ3.out]; rfl
  go_upto_if 30 with fail
  go_cut [5] from 29 (fun v5 wx => v5 = .string ⟨(wantJ o []).toArray⟩ ∧ wc = wx)
  case first =>
    cases o
    · go_wp2_with fail
      go_meet
      exact ⟨rfl, rfl⟩
    · go_wp2_with fail
      go_meet
      exact ⟨rfl, rfl⟩
  obtain ⟨rfl, rfl⟩ := hcut
  go_wp2_with fail
  go_loopg [5, 6, 34] d.length (fun g v5 v6 vi wr => ∃ (i : Nat), vi = .int .i64 i ∧ v5 = .string ⟨(wantJ o (d.take i)).toArray⟩ ∧ v6 = .bool (decide (0 < d.length) && decide (d.length ≤ 16) && (d.take i).all mayO) ∧ i ≤ d.length ∧ d.length - i ≤ g ∧ Hid (Below w.heap.size w wr) ∧ Hid (wr.heap[w.heap.size]? = some (.cells #[.bool o, .slice a d.length cap] 24 (0, 0))))
  case atStart => exact ⟨0, rfl, rfl, by simp, by omega, by omega, HB3, HQ3⟩
  case round =>
    obtain ⟨i, rfl, rfl, rfl, hi, hig, HBR, HQR⟩ := hrel
    have r2 : wr.cell? ⟨w.heap.size, 1, none⟩ = some (.slice a d.length cap) := by rw [Lib.cell_of_heap HQR.out]; rfl
    by_cases hlt : i < d.length
    · have HLT := hid hlt
      have hltz : (i : Int) < (d.length : Int) := by omega
      have hiz : (0 : Int) ≤ (i : Int) := by omega
      have hc1 : (i : Int) + 1 ≤ (cap : Int) := by omega
      obtain ⟨b, off, rfl, hat⟩ : ∃ b off, a = some ⟨b, off, none⟩ ∧ KEx.At w b off d := by
        rcases HR.out with h | ⟨b, off, h1, h2⟩
        · rw [h] at hlt; simp at hlt
        · exact ⟨b, off, h1, h2⟩
      obtain ⟨x, hx⟩ : ∃ x, d[i]? = some x := ⟨_, List.getElem?_eq_getElem hlt⟩
      have HX := hid hx
      have HAT := hid hat
      have HPO : Hid (∀ c, Calls Tryz.prog 10 #[.agg #[.bool false, .slice (some ⟨b, off + i * 10, none⟩) 1 c]] wr fun e w' => e = .returned (.tuple #[.string ⟨(aloneJ x).toArray⟩, .int .i64 (if mayO x = true then 0 else 4)]) ∧ Below wr.heap.size wr w') := hid fun c => by
        refine (opPrint_any false _ [x] wr ⟨one_in (Kind.at_kept HAT.out HBR.out) i x HX.out c, fun y hy => ?_, by simp⟩ (HV.out.on HBR.out)).mono ?_
        · obtain rfl : y = x := by simpa using hy
          exact (HD.out.each y (List.mem_of_getElem? HX.out)).on HBR.out
        · rintro e w' ⟨rfl, hb⟩
          refine ⟨?_, hb⟩
          rw [alone_may]
          by_cases hm : mayO x = true
          · simp only [hm, if_true, aloneJ, List.map_cons, List.map_nil]
            rw [← alone_print x.en]
          · simp [hm, aloneJ]
      have HW1 := hid (want_step o d i x hx)
      have HM1 := hid (all_may d i x hx)
      clear hx hat
      go_wp2_with fail
      refine (HPO.out _).mono ?_
      rintro e w3 ⟨rfl, hb3⟩
      have HB4 := hid (HBR.out.trans (hb3.mono HBR.out.size))
      have HQ4 : Hid (w3.heap[w.heap.size]? = some (.cells #[.bool o, .slice (some ⟨b, off, none⟩) d.length cap] 24 (0, 0))) := hid ((hb3.block _ (Array.getElem?_eq_some_iff.1 HQR.out).1).trans HQR.out)
      obtain ⟨B, hB⟩ : ∃ B : Bool, (decide (0 < d.length) && decide (d.length ≤ 16) && (d.take i).all mayO) = B := ⟨_, rfl⟩
      obtain ⟨M, hM⟩ : ∃ M : Bool, mayO x = M := ⟨_, rfl⟩
      have HOK : Hid ((decide (0 < d.length) && decide (d.length ≤ 16) && (d.take (i + 1)).all mayO) = (B && M)) := hid (by rw [HM1.out, ← Bool.and_assoc, hB, hM])
      rw [hB, hM]
      have hle1 := HSZ.out (i + 1)
      rw [HW1.out] at hle1
      obtain ⟨s1, hs1⟩ : ∃ s1 : ByteArray, ⟨(wantJ o (d.take i)).toArray⟩ = s1 := ⟨_, rfl⟩
      obtain ⟨t1, ht1⟩ : ∃ t1 : ByteArray, ⟨(aloneJ x).toArray⟩ = t1 := ⟨_, rfl⟩
      have z1 : s1.size = (wantJ o (d.take i)).length := by rw [← hs1]; simp [ByteArray.size]
      have z2 : t1.size = (aloneJ x).length := by rw [← ht1]; simp [ByteArray.size]
      rw [hs1, ht1]
      simp only [List.length_append] at hle1
      clear hb3 HPO r2 HM1 hB hM HX HAT HQR HBR
      by_cases h0 : i = 0
      · have h0z : ¬ (0 : Int) < (i : Int) := by omega
        rw [if_pos h0] at HW1 hle1
        have hA : ∀ w, Sem.run Tryz.prog (Op.stringOp .add s1 t1) w = .ok (.string (s1 ++ t1)) w := fun w => run_string_add_sum _ _ _ (by simp only [List.length_nil] at hle1; omega)
        have HNW : Hid ((⟨(wantJ o (d.take (i + 1))).toArray⟩ : ByteArray) = s1 ++ t1) := hid (by rw [HW1.out, ← hs1, ← ht1, cat_str, List.nil_append])
        clear h0 hs1 ht1 z1 z2 hle1 HW1
        cases B
        · cases M
          · go_wp2_with fail
            go_roundg (d.length - (i + 1))
            case measure => omega
            exact ⟨i + 1, by go_num, by rw [HNW.out], by rw [HOK.out]; rfl, HLT.out, Nat.le_refl _, HB4, HQ4⟩
          · go_wp2_with fail
            go_roundg (d.length - (i + 1))
            case measure => omega
            exact ⟨i + 1, by go_num, by rw [HNW.out], by rw [HOK.out]; rfl, HLT.out, Nat.le_refl _, HB4, HQ4⟩
        · cases M
          · go_wp2_with fail
            go_roundg (d.length - (i + 1))
            case measure => omega
            exact ⟨i + 1, by go_num, by rw [HNW.out], by rw [HOK.out]; rfl, HLT.out, Nat.le_refl _, HB4, HQ4⟩
          · go_wp2_with fail
            go_roundg (d.length - (i + 1))
            case measure => omega
            exact ⟨i + 1, by go_num, by rw [HNW.out], by rw [HOK.out]; rfl, HLT.out, Nat.le_refl _, HB4, HQ4⟩
      · have h0z : (0 : Int) < (i : Int) := by omega
        rw [if_neg h0] at HW1 hle1
        have z3 : (s1 ++ ⟨#[32, 59, 32]⟩ : ByteArray).size = s1.size + 3 := by rw [ByteArray.size_append]; rfl
        have hA : ∀ w, Sem.run Tryz.prog (Op.stringOp .add s1 ⟨#[32, 59, 32]⟩) w = .ok (.string (s1 ++ ⟨#[32, 59, 32]⟩)) w := fun w => run_string_add_sum _ _ _ (by show s1.size + 3 ≤ _; simp only [List.length_cons, List.length_nil] at hle1; omega)
        have hA2 : ∀ w, Sem.run Tryz.prog (Op.stringOp .add (s1 ++ ⟨#[32, 59, 32]⟩) t1) w = .ok (.string (s1 ++ ⟨#[32, 59, 32]⟩ ++ t1)) w := fun w => run_string_add_sum _ _ _ (by simp only [List.length_cons, List.length_nil] at hle1; omega)
        have HNW : Hid ((⟨(wantJ o (d.take (i + 1))).toArray⟩ : ByteArray) = s1 ++ ⟨#[32, 59, 32]⟩ ++ t1) := hid (by
          have e : (⟨#[32, 59, 32]⟩ : ByteArray) = ⟨([32, 59, 32] : List UInt8).toArray⟩ := rfl
          rw [HW1.out, ← hs1, ← ht1, e, cat_str, cat_str, List.append_assoc])
        clear h0 hs1 ht1 z1 z2 z3 hle1 HW1
        cases B
        · cases M
          · go_wp2_with fail
            go_roundg (d.length - (i + 1))
            case measure => omega
            exact ⟨i + 1, by go_num, by rw [HNW.out], by rw [HOK.out]; rfl, HLT.out, Nat.le_refl _, HB4, HQ4⟩
          · go_wp2_with fail
            go_roundg (d.length - (i + 1))
            case measure => omega
            exact ⟨i + 1, by go_num, by rw [HNW.out], by rw [HOK.out]; rfl, HLT.out, Nat.le_refl _, HB4, HQ4⟩
        · cases M
          · go_wp2_with fail
            go_roundg (d.length - (i + 1))
            case measure => omega
            exact ⟨i + 1, by go_num, by rw [HNW.out], by rw [HOK.out]; rfl, HLT.out, Nat.le_refl _, HB4, HQ4⟩
          · go_wp2_with fail
            go_roundg (d.length - (i + 1))
            case measure => omega
            exact ⟨i + 1, by go_num, by rw [HNW.out], by rw [HOK.out]; rfl, HLT.out, Nat.le_refl _, HB4, HQ4⟩
    · obtain rfl : i = d.length := by omega
      have hltz : ¬ (d.length : Int) < (d.length : Int) := by omega
      rw [List.take_length]
      have hM : (decide (0 < d.length) && decide (d.length ≤ 16) && d.all mayO) = mayRO d := rfl
      rw [hM]
      have HSZW : Hid ((wantJ o d).length ≤ 4294967000) := hid (by have := HSZ.out d.length; rwa [List.take_length] at this)
      have HP : Hid (∀ (t : ByteArray) W, t.size ≤ 4294967000 → Below w.heap.size w W → Calls Tryz.prog 13 #[.string t] W fun e w' => ∃ (once : Bool) (pv : Option Addr) (d : List Ex) (cv : Nat) (c : Int), e = .returned (.tuple #[.agg #[.bool once, .slice pv d.length cv], .int .i64 c]) ∧
          (∀ x ∈ d, 0 ≤ x.en.stamp ∧ x.en.stamp ≤ 18446744073709551615) ∧ (∀ V, Below w'.heap.size w' V → d.length ≤ 4294967000 → RqIn V (.slice pv d.length cv) d) ∧ ((c = 0 ∧ opR t.data.toList = some (once, d.map Ex.en)) ∨ (c = 4 ∧ once = false ∧ d = [] ∧ opR t.data.toList = none)) ∧ Below W.heap.size W w') := hid fun t W ht hW => (opparse_any t W (HV.out.on hW) ht).mono (by
        rintro e w' ⟨⟨once, v, d, c, rfl, ho, hq, hc⟩, hb⟩
        obtain ⟨pv, cv, rfl⟩ := Kind.own_shape ho
        exact ⟨once, pv, d, cv, c, rfl, fun x hx => ⟨(hq x hx).rng.t0, (hq x hx).rng.t1⟩, fun V hV hl => (own_rq ho hq hl).on hV, hc, hb⟩)
      obtain ⟨t1, ht1⟩ : ∃ t1 : ByteArray, ⟨(wantJ o d).toArray⟩ = t1 := ⟨_, rfl⟩
      have hz1 : t1.size ≤ 4294967000 := by rw [← ht1]; have := HSZW.out; simpa [ByteArray.size] using this
      have HPA := hid (HP.out t1 wr hz1 HBR.out)
      have HT1 := hid ht1
      rw [ht1]
      clear hM hz1 ht1 HP
      by_cases hm : mayRO d = true
      · have hE : E0 = 0 := by rw [← HE0.out, if_pos hm]
        have hS1 : S0 = t1 := by
          rw [← HS0.out, if_pos hm, ← HT1.out, want_is (fun x hx => by
            unfold mayRO at hm
            simp only [Bool.and_eq_true, List.all_eq_true] at hm
            exact hm.2 x hx)]
        have HOB : Hid (opR t1.data.toList = some (o, d.map Ex.en)) := hid (by
          rw [← hS1, ← HS0.out, if_pos hm]
          exact op_back (by rw [← mayRO_is]; exact hm) (fun e he => by
            obtain ⟨x, hx, rfl⟩ := List.mem_map.1 he
            exact ⟨(HD.out.each x hx).t0, (HD.out.each x hx).t1⟩))
        subst hE
        subst hS1
        rw [hm]
        have hq : (S0.toList == S0.toList) = true := seq_true rfl
        clear hm
        go_wp2_with fail
        refine HPA.out.mono ?_
        rintro e w5 ⟨once, pv, d2, cv, c, rfl, hst, hrq, hc, hb5⟩
        have hdd : once = o ∧ d2.map Ex.en = d.map Ex.en ∧ c = 0 := by
          rcases hc with ⟨hc0, hop⟩ | ⟨_, _, _, hop⟩
          · rw [HOB.out] at hop
            have h := Option.some.inj hop
            exact ⟨(congrArg Prod.fst h).symm, (congrArg Prod.snd h).symm, hc0⟩
          · rw [HOB.out] at hop; cases hop
        obtain ⟨rfl, hmap, rfl⟩ := hdd
        have hl2 : d2.length = d.length := by have := congrArg List.length hmap; simpa using this
        have HB5 := hid (HBR.out.trans (hb5.mono HBR.out.size))
        have HQ5 : Hid (w5.heap[w.heap.size]? = some (.cells #[.bool once, .slice a d.length cap] 24 (0, 0))) := hid ((hb5.block _ (Array.getElem?_eq_some_iff.1 HQR.out).1).trans HQR.out)
        have HRQ := hid hrq
        have HMP := hid hmap
        have HL2 := hid hl2
        clear hst hrq hc hb5 r2 hmap hl2
        have HB6 : Hid (Below w.heap.size w (w5.alloc (.cells #[.bool once, .slice pv d2.length cv] 24))) := hid (HB5.out.alloc HB5.out.size _)
        have hb65 : Below w5.heap.size w5 (w5.alloc (.cells #[.bool once, .slice pv d2.length cv] 24)) := (Below.refl _ _).alloc (Nat.le_refl _) _
        have hq6 : (w5.alloc (.cells #[.bool once, .slice pv d2.length cv] 24)).heap[w.heap.size]? = some (.cells #[.bool once, .slice a d.length cap] 24 (0, 0)) := (hb65.block _ (Array.getElem?_eq_some_iff.1 HQ5.out).1).trans HQ5.out
        have r1 : (w5.alloc (.cells #[.bool once, .slice pv d2.length cv] 24)).cell? ⟨w.heap.size, 0, none⟩ = some (.bool once) := by rw [Lib.cell_of_heap hq6]; rfl
        have r2 : (w5.alloc (.cells #[.bool once, .slice pv d2.length cv] 24)).cell? ⟨w.heap.size, 1, none⟩ = some (.slice a d.length cap) := by rw [Lib.cell_of_heap hq6]; rfl
        have HEQ := hid (rEqual16_any once once _ _ d2 d _ (HRQ.out _ hb65 (by have := HL2.out; omega)) (HD.out.on HB6.out))
        clear hb65 hq6
        go_wp2_with fail
        refine HEQ.out.mono ?_
        rintro e w7 ⟨rfl, hb7⟩
        have HB7 := hid (HB6.out.trans (hb7.mono HB6.out.size))
        have hde : decide (True ∧ d2.map Ex.en = d.map Ex.en) = true := decide_eq_true ⟨trivial, HMP.out⟩
        rw [hde]
        clear hb7 hde
        go_wp2_with fail
        go_ret
        exact ⟨rfl, HB7.out⟩
      · have hE : E0 = 4 := by rw [← HE0.out, if_neg hm]
        have hmf : mayRO d = false := by simpa using hm
        subst hE
        rw [hmf]
        clear hm hmf
        go_wp2_with fail
        refine HPA.out.mono ?_
        rintro e w5 ⟨once, pv, d2, cv, c, rfl, hst, hrq, hc, hb5⟩
        have HB5 := hid (HBR.out.trans (hb5.mono HBR.out.size))
        have HB6 : Hid (Below w.heap.size w (w5.alloc (.cells #[.bool once, .slice pv d2.length cv] 24))) := hid (HB5.out.alloc HB5.out.size _)
        clear hst hrq hc hb5 r2
        go_wp2_with fail
        go_ret
        exact ⟨rfl, HB6.out⟩
end Go.Proofs.YtjoimhmhiophfaaGreatDoor

namespace Go.Proofs.YtjoimhmhiophfaaGreatDoor
open Go.ChangeShapes Go.WideShapes Go.ChangeAt Go.RowKit Go.Lib Go.Deep Go.Joins
theorem Tryz.own : ownKnob Tryz.prog.godebug = none := by kernel_rfl
theorem Tryz.laidOut : laidOutB Tryz.prog = true := by kernel_rfl
theorem Tryz.cellsFld : Tryz.prog.cellsOf 47 = 2 := by kernel_rfl
theorem Tryz.cellsStr : Tryz.prog.cellsOf 9 = 1 := by kernel_rfl
theorem Tryz.cellsStrs : Tryz.prog.cellsOf 45 = 1 := by kernel_rfl
end Go.Proofs.YtjoimhmhiophfaaGreatDoor

namespace Go.Proofs.YtjoimhmhiophfaaGreatDoor
open Go.ChangeShapes Go.WideShapes Go.ChangeAt Go.RowKit Go.Lib Go.Deep Go.Joins
theorem Tryz.bytesStr : Tryz.prog.bytesOf 9 = 16 := by kernel_rfl
theorem Tryz.bytesFld : Tryz.prog.bytesOf 47 = 40 := by kernel_rfl
theorem weights_all {H : Type} {P : Program} {e : TypeId} {d : DataW H} {n : Nat} (hn : n ∈ d.weights P e) : ∀ {l : List (DataW H)}, d ∈ l → n ∈ DataW.weightsAll P e l
  | x :: r, h => by
    simp only [DataW.weightsAll, List.mem_append]
    rcases List.mem_cons.1 h with rfl | h
    · exact Or.inl hn
    · exact Or.inr (weights_all hn h)
theorem open_txtZ {H : Type} {enc : TypeId × Value → H} {W : World} {f : Nat} {v : Value} {x : DataW H × List MemPlace} (h : DataW.trod enc Tryz.prog W 0 (fun _ => true) true f 45 [v] = some x) :
    ∃ p cap, ∃ ts : List ByteArray, v = .slice p ts.length cap ∧ TxtAt W p ts ∧ FitT ts ∧ (ts.length = 0 ∨ ∃ n ∈ x.1.weights Tryz.prog 45, ts.length * 16 ≤ n) := by
  rcases open_strings Tryz.underlying45 Tryz.underlying9 Tryz.cellsStr h with ⟨hcs, hx⟩ | ⟨a, l, c, ss, hcs, _, hl, hm, hz, hx, hcell, hws⟩
  · simp at hcs
    exact ⟨none, 0, [], hcs, Or.inl rfl, ⟨by unfold maxLen; simp, fun t ht => by simp at ht⟩, Or.inl rfl⟩
  · simp at hcs
    have hz' : ss.length = c := by simpa using hz
    have hlen : (ss.take l).length = l := by rw [List.length_take]; omega
    refine ⟨some a, c, ss.take l, by rw [hlen]; exact hcs, ?_, ⟨by omega, fun t ht => hws t (List.mem_of_mem_take ht)⟩, Or.inr ?_⟩
    · by_cases h0 : l = 0
      · subst h0; exact Or.inl rfl
      · right
        have hc0 := hcell 0 (by omega)
        obtain ⟨b, off, spot⟩ := a
        have hspot : spot = none := by simpa [Addr.add] using World.cell?_spot hc0
        subst hspot
        refine ⟨b, off, rfl, fun i hi => ?_⟩
        rw [hlen] at hi
        have := hcell i (by omega)
        rw [addr_add] at this
        rw [this, List.getElem_take, List.getD_eq_getElem?_getD, List.getElem?_eq_getElem (by omega)]
        rfl
    · rw [hx, hlen]
      simp only [DataW.weights, Tryz.underlying45]
      refine ⟨_, List.mem_cons_self, ?_⟩
      rw [Tryz.bytesStr]
      have hb2 : (strs (ss.take l) : List (DataW H)).length = l := by rw [show (strs (ss.take l) : List (DataW H)).length = (ss.take l).length by simp [strs], hlen]
      rw [hb2]
      exact Nat.mul_le_mul_right 16 (by omega)
set_option maxRecDepth 100000 in
theorem open_fldsZ {H : Type} {enc : TypeId × Value → H} {W : World} {fuel : Nat} {v : Value} {dd : DataW H} {p : List MemPlace}
    (hf : DataW.trod enc Tryz.prog W 0 (fun _ => true) true fuel 36 [v] = some (dd, p)) (hZ : ∀ n ∈ dd.weights Tryz.prog 36, n ≤ reachBytes) : ∃ d : List Fx, IsXs W v d ∧ FitX d ∧ CopyX d := by
  have hrb := reachBytes_lt
  rcases open_slice_pairs Tryz.underlying36 Tryz.underlying47 Tryz.cellsFld rfl rfl Tryz.cellsStr Tryz.cellsStrs hf with ⟨hcs, _⟩ | ⟨a, len, cap, m, n, V0, V1, D0, D1, P0, P1, hcs, _, hl, hm, hmm, hdat, hall⟩
  · simp at hcs
    subst hcs
    exact ⟨[], ⟨none, 0, rfl, Or.inl rfl, fun x hx => by simp at hx⟩, ⟨by unfold maxLen; simp, fun x hx => by simp at hx⟩, by simp, fun x hx => by simp at hx⟩
  · simp at hcs
    subst hcs
    have hm' : m = cap := by simpa using hmm
    subst hm'
    have each : ∀ i, i < m → ∃ x : Fx, V0 i = .string x.name ∧ V1 i = x.sl ∧ TxtAt W x.p x.txt ∧ FitF x.fld ∧ (x.txt.length = 0 ∨ ∃ n ∈ (D1 i).weights Tryz.prog 45, x.txt.length * 16 ≤ n) := by
      intro i hi
      obtain ⟨_, _, h3, h4⟩ := hall i hi
      obtain ⟨s, e0, _, hs⟩ := DataW.trod_string Tryz.underlying9 h3
      simp only [List.cons.injEq, and_true] at e0
      obtain ⟨q, cc, ts, e1, ht, hft, hbk⟩ := open_txtZ h4
      exact ⟨⟨s, q, cc, ts⟩, e0, e1, ht, ⟨hs, hft⟩, hbk⟩
    have hdd : dd = .slice ((List.range len).map fun i => .agg [D0 i, D1 i]) ((List.range (m - len)).map fun j => .agg [D0 (len + j), D1 (len + j)]) := congrArg Prod.fst hdat
    have hwl : len * 40 ≤ reachBytes := by
      have := hZ ((((List.range len).map fun i => DataW.agg [D0 i, D1 i]).length + ((List.range (m - len)).map fun j => DataW.agg [D0 (len + j), D1 (len + j)]).length) * Tryz.prog.bytesOf 47) (by
        rw [hdd]
        simp only [DataW.weights, Tryz.underlying36]
        exact List.mem_cons_self)
      rw [Tryz.bytesFld] at this
      simp only [List.length_map, List.length_range] at this
      omega
    have hwi : ∀ i, i < len → ∀ n ∈ (D1 i).weights Tryz.prog 45, n ≤ reachBytes := fun i hi n hn => by
      refine hZ n ?_
      rw [hdd]
      simp only [DataW.weights, Tryz.underlying36]
      refine List.mem_cons_of_mem _ (List.mem_append.2 (Or.inl (weights_all (d := .agg [D0 i, D1 i]) ?_ (List.mem_map.2 ⟨i, List.mem_range.2 hi, rfl⟩))))
      simp only [DataW.weights, Tryz.underlying47]
      exact List.mem_append.2 (Or.inr (List.mem_append.2 (Or.inl hn)))
    by_cases h0 : len = 0
    · subst h0
      exact ⟨[], ⟨_, _, rfl, Or.inl rfl, fun x hx => by simp at hx⟩, ⟨by unfold maxLen; simp, fun x hx => by simp at hx⟩, by simp, fun x hx => by simp at hx⟩
    · have hc0 := (hall 0 (by omega)).1
      obtain ⟨b, off, spot⟩ := a
      have hspot : spot = none := by simpa [Addr.add] using World.cell?_spot hc0
      subst hspot
      let f : Nat → Fx := fun i => if h : i < m then (each i h).choose else default
      have fs : ∀ i (h : i < m), V0 i = .string (f i).name ∧ V1 i = (f i).sl ∧ TxtAt W (f i).p (f i).txt ∧ FitF (f i).fld ∧ ((f i).txt.length = 0 ∨ ∃ n ∈ (D1 i).weights Tryz.prog 45, (f i).txt.length * 16 ≤ n) := fun i h => by
        have e : f i = (each i h).choose := dif_pos h
        rw [e]
        exact (each i h).choose_spec
      have hlen : ((List.range len).map f).length = len := by simp
      refine ⟨(List.range len).map f, ⟨_, m, by rw [hlen], Or.inr ⟨b, off, rfl, fun i hi => ?_⟩, fun x hx => ?_⟩, ⟨by rw [hlen]; omega, fun x hx => ?_⟩, by rw [hlen]; omega, fun x hx => ?_⟩
      · have hi0 : i < len := by simpa using hi
        obtain ⟨h1, h2, _, _⟩ := hall i (by omega)
        obtain ⟨g1, g2, _⟩ := fs i (by omega)
        rw [addr_add] at h1 h2
        have ef : ((List.range len).map f)[i]'hi = f i := by simp
        rw [ef, h1, ← g1]
        refine ⟨rfl, ?_⟩
        rw [Nat.add_assoc, h2, g2]
      · obtain ⟨i, hi, rfl⟩ := List.mem_map.1 hx
        exact (fs i (by have := List.mem_range.1 hi; omega)).2.2.1
      · obtain ⟨i, hi, rfl⟩ := List.mem_map.1 hx
        exact (fs i (by have := List.mem_range.1 hi; omega)).2.2.2.1
      · obtain ⟨i, hi, rfl⟩ := List.mem_map.1 hx
        have hil := List.mem_range.1 hi
        rcases (fs i (by omega)).2.2.2.2 with h | ⟨n, hn, h⟩
        · omega
        · have := hwi i hil n hn
          omega
end Go.Proofs.YtjoimhmhiophfaaGreatDoor

namespace Go.Proofs.YtjoimhmhiophfaaGreatDoor
open Go.ChangeShapes Go.WideShapes Go.ChangeAt Go.RowKit Go.Lib Go.Deep Go.Joins
def FitKy (k : Ky) : Prop := k.1.size ≤ maxLen ∧ k.2.size ≤ maxLen
theorem Tryz.cellsWInt : Tryz.prog.cellsOf 3 = 1 := by kernel_rfl
theorem Tryz.cellsWStr : Tryz.prog.cellsOf 9 = 1 := by kernel_rfl
theorem Tryz.cellsWU64 : Tryz.prog.cellsOf 39 = 1 := by kernel_rfl
theorem Tryz.cellsWBool : Tryz.prog.cellsOf 4 = 1 := by kernel_rfl
theorem Tryz.cellsWFs : Tryz.prog.cellsOf 36 = 1 := by kernel_rfl
theorem Tryz.cellsWTs : Tryz.prog.cellsOf 38 = 1 := by kernel_rfl
theorem Tryz.cellsWKey : Tryz.prog.cellsOf 35 = 2 := by kernel_rfl
theorem Tryz.cellsWTm : Tryz.prog.cellsOf 51 = 3 := by kernel_rfl
theorem Tryz.bytesWTm : Tryz.prog.bytesOf 51 = 40 := by kernel_rfl
theorem bulkW_pos {H : Type} (d : DataW H) : 1 ≤ Rows.uptoBulk d := by
  cases d with
  | lit l => cases l <;> simp [Rows.uptoBulk]
  | nil => simp [Rows.uptoBulk]
  | ptr d => simp [Rows.uptoBulk]
  | slice elems spare => simp [Rows.uptoBulk]
  | agg parts => simp [Rows.uptoBulk]
  | iface t d => simp [Rows.uptoBulk]
  | map entries => simp [Rows.uptoBulk]
  | held h => simp [Rows.uptoBulk]
theorem bulkW_mem {H : Type} {d : DataW H} {l : List (DataW H)} (h : d ∈ l) : Rows.uptoBulk d ≤ Rows.uptoBulkAll l := by
  induction l with
  | nil => cases h
  | cons x r ih =>
    simp only [Rows.uptoBulkAll]
    rcases List.mem_cons.1 h with rfl | h
    · omega
    · have := ih h; omega
theorem bulkW_len {H : Type} (l : List (DataW H)) : l.length ≤ Rows.uptoBulkAll l := by
  induction l with
  | nil => simp [Rows.uptoBulkAll]
  | cons x r ih => have := bulkW_pos x; simp only [Rows.uptoBulkAll, List.length_cons]; omega
set_option maxRecDepth 100000 in
theorem open_rowZ {α : Type} [Inhabited α] (K : Kind α) {S : TypeId} {bytes : Nat} (hS : Tryz.prog.underlying S = some (.slice K.T)) (hk : Tryz.prog.cellsOf K.T = K.k) (hby : Tryz.prog.bytesOf K.T = bytes)
    {H : Type} (Ok : α → DataW H → Prop) {enc : TypeId × Value → H} {W : World} {fuel : Nat} {v : Value} {dd : DataW H} {p : List MemPlace}
    (each1 : ∀ (n : Nat) (cs : List Value) (x : DataW H × List MemPlace), DataW.trod enc Tryz.prog W 0 (fun _ => true) true n K.T cs = some x → (∀ n ∈ x.1.weights Tryz.prog K.T, n ≤ reachBytes) → ∃ b : α, cs = K.enc b ∧ Ok b x.1)
    (hf : DataW.trod enc Tryz.prog W 0 (fun _ => true) true fuel S [v] = some (dd, p)) (hZ : ∀ n ∈ dd.weights Tryz.prog S, n ≤ reachBytes) :
    ∃ q : List α, K.Is W v q ∧ (∀ x ∈ q, ∃ d, Rows.uptoBulk d ≤ Rows.uptoBulk dd ∧ Ok x d) ∧ q.length * bytes ≤ reachBytes ∧ q.length ≤ maxLen ∧ q.length ≤ Rows.uptoBulk dd := by
  rcases open_slice hS hf with ⟨hcs, _⟩ | ⟨a, len, cap, m, n, D, Pl, hcs, _, hl, hm, hmm, hdat, hall⟩
  · simp at hcs
    subst hcs
    exact ⟨[], K.is_nil W, fun x hx => by simp at hx, by simp, by simp, by simp⟩
  · simp at hcs
    subst hcs
    have hm' : m = cap := by simpa using hmm
    subst hm'
    rw [hk] at hall
    have hdd : dd = .slice ((List.range len).map D) ((List.range (m - len)).map fun j => D (len + j)) := congrArg Prod.fst hdat
    have hlb : len * bytes ≤ reachBytes := by
      have := hZ ((((List.range len).map D).length + ((List.range (m - len)).map fun j => D (len + j)).length) * Tryz.prog.bytesOf K.T) (by
        rw [hdd]
        simp only [DataW.weights, hS]
        exact List.mem_cons_self)
      rw [hby] at this
      simp only [List.length_map, List.length_range] at this
      exact Nat.le_trans (Nat.mul_le_mul_right _ (Nat.le_add_right _ _)) this
    have hbk : len ≤ Rows.uptoBulk dd := by
      rw [hdd]
      simp only [Rows.uptoBulk]
      have := bulkW_len ((List.range len).map D)
      simp only [List.length_map, List.length_range] at this
      omega
    have hbi : ∀ i, i < len → Rows.uptoBulk (D i) ≤ Rows.uptoBulk dd := fun i hi => by
      rw [hdd]
      simp only [Rows.uptoBulk]
      have := bulkW_mem (d := D i) (l := (List.range len).map D) (List.mem_map.2 ⟨i, List.mem_range.2 hi, rfl⟩)
      omega
    have each : ∀ i, i < len → ∃ t : α, (∀ j u, (K.enc t)[j]? = some u → W.cell? (a.add (i * K.k + j)) = some u) ∧ Ok t (D i) := by
      intro i hi
      obtain ⟨cs', h1, h2⟩ := hall i (by omega)
      obtain ⟨_, hlen, hcell⟩ := World.cells?_some h1
      have hDi : ∀ n ∈ (D i).weights Tryz.prog K.T, n ≤ reachBytes := fun n hn => by
        refine hZ n ?_
        rw [hdd]
        simp only [DataW.weights, hS]
        exact List.mem_cons_of_mem _ (List.mem_append.2 (Or.inl (weights_all hn (List.mem_map.2 ⟨i, List.mem_range.2 hi, rfl⟩))))
      obtain ⟨t, rfl, hok⟩ := each1 _ _ (D i, Pl i) h2 hDi
      refine ⟨t, fun j u hu => ?_, hok⟩
      have hj : j < K.k := by
        have := (List.getElem?_eq_some_iff.1 hu).1
        rwa [K.len] at this
      have := hcell j hj
      rw [add_add] at this
      rw [this]; exact hu
    by_cases h0 : len = 0
    · subst h0
      exact ⟨[], ⟨_, _, rfl, Or.inl rfl⟩, fun x hx => by simp at hx, by simp, by simp, by simp⟩
    · obtain ⟨f, hff⟩ := choose_lt each
      have h1 : 0 < (K.enc (f 0)).length := by rw [K.len]; exact K.pos
      have hc0 := (hff 0 (by omega)).1 0 _ (List.getElem?_eq_getElem h1)
      obtain ⟨b, off, spot⟩ := a
      have hspot : spot = none := by simpa [Addr.add] using World.cell?_spot hc0
      subst hspot
      have hlen : ((List.range len).map f).length = len := by simp
      refine ⟨(List.range len).map f, ⟨_, m, by rw [hlen], Or.inr ⟨b, off, rfl, fun i hi j u hu => ?_⟩⟩, fun x hx => ?_, by rw [hlen]; exact hlb, by rw [hlen]; omega, by rw [hlen]; exact hbk⟩
      · have hi0 : i < len := by simpa using hi
        have ef : ((List.range len).map f)[i]'hi = f i := by simp
        rw [ef] at hu
        have := (hff i hi0).1 j u hu
        rw [_root_.Go.Proofs.YtjoimhmhiophfaaGreatDoor.addr_add] at this
        rw [Nat.add_assoc]
        exact this
      · obtain ⟨i, hi, rfl⟩ := List.mem_map.1 hx
        exact ⟨D i, hbi i (List.mem_range.1 hi), (hff i (List.mem_range.1 hi)).2⟩
section
variable {H : Type} {enc : TypeId × Value → H} {W : World}
set_option maxRecDepth 100000 in
theorem open_kyW {n : Nat} {cs : List Value} {x : DataW H × List MemPlace} (h : DataW.trod enc Tryz.prog W 0 (fun _ => true) true n 35 cs = some x) :
    ∃ k : Ky, cs = [.string k.1, .string k.2] ∧ FitKy k := by
  obtain ⟨xs, k, _, _, hlen, hxl, hf⟩ := DataW.trod_struct Tryz.underlying35 h
  rw [Tryz.cellsWKey] at hlen
  match cs, hlen with
  | [v0, v1], _ =>
    match xs, hxl with
    | [y0, y1], _ =>
      have g0 := hf 0 _ rfl
      have g1 := hf 1 _ rfl
      simp [Tryz.cellsWStr] at g0 g1
      obtain ⟨a, ea, _, ha⟩ := DataW.trod_string Tryz.underlying9 g0
      obtain ⟨b, eb, _, hb⟩ := DataW.trod_string Tryz.underlying9 g1
      simp only [List.cons.injEq, and_true] at ea eb
      exact ⟨(a, b), by rw [ea, eb], ha, hb⟩
set_option maxRecDepth 100000 in
theorem open_termW {n : Nat} {cs : List Value} {x : DataW H × List MemPlace} (h : DataW.trod enc Tryz.prog W 0 (fun _ => true) true n 51 cs = some x) :
    ∃ t : Tm, cs = encM t ∧ t.1.size ≤ maxLen ∧ t.2.2.size ≤ maxLen ∧ -9223372036854775808 ≤ t.2.1 ∧ t.2.1 ≤ 9223372036854775807 := by
  obtain ⟨xs, k, _, _, hlen, hxl, hf⟩ := DataW.trod_struct Tryz.underlying51 h
  rw [Tryz.cellsWTm] at hlen
  match cs, hlen with
  | [v0, v1, v2], _ =>
    match xs, hxl with
    | [y0, y1, y2], _ =>
      have g0 := hf 0 _ rfl
      have g1 := hf 1 _ rfl
      have g2 := hf 2 _ rfl
      simp [Tryz.cellsWStr, Tryz.cellsWInt] at g0 g1 g2
      obtain ⟨a, ea, _, ha⟩ := DataW.trod_string Tryz.underlying9 g0
      obtain ⟨o, eo, _, ho⟩ := DataW.trod_int Tryz.underlying3 g1
      obtain ⟨b, eb, _, hb⟩ := DataW.trod_string Tryz.underlying9 g2
      simp only [List.cons.injEq, and_true] at ea eo eb
      have hw : -9223372036854775808 ≤ o ∧ o ≤ 9223372036854775807 := by
        have := ho
        simp [Lit.wf, IntKind.min, IntKind.max, IntKind.signed, IntKind.bits] at this
        omega
      exact ⟨(a, o, b), by rw [ea, eo, eb]; rfl, ha, hb, hw.1, hw.2⟩
theorem open_termsW {fuel : Nat} {v : Value} {dd : DataW H} {p : List MemPlace}
    (hf : DataW.trod enc Tryz.prog W 0 (fun _ => true) true fuel 38 [v] = some (dd, p)) (hZ : ∀ n ∈ dd.weights Tryz.prog 38, n ≤ reachBytes) : ∃ q : List Tm, KM.Is W v q ∧ FitM q := by
  obtain ⟨q, h1, h2, _, h4, _⟩ := open_rowZ KM Tryz.underlying38 Tryz.cellsWTm Tryz.bytesWTm (fun t _ => t.1.size ≤ maxLen ∧ t.2.2.size ≤ maxLen ∧ -9223372036854775808 ≤ t.2.1 ∧ t.2.1 ≤ 9223372036854775807) (fun n cs x h _ => open_termW h) hf hZ
  exact ⟨q, h1, h4, fun x hx => (h2 x hx).choose_spec.2⟩
end
end Go.Proofs.YtjoimhmhiophfaaGreatDoor

namespace Go.Proofs.YtjoimhmhiophfaaGreatDoor
open Go.ChangeShapes Go.WideShapes Go.ChangeAt Go.RowKit Go.Lib Go.Deep
theorem Tryz.cellsByte : Tryz.prog.cellsOf 5 = 1 := by kernel_rfl
theorem gPlain : Tryz.prog.globalNamed "folio/value.plain" = some 3 := by kernel_rfl
theorem tPlain : (Tryz.prog.globals[3]?).map (·.type) = some 185 := by kernel_rfl
theorem uPair : Tryz.prog.underlying 184 = some (.array 2 5) := by kernel_rfl
theorem cPair : Tryz.prog.cellsOf 184 = 2 := by kernel_rfl
theorem cPlain : Tryz.prog.cellsOf 185 = 26 := by kernel_rfl
def plainLits : List (Int × Int) := [(97, 122), (65, 90), (48, 57), (45, 45), (46, 46), (95, 95), (124, 124), (42, 42), (64, 64), (47, 47), (58, 58), (43, 43), (44, 44)]
theorem plain_data : (Rows.laid_folio_value_plain : DataW Unit) = .agg (plainLits.map fun p => .agg [.lit (.int .u8 p.1), .lit (.int .u8 p.2)]) := rfl
theorem one_byte_read {W : World} {f : Nat} {cs : List Value} {k : Int} {q : List MemPlace} (h : DataW.trod (fun _ => ()) Tryz.prog W 0 (fun _ => true) false f 5 cs = some (.lit (.int .u8 k), q)) : cs = [.int .u8 k] := by
  obtain ⟨n, rfl, e, _⟩ := DataW.trod_int Tryz.underlying5 h
  cases e
  rfl
theorem pair_cells {W : World} {f : Nat} {cs : List Value} {a b : Int} {q : List MemPlace} (hl : cs.length = 2) (h : DataW.trod (fun _ => ()) Tryz.prog W 0 (fun _ => true) false f 184 cs = some (.agg [.lit (.int .u8 a), .lit (.int .u8 b)], q)) : cs = [.int .u8 a, .int .u8 b] := by
  match cs, hl with
  | [x, y], _ =>
    obtain ⟨f0, d0, q0, e0, h0⟩ := array_elem uPair h 0 (by decide)
    obtain ⟨f1, d1, q1, e1, h1⟩ := array_elem uPair h 1 (by decide)
    rw [Tryz.cellsByte] at h0 h1
    simp only [List.getElem?_cons_zero, List.getElem?_cons_succ, Option.some.injEq] at e0 e1
    subst e0 e1
    have k0 := one_byte_read h0
    have k1 := one_byte_read h1
    simp at k0 k1
    rw [k0, k1]
theorem list_pairs : ∀ (n : Nat) (cs : List Value) (ps : List (Int × Int)), cs.length = n * 2 → ps.length = n → (∀ i (h : i < ps.length), (cs.drop (i * 2)).take 2 = [.int .u8 ps[i].1, .int .u8 ps[i].2]) → cs = ps.flatMap fun p => [.int .u8 p.1, .int .u8 p.2]
  | 0, cs, ps, hc, hp, _ => by
    rw [List.length_eq_zero_iff.1 (by omega : cs.length = 0), List.length_eq_zero_iff.1 hp]
    rfl
  | n + 1, cs, ps, hc, hp, h => by
    match ps, hp, cs, hc with
    | _ :: _, _, [], hc => simp at hc
    | _ :: _, _, [_], hc => simp at hc; omega
    | p :: ps, hp, x :: y :: cs, hc =>
      have h0 := h 0 (by simp)
      simp at h0
      have := list_pairs n cs ps (by simp at hc; omega) (by simpa using hp) (fun i hi => by
        have := h (i + 1) (by simp; omega)
        rw [show (i + 1) * 2 = i * 2 + 1 + 1 by omega] at this
        simpa using this)
      rw [List.flatMap_cons, ← this, h0.1, h0.2]
      rfl
end Go.Proofs.YtjoimhmhiophfaaGreatDoor

namespace Go.Proofs.YtjoimhmhiophfaaGreatDoor
open Go.ChangeShapes Go.WideShapes Go.ChangeAt Go.RowKit Go.Lib Go.Deep Go.Joins
theorem Tryz.cellsEd : Tryz.prog.cellsOf 49 = 3 := by kernel_rfl
theorem Tryz.cellsEdI : Tryz.prog.cellsOf 3 = 1 := by kernel_rfl
set_option maxRecDepth 100000 in
theorem open_edit {H : Type} {enc : TypeId × Value → H} {W : World} {n : Nat} {cs : List Value} {x : DataW H × List MemPlace} (h : DataW.trod enc Tryz.prog W 0 (fun _ => true) true n 49 cs = some x) :
    ∃ t : Ed, cs = encE t ∧ t.2.1.size ≤ maxLen ∧ t.2.2.size ≤ maxLen ∧ -9223372036854775808 ≤ t.1 ∧ t.1 ≤ 9223372036854775807 := by
  obtain ⟨xs, k, _, _, hlen, hxl, hf⟩ := DataW.trod_struct Tryz.underlying49 h
  rw [Tryz.cellsEd] at hlen
  match cs, hlen with
  | [v0, v1, v2], _ =>
    match xs, hxl with
    | [y0, y1, y2], _ =>
      have g0 := hf 0 _ rfl
      have g1 := hf 1 _ rfl
      have g2 := hf 2 _ rfl
      simp [Tryz.cellsStr, Tryz.cellsEdI] at g0 g1 g2
      obtain ⟨o, eo, _, ho⟩ := DataW.trod_int Tryz.underlying3 g0
      obtain ⟨a, ea, _, ha⟩ := DataW.trod_string Tryz.underlying9 g1
      obtain ⟨b, eb, _, hb⟩ := DataW.trod_string Tryz.underlying9 g2
      simp only [List.cons.injEq, and_true] at ea eo eb
      have hw : -9223372036854775808 ≤ o ∧ o ≤ 9223372036854775807 := by
        have := ho
        simp [Lit.wf, IntKind.min, IntKind.max, IntKind.signed, IntKind.bits] at this
        omega
      exact ⟨(o, a, b), by rw [ea, eo, eb]; rfl, ha, hb, hw.1, hw.2⟩
end Go.Proofs.YtjoimhmhiophfaaGreatDoor

namespace Go.Proofs.YtjoimhmhiophfaaGreatDoor
open Go.RowKit Go.Lib
theorem join_sum (s : List UInt8) : ∀ ws : List (List UInt8), (Lib.join ws s).length ≤ (ws.map fun w => w.length + s.length).sum
  | [] => by simp [Lib.join, List.intercalate]
  | [w] => by rw [Lib.join_one]; simp
  | w :: v :: ws => by
    have ih := join_sum s (v :: ws)
    have e : Lib.join (w :: v :: ws) s = w ++ s ++ Lib.join (v :: ws) s := by simp [Lib.join]
    rw [e, List.length_append, List.length_append, List.map_cons, List.sum_cons]
    omega
theorem wordsL_few {fs : List Fld} (h : ∀ f ∈ fs, fitsB f = true) : (wordsL fs).length ≤ fs.length * 8 := by
  induction fs with
  | nil => simp [wordsL]
  | cons f l ih =>
    have h1 := ih fun g hg => h g (by simp [hg])
    have h2 := (fits_parts (h f (by simp))).2.2.1
    have e : wordsL (f :: l) = wordsF f ++ wordsL l := rfl
    rw [e, List.length_append, List.length_cons, Nat.add_mul]
    have e2 : (wordsF f).length = f.2.length := by simp [wordsF]
    omega
theorem lineV_few {fs : List Fld} (h : mayB fs = true) : (lineOf fs).size ≤ 3344 * fs.length := by
  have e : (lineOf fs).size = (Lib.join ((wordsL fs).map (·.data.toList)) [32]).length := by
    show (Lib.join ((wordsL fs).map (·.data.toList)) [32]).toArray.size = _
    simp
  have h1 := join_size 417 ((wordsL fs).map (·.data.toList)) (fun w hw => by
    obtain ⟨x, hx, rfl⟩ := List.mem_map.1 hw
    obtain ⟨f, hf, hx⟩ := List.mem_flatMap.1 hx
    obtain ⟨t, ht, rfl⟩ := List.mem_map.1 hx
    simpa using word_len (may_fits h f hf) ht)
  have h2 := wordsL_few (fun f hf => may_fits h f hf)
  rw [List.length_map] at h1
  omega
theorem lineB_few {ws : List ByteArray} (hs : ∀ x ∈ ws, x.size ≤ 418) : (lineB ws).size ≤ 419 * ws.length := by
  have e : (lineB ws).size = (Lib.join (ws.map (·.data.toList)) [32]).length := by rw [← lineB_data]; simp
  have h1 := join_size 418 (ws.map (·.data.toList)) (fun w hw => by
    obtain ⟨x, hx, rfl⟩ := List.mem_map.1 hw
    simpa using hs x hx)
  rw [List.length_map] at h1
  omega
theorem prE_few (l : List Ed) : (prE l).size ≤ 419 * l.length := by
  unfold prE
  split
  · rename_i h
    obtain ⟨h1, h2, _, h4⟩ := mayE_zero h
    have := lineB_few (ws := l.map wordE) fun y hy => by
      obtain ⟨x, hx, rfl⟩ := List.mem_map.1 hy
      exact wordE_len (h2 x hx) (h4 x hx)
    rw [List.length_map] at this
    exact this
  · exact Nat.zero_le _
theorem lineM_few (p : List Tm) : (lineM (ansM p)).size ≤ 419 * p.length := by
  have h1 := lineB_few (ws := (ansM p).map wordM) fun y hy => by
    obtain ⟨x, hx, rfl⟩ := List.mem_map.1 hy
    have := wordM_len (ansM_all x hx).1 (ansM_all x hx).2.2
    omega
  rw [List.length_map] at h1
  have h2 : (ansM p).length ≤ p.length := by
    unfold ansM
    split
    · exact sortM_len p
    · exact Nat.zero_le _
  have e : lineM (ansM p) = lineB ((ansM p).map wordM) := rfl
  rw [e]
  exact Nat.le_trans h1 (Nat.mul_le_mul_left _ h2)
def capP (e : En) (p : Nat) : Nat := if p = 5 then 3344 * e.val.length else if p = 7 then 419 * e.pred.length else if p = 8 then 419 * e.eds.length else 80
theorem piece_few (e : En) (p : Nat) (h1 : 1 ≤ p) (h2 : p ≤ 10) (hf : fitPt e p = true) (hs0 : 0 ≤ e.stamp) (hs1 : e.stamp ≤ 18446744073709551615) : (pieceS e p).size ≤ capP e p := by
  have hp : p = 1 ∨ p = 2 ∨ p = 3 ∨ p = 4 ∨ p = 5 ∨ p = 6 ∨ p = 7 ∨ p = 8 ∨ p = 9 ∨ p = 10 := by omega
  rcases hp with rfl | rfl | rfl | rfl | rfl | rfl | rfl | rfl | rfl | rfl
  · show (if e.temp = ⟨#[]⟩ then (⟨#[]⟩ : ByteArray) else ⟨#[64]⟩ ++ e.temp).size ≤ 80
    have hf' : (decide (e.temp = ⟨#[]⟩) || tempB e.temp.data.toList) = true := hf
    split
    · decide
    · rename_i h
      rw [decide_eq_false h, Bool.false_or] at hf'
      have := temp_le hf'
      simp only [ByteArray.size_append]
      have e1 : (⟨#[64]⟩ : ByteArray).size = 1 := rfl
      omega
  · have hk : keyB e.ka e.kb = true := hf
    obtain ⟨s1, s2⟩ := keyB_sizes hk
    show (e.ka ++ ⟨#[47]⟩ ++ e.kb).size ≤ 80
    simp only [ByteArray.size_append]
    have e1 : (⟨#[47]⟩ : ByteArray).size = 1 := rfl
    omega
  · have hf' : (typeB e.ka.data.toList && decide (e.kb = ⟨#[]⟩)) = true := hf
    rw [Bool.and_eq_true] at hf'
    have := typeB_len hf'.1
    show e.ka.size ≤ 80
    have e1 : e.ka.data.toList.length = e.ka.size := rfl
    omega
  · have hf' : (decide (0 ≤ e.iff) && decide (e.iff ≤ 999999999)) = true := hf
    simp only [Bool.and_eq_true, decide_eq_true_eq] at hf'
    show (if e.iff = 0 then (⟨#[]⟩ : ByteArray) else ⟨#[105, 102, 32]⟩ ++ ⟨(decL e.iff.toNat).toArray⟩).size ≤ 80
    split
    · decide
    · have := decL_len e.iff.toNat 8 (by omega)
      simp only [ByteArray.size_append]
      have e1 : (⟨#[105, 102, 32]⟩ : ByteArray).size = 3 := rfl
      have e2 : (⟨(decL e.iff.toNat).toArray⟩ : ByteArray).size = (decL e.iff.toNat).length := rfl
      omega
  · exact lineV_few (fs := e.val) hf
  · show (⟨#[63]⟩ : ByteArray).size ≤ 80; decide
  · exact lineM_few _
  · exact prE_few _
  · have hf' : (decide (0 ≤ e.num) && decide (e.num ≤ 999999999)) = true := hf
    simp only [Bool.and_eq_true, decide_eq_true_eq] at hf'
    have := decL_len e.num.toNat 8 (by omega)
    show (decL e.num.toNat).length ≤ 80
    omega
  · have := decL_len e.stamp.toNat 19 (by omega)
    show (decL e.stamp.toNat).length ≤ 80
    omega
theorem pcs_few (e : En) (hs0 : 0 ≤ e.stamp) (hs1 : e.stamp ≤ 18446744073709551615) (ps : List Nat) (h : ∀ p ∈ ps, 1 ≤ p ∧ p ≤ 10 ∧ fitPt e p = true) :
    ((pcs e ps).map fun s => s.size + 1).sum ≤ (ps.map fun p => capP e p + 1).sum := by
  induction ps with
  | nil => simp [pcs]
  | cons p ps ih =>
    have ih := ih fun q hq => h q (by simp [hq])
    obtain ⟨h1, h2, h3⟩ := h p (by simp)
    have hp := piece_few e p h1 h2 h3 hs0 hs1
    have ec : pcs e (p :: ps) = (if pieceS e p = ⟨#[]⟩ then [] else [pieceS e p]) ++ pcs e ps := by
      unfold pcs
      by_cases hz : pieceS e p = ⟨#[]⟩ <;> simp [hz]
    rw [ec, List.map_append, List.sum_append, List.map_cons, List.sum_cons]
    split
    · simp; omega
    · simp; omega
theorem line_few (e : En) (hf : (shapeN e.kind.toNat).all (fitPt e) = true) (hs0 : 0 ≤ e.stamp) (hs1 : e.stamp ≤ 18446744073709551615) :
    (lineO e).size ≤ 500 + 3344 * (e.val.length + e.eds.length + e.pred.length) := by
  have h1 := pcs_few e hs0 hs1 (shapeN e.kind.toNat) (fun p hp => by
    obtain ⟨i, hi⟩ := List.getElem?_of_mem hp
    obtain ⟨h1, h2⟩ := shape_part _ i p hi
    exact ⟨h1, h2, List.all_eq_true.1 hf p hp⟩)
  have h2 : ((shapeN e.kind.toNat).map fun p => capP e p + 1).sum ≤ 450 + 3344 * (e.val.length + e.eds.length + e.pred.length) := by
    unfold shapeN
    split <;> simp [capP] <;> omega
  have h3 := name_le e.kind.toNat
  have h4 := join_sum [32] ((⟨(nameN e.kind.toNat).toArray⟩ :: pcs e (shapeN e.kind.toNat) : List ByteArray).map (·.data.toList))
  have e1 : (lineO e).size = (Lib.join ((⟨(nameN e.kind.toNat).toArray⟩ :: pcs e (shapeN e.kind.toNat) : List ByteArray).map (·.data.toList)) [32]).length := rfl
  have e2 : (((⟨(nameN e.kind.toNat).toArray⟩ :: pcs e (shapeN e.kind.toNat) : List ByteArray).map (·.data.toList)).map fun w => w.length + [(32 : UInt8)].length).sum = (nameN e.kind.toNat).length + 1 + ((pcs e (shapeN e.kind.toNat)).map fun s => s.size + 1).sum := by
    rw [List.map_map, List.map_cons, List.sum_cons]
    have : (pcs e (shapeN e.kind.toNat)).map ((fun w : List UInt8 => w.length + [(32 : UInt8)].length) ∘ (·.data.toList)) = (pcs e (shapeN e.kind.toNat)).map fun s => s.size + 1 := List.map_congr_left fun s _ => rfl
    rw [this]
    simp
  omega
theorem alone_few (x : Ex) (hs0 : 0 ≤ x.stamp) (hs1 : x.stamp ≤ 18446744073709551615) : (aloneJ x).length ≤ 500 + 3344 * (x.vo.length + x.eo.length + x.po.length) := by
  unfold aloneJ
  split
  · rename_i h
    unfold mayO at h
    rw [Bool.and_eq_true, Bool.and_eq_true] at h
    have := line_few x.en h.1.2 hs0 hs1
    have e : (lineO x.en).data.toList.length = (lineO x.en).size := rfl
    have e1 : x.en.val.length = x.vo.length := List.length_map _
    rw [e, ← e1]
    exact this
  · simp
def wtJ (x : Ex) : Nat := x.vo.length + x.eo.length + x.po.length + 6
theorem want_few (o : Bool) (d : List Ex) (hs : ∀ x ∈ d, 0 ≤ x.stamp ∧ x.stamp ≤ 18446744073709551615) (i : Nat) : (wantJ o (d.take i)).length ≤ 5 + 3400 * (d.map wtJ).sum := by
  have h1 := join_sum [32, 59, 32] ((d.take i).map aloneJ)
  have h2 : (((d.take i).map aloneJ).map fun w => w.length + [(32 : UInt8), 59, 32].length).sum ≤ 3400 * (d.map wtJ).sum := by
    clear h1
    induction d generalizing i with
    | nil => simp
    | cons x d ih =>
      cases i with
      | zero => simp
      | succ i =>
        have ih := ih (fun y hy => hs y (by simp [hy])) i
        obtain ⟨a, b⟩ := hs x (by simp)
        have hx := alone_few x a b
        rw [List.take_succ_cons, List.map_cons, List.map_cons, List.sum_cons, List.map_cons, List.sum_cons]
        have e : [(32 : UInt8), 59, 32].length = 3 := rfl
        have hw : (aloneJ x).length + 3 ≤ 3400 * wtJ x := by unfold wtJ; omega
        rw [Nat.mul_add]
        omega
  unfold wantJ
  rw [List.length_append]
  have h3 : (if o = true then [111, 110, 99, 101, 32] else ([] : List UInt8)).length ≤ 5 := by split <;> simp
  omega
end Go.Proofs.YtjoimhmhiophfaaGreatDoor

namespace Go.Proofs.YtjoimhmhiophfaaGreatDoor
open Go.ChangeShapes Go.WideShapes Go.ChangeAt Go.RowKit Go.Lib Go.Deep Go.Joins
theorem Tryz.cellsOEs : Tryz.prog.cellsOf 37 = 1 := by kernel_rfl
theorem Tryz.cellsOEn : Tryz.prog.cellsOf 41 = 10 := by kernel_rfl
theorem Tryz.cellsOEns : Tryz.prog.cellsOf 22 = 1 := by kernel_rfl
theorem Tryz.cellsORq : Tryz.prog.cellsOf 24 = 2 := by kernel_rfl
theorem Tryz.bytesOEd : Tryz.prog.bytesOf 49 = 40 := by kernel_rfl
theorem oi64_of {t : Int} (h : Lit.wf (.int .i64 t) = true) : -9223372036854775808 ≤ t ∧ t ≤ 9223372036854775807 := by
  simp [Lit.wf, IntKind.min, IntKind.max, IntKind.signed, IntKind.bits] at h
  omega
theorem ou64_of {t : Int} (h : Lit.wf (.int .u64 t) = true) : 0 ≤ t ∧ t ≤ 18446744073709551615 := by
  simp [Lit.wf, IntKind.min, IntKind.max, IntKind.signed, IntKind.bits] at h
  omega
section
variable {H : Type} {enc : TypeId × Value → H} {W : World}
theorem slice_bulkO {S e : TypeId} (hS : Tryz.prog.underlying S = some (.slice e)) {fuel : Nat} {p : Option Addr} {n cap : Nat} {dd : DataW H} {pl : List MemPlace} (h : DataW.trod enc Tryz.prog W 0 (fun _ => true) true fuel S [.slice p n cap] = some (dd, pl)) : n ≤ cap ∧ n ≤ Rows.uptoBulk dd := by
  rcases open_slice hS h with ⟨hcs, _⟩ | ⟨a, len, c, m, k, D, Pl, hcs, _, hl, _, _, hdat, _⟩
  · simp at hcs
    omega
  · simp at hcs
    obtain ⟨_, rfl, rfl⟩ := hcs
    refine ⟨hl, ?_⟩
    rw [show dd = _ from congrArg Prod.fst hdat]
    simp only [Rows.uptoBulk]
    have := bulkW_len ((List.range n).map D)
    simp only [List.length_map, List.length_range] at this
    omega
set_option maxRecDepth 100000 in
theorem open_rowS {α : Type} [Inhabited α] (K : Kind α) {S : TypeId} (hS : Tryz.prog.underlying S = some (.slice K.T)) (hk : Tryz.prog.cellsOf K.T = K.k)
    (Ok : α → DataW H → Prop) (wt : α → Nat) (hwt : ∀ b d, Ok b d → wt b ≤ Rows.uptoBulk d) {fuel : Nat} {v : Value} {dd : DataW H} {p : List MemPlace}
    (each1 : ∀ (n : Nat) (cs : List Value) (x : DataW H × List MemPlace), DataW.trod enc Tryz.prog W 0 (fun _ => true) true n K.T cs = some x → (∀ n ∈ x.1.weights Tryz.prog K.T, n ≤ reachBytes) → ∃ b : α, cs = K.enc b ∧ Ok b x.1)
    (hf : DataW.trod enc Tryz.prog W 0 (fun _ => true) true fuel S [v] = some (dd, p)) (hZ : ∀ n ∈ dd.weights Tryz.prog S, n ≤ reachBytes) :
    ∃ q : List α, K.Is W v q ∧ (∀ x ∈ q, ∃ d, Rows.uptoBulk d ≤ Rows.uptoBulk dd ∧ Ok x d) ∧ (q.map wt).sum ≤ Rows.uptoBulk dd := by
  rcases open_slice hS hf with ⟨hcs, _⟩ | ⟨a, len, cap, m, n, D, Pl, hcs, _, hl, hm, hmm, hdat, hall⟩
  · simp at hcs
    subst hcs
    exact ⟨[], K.is_nil W, fun x hx => by simp at hx, by simp⟩
  · simp at hcs
    subst hcs
    have hm' : m = cap := by simpa using hmm
    subst hm'
    rw [hk] at hall
    have hdd : dd = .slice ((List.range len).map D) ((List.range (m - len)).map fun j => D (len + j)) := congrArg Prod.fst hdat
    have hbi : ∀ i, i < len → Rows.uptoBulk (D i) ≤ Rows.uptoBulk dd := fun i hi => by
      rw [hdd]
      simp only [Rows.uptoBulk]
      have := bulkW_mem (d := D i) (l := (List.range len).map D) (List.mem_map.2 ⟨i, List.mem_range.2 hi, rfl⟩)
      omega
    have each : ∀ i, i < len → ∃ t : α, (∀ j u, (K.enc t)[j]? = some u → W.cell? (a.add (i * K.k + j)) = some u) ∧ Ok t (D i) := by
      intro i hi
      obtain ⟨cs', h1, h2⟩ := hall i (by omega)
      obtain ⟨_, hlen, hcell⟩ := World.cells?_some h1
      have hDi : ∀ n ∈ (D i).weights Tryz.prog K.T, n ≤ reachBytes := fun n hn => by
        refine hZ n ?_
        rw [hdd]
        simp only [DataW.weights, hS]
        exact List.mem_cons_of_mem _ (List.mem_append.2 (Or.inl (weights_all hn (List.mem_map.2 ⟨i, List.mem_range.2 hi, rfl⟩))))
      obtain ⟨t, rfl, hok⟩ := each1 _ _ (D i, Pl i) h2 hDi
      refine ⟨t, fun j u hu => ?_, hok⟩
      have hj : j < K.k := by
        have := (List.getElem?_eq_some_iff.1 hu).1
        rwa [K.len] at this
      have := hcell j hj
      rw [add_add] at this
      rw [this]; exact hu
    by_cases h0 : len = 0
    · subst h0
      exact ⟨[], ⟨_, _, rfl, Or.inl rfl⟩, fun x hx => by simp at hx, by simp⟩
    · obtain ⟨f, hff⟩ := choose_lt each
      have h1 : 0 < (K.enc (f 0)).length := by rw [K.len]; exact K.pos
      have hc0 := (hff 0 (by omega)).1 0 _ (List.getElem?_eq_getElem h1)
      obtain ⟨b, off, spot⟩ := a
      have hspot : spot = none := by simpa [Addr.add] using World.cell?_spot hc0
      subst hspot
      have hlen : ((List.range len).map f).length = len := by simp
      refine ⟨(List.range len).map f, ⟨_, m, by rw [hlen], Or.inr ⟨b, off, rfl, fun i hi j u hu => ?_⟩⟩, fun x hx => ?_, ?_⟩
      · have hi0 : i < len := by simpa using hi
        have ef : ((List.range len).map f)[i]'hi = f i := by simp
        rw [ef] at hu
        have := (hff i hi0).1 j u hu
        rw [_root_.Go.Proofs.YtjoimhmhiophfaaGreatDoor.addr_add] at this
        rw [Nat.add_assoc]
        exact this
      · obtain ⟨i, hi, rfl⟩ := List.mem_map.1 hx
        exact ⟨D i, hbi i (List.mem_range.1 hi), (hff i (List.mem_range.1 hi)).2⟩
      · have key : ∀ l : List Nat, (∀ i ∈ l, i < len) → ((l.map f).map wt).sum ≤ Rows.uptoBulkAll (l.map D) := by
          intro l
          induction l with
          | nil => intro _; simp
          | cons i l ih =>
            intro hl
            have h1 := ih fun j hj => hl j (by simp [hj])
            have h2 := hwt _ _ (hff i (hl i (by simp))).2
            simp only [List.map_cons, List.sum_cons, Rows.uptoBulkAll]
            omega
        have := key (List.range len) fun i hi => List.mem_range.1 hi
        rw [hdd]
        simp only [Rows.uptoBulk]
        omega
set_option maxRecDepth 100000 in
theorem open_edsO {fuel : Nat} {v : Value} {dd : DataW H} {p : List MemPlace}
    (hf : DataW.trod enc Tryz.prog W 0 (fun _ => true) true fuel 37 [v] = some (dd, p)) (hZ : ∀ n ∈ dd.weights Tryz.prog 37, n ≤ reachBytes) : ∃ q : List Ed, KE.Is W v q ∧ FitE q := by
  obtain ⟨q, h1, h2, _, h4, _⟩ := open_rowZ KE Tryz.underlying37 Tryz.cellsEd Tryz.bytesOEd (fun t _ => t.2.1.size ≤ maxLen ∧ t.2.2.size ≤ maxLen ∧ -9223372036854775808 ≤ t.1 ∧ t.1 ≤ 9223372036854775807) (fun n cs x h _ => open_edit h) hf hZ
  exact ⟨q, h1, h4, fun x hx => (h2 x hx).choose_spec.2⟩
set_option maxHeartbeats 1000000 in
set_option maxRecDepth 100000 in
theorem open_enO {n : Nat} {cs : List Value} {x : DataW H × List MemPlace} (h : DataW.trod enc Tryz.prog W 0 (fun _ => true) true n 41 cs = some x) (hZ : ∀ n ∈ x.1.weights Tryz.prog 41, n ≤ reachBytes) :
    ∃ b : Ex, cs = encEx b ∧ (ExIn W b ∧ CopyX b.vo ∧ wtJ b ≤ Rows.uptoBulk x.1) := by
  obtain ⟨xs, k, _, hx, hlen, hxl, hf⟩ := DataW.trod_struct Tryz.underlying41 h
  rw [Tryz.cellsOEn] at hlen
  match cs, hlen with
  | [v0, v1, v2, v3, v4, v5, v6, v7, v8, v9], _ =>
    match xs, hxl with
    | [y0, y1, y2, y3, y4, y5, y6, y7, y8], _ =>
      have g0 := hf 0 _ rfl
      have g1 := hf 1 _ rfl
      have g2 := hf 2 _ rfl
      have g3 := hf 3 _ rfl
      have g4 := hf 4 _ rfl
      have g5 := hf 5 _ rfl
      have g6 := hf 6 _ rfl
      have g7 := hf 7 _ rfl
      have g8 := hf 8 _ rfl
      simp [Tryz.cellsWInt, Tryz.cellsWStr, Tryz.cellsWKey, Tryz.cellsWFs, Tryz.cellsOEs, Tryz.cellsWTs, Tryz.cellsWU64] at g0 g1 g2 g3 g4 g5 g6 g7 g8
      obtain ⟨kd, ekd, _, hkd⟩ := DataW.trod_int Tryz.underlying3 g0
      obtain ⟨tm, etm, _, htm⟩ := DataW.trod_string Tryz.underlying9 g1
      obtain ⟨ky, eky, hky⟩ := open_kyW g2
      obtain ⟨fi, efi, _, hfi⟩ := DataW.trod_int Tryz.underlying3 g3
      have hz4 : ∀ n ∈ y4.1.weights Tryz.prog 36, n ≤ reachBytes := fun n hn => hZ n (by
        rw [hx]
        simp only [List.map_cons, List.map_nil, DataW.weights, Tryz.underlying41]
        exact List.mem_append.2 (Or.inr (List.mem_append.2 (Or.inr (List.mem_append.2 (Or.inr (List.mem_append.2 (Or.inr (List.mem_append.2 (Or.inl hn))))))))))
      have hz5 : ∀ n ∈ y5.1.weights Tryz.prog 37, n ≤ reachBytes := fun n hn => hZ n (by
        rw [hx]
        simp only [List.map_cons, List.map_nil, DataW.weights, Tryz.underlying41]
        exact List.mem_append.2 (Or.inr (List.mem_append.2 (Or.inr (List.mem_append.2 (Or.inr (List.mem_append.2 (Or.inr (List.mem_append.2 (Or.inr (List.mem_append.2 (Or.inl hn))))))))))))
      have hz6 : ∀ n ∈ y6.1.weights Tryz.prog 38, n ≤ reachBytes := fun n hn => hZ n (by
        rw [hx]
        simp only [List.map_cons, List.map_nil, DataW.weights, Tryz.underlying41]
        exact List.mem_append.2 (Or.inr (List.mem_append.2 (Or.inr (List.mem_append.2 (Or.inr (List.mem_append.2 (Or.inr (List.mem_append.2 (Or.inr (List.mem_append.2 (Or.inr (List.mem_append.2 (Or.inl hn))))))))))))))
      obtain ⟨d, hd, hfd, hdc⟩ := open_fldsZ (dd := y4.1) (p := y4.2) g4 hz4
      obtain ⟨l, hl, hfl⟩ := open_edsO (dd := y5.1) (p := y5.2) g5 hz5
      obtain ⟨t, ht, hft⟩ := open_termsW (dd := y6.1) (p := y6.2) g6 hz6
      obtain ⟨st, est, _, hst⟩ := DataW.trod_int Tryz.underlying39 g7
      obtain ⟨nn, enn, _, hnn⟩ := DataW.trod_int Tryz.underlying3 g8
      simp only [List.cons.injEq, and_true] at ekd etm eky efi est enn
      obtain ⟨vp, vc, rfl, _⟩ := id hd
      obtain ⟨ep, ec, rfl, _⟩ := id hl
      obtain ⟨pp, pc, rfl, _⟩ := id ht
      have b4 := (slice_bulkO Tryz.underlying36 (dd := y4.1) (pl := y4.2) g4).2
      have b5 := (slice_bulkO Tryz.underlying37 (dd := y5.1) (pl := y5.2) g5).2
      have b6 := (slice_bulkO Tryz.underlying38 (dd := y6.1) (pl := y6.2) g6).2
      refine ⟨⟨kd, tm, ky.1, ky.2, fi, vp, vc, d, ep, ec, l, pp, pc, t, st, nn⟩, ?_, ⟨hd, hfd, hl, hfl, ht, hft, htm, hky.1, hky.2, (oi64_of hkd).1, (oi64_of hkd).2, (oi64_of hfi).1, (oi64_of hfi).2, (ou64_of hst).1, (ou64_of hst).2, (oi64_of hnn).1, (oi64_of hnn).2⟩, hdc, ?_⟩
      · rw [ekd, etm, eky.1, eky.2, efi, est, enn]
        rfl
      · rw [hx]
        have q0 := bulkW_pos y0.1
        have q1 := bulkW_pos y1.1
        have q2 := bulkW_pos y2.1
        have q3 := bulkW_pos y3.1
        have q7 := bulkW_pos y7.1
        have q8 := bulkW_pos y8.1
        simp only [List.map_cons, List.map_nil, Rows.uptoBulk, Rows.uptoBulkAll]
        show d.length + l.length + t.length + 6 ≤ _
        omega
structure RqOk (W : World) (v : Value) (d : List Ex) (n : Nat) : Prop where
  rq : RqIn W v d
  cp : ∀ x ∈ d, CopyX x.vo ∧ x.eo.length ≤ 1048576 ∧ x.po.length ≤ 1048576
  wt : (d.map wtJ).sum ≤ n
  few : d.length ≤ 1048576
set_option maxRecDepth 100000 in
theorem open_rqO {b0 : Nat} {v : Value} {dd : DataW H} {p : List MemPlace} (hv : Value.okWide Tryz.prog W .any b0 24 v) (h : DataW.Trod enc Tryz.prog W 0 (fun _ => true) true 24 v dd p) (hZ : ∀ n ∈ dd.weights Tryz.prog 24, n ≤ reachBytes) (hb : Rows.uptoBulk dd ≤ 1048576) :
    ∃ (o : Bool) (a : Option Addr) (cap : Nat) (d : List Ex), v = .agg #[.bool o, .slice a d.length cap] ∧ d.length ≤ cap ∧ RqOk W (.slice a d.length cap) d 1048576 := by
  obtain ⟨cs, rfl, hsz⟩ := okWide_struct Tryz.underlying24 hv
  obtain ⟨fuel, hf0⟩ := h
  have hf1 : DataW.trod enc Tryz.prog W 0 (fun _ => true) true fuel 24 cs.toList = some (dd, p) := by simpa [Value.cells] using hf0
  obtain ⟨xs, k, _, hx, hlen, hxl, hf⟩ := DataW.trod_struct Tryz.underlying24 hf1
  rw [Tryz.cellsORq] at hlen
  obtain ⟨v0, v1, hcs⟩ : ∃ v0 v1, cs.toList = [v0, v1] := by
    match hc : cs.toList, hlen with
    | [v0, v1], _ => exact ⟨v0, v1, rfl⟩
  rw [hcs] at hf
  match xs, hxl with
  | [y0, y1], _ =>
    have g0 := hf 0 _ rfl
    have g1 := hf 1 _ rfl
    simp [Tryz.cellsWBool, Tryz.cellsOEns] at g0 g1
    have hdd : dd = .agg ([y0, y1].map Prod.fst) := congrArg Prod.fst hx
    obtain ⟨o, eo, _⟩ := DataW.trod_bool Tryz.underlying4 g0
    have hz1 : ∀ n ∈ y1.1.weights Tryz.prog 22, n ≤ reachBytes := fun n hn => hZ n (by
      rw [hdd]
      simp only [List.map_cons, List.map_nil, DataW.weights, Tryz.underlying24]
      exact List.mem_append.2 (Or.inr (List.mem_append.2 (Or.inl hn))))
    have hb1 : Rows.uptoBulk y1.1 ≤ 1048576 := by
      rw [hdd] at hb
      simp only [List.map_cons, List.map_nil, Rows.uptoBulk, Rows.uptoBulkAll] at hb
      omega
    haveI : Inhabited Ex := ⟨zeroEx 0⟩
    obtain ⟨d, hd1, hd2, hd3⟩ := open_rowS KEx Tryz.underlying22 Tryz.cellsOEn (fun b d => ExIn W b ∧ CopyX b.vo ∧ wtJ b ≤ Rows.uptoBulk d) wtJ (fun b d h => h.2.2) (fun n cs x h hz => open_enO h hz) (dd := y1.1) (p := y1.2) g1 hz1
    obtain ⟨a, cap, rfl, _⟩ := id hd1
    obtain ⟨hcap, hfew⟩ := slice_bulkO Tryz.underlying22 (dd := y1.1) (pl := y1.2) g1
    simp only [List.cons.injEq, and_true] at eo
    refine ⟨o, a, cap, d, ?_, hcap, ⟨⟨hd1, fun x hx => (hd2 x hx).choose_spec.2.1, by omega⟩, fun x hx => ?_, by omega, by omega⟩⟩
    · have : cs = #[.bool o, .slice a d.length cap] := Array.ext' (by rw [hcs, eo])
      rw [this]
    · obtain ⟨q, hq1, _, hq2, hq3⟩ := hd2 x hx
      unfold wtJ at hq3
      exact ⟨hq2, by omega, by omega⟩
end
end Go.Proofs.YtjoimhmhiophfaaGreatDoor

namespace Go.Proofs.YtjoimhmhiophfaaGreatDoor
open Go.ChangeShapes Go.WideShapes Go.ChangeAt Go.RowKit Go.Lib
def seatLaid16 : List (String × DataW Unit) := [("math/bits.deBruijn32tab", Rows.laid_math_bits_deBruijn32tab), ("math/bits.deBruijn64tab", Rows.laid_math_bits_deBruijn64tab), ("internal/strconv.uint64pow10", Rows.laid_internal_strconv_uint64pow10), ("unicode/utf8.acceptRanges", Rows.laid_unicode_utf8_acceptRanges), ("strconv.ErrRange", Rows.laid_strconv_ErrRange), ("strconv.ErrSyntax", Rows.laid_strconv_ErrSyntax), ("folio/value.plain", Rows.laid_folio_value_plain), ("unicode/utf8.first", Rows.laid_unicode_utf8_first)]
theorem plain_of_laid16 {W : World} (h : laidMet Tryz.prog seatLaid16 W) : PlainAt W := by
  obtain ⟨g, t, cs, fuel, p, hg, ht, hv, hd⟩ := laidMet.reads h (n := "folio/value.plain") (d := Rows.laid_folio_value_plain) (.tail _ (.tail _ (.tail _ (.tail _ (.tail _ (.tail _ (.head _)))))))
  obtain rfl := Option.some.inj (gPlain.symm.trans hg)
  obtain rfl := Option.some.inj (tPlain.symm.trans ht)
  rw [plain_data] at hd
  obtain ⟨_, _, _, _, hlen, _, _⟩ := DataW.trod_array Tryz.underlying185 hd
  rw [cPlain] at hlen
  have hcs := list_pairs 13 cs.toList plainLits (by simpa using hlen) rfl (fun i hi => by
    have hi13 : i < 13 := hi
    obtain ⟨f, d, q, e, hx⟩ := array_elem Tryz.underlying185 hd i hi13
    rw [cPair] at hx
    rw [List.getElem?_map, List.getElem?_eq_getElem hi] at e
    simp only [Option.map_some, Option.some.injEq] at e
    subst e
    exact pair_cells (by rw [List.length_take, List.length_drop]; rw [hlen]; omega) hx)
  have hv' : W.var? Tryz.prog "folio/value.plain" = some cs := hv
  simp only [World.var?, hg, Option.bind_some] at hv'
  split at hv'
  · rename_i c t' fr hh
    cases hv'
    refine ⟨t', fr, ?_⟩
    rw [hh]
    have : cs = plainCells := Array.toList_inj.1 (by rw [hcs]; rfl)
    rw [this]
  · cases hv'
theorem gPow : Tryz.prog.globalNamed "internal/strconv.uint64pow10" = some 4 := by kernel_rfl
theorem tPow : (Tryz.prog.globals[4]?).map (·.type) = some 192 := by kernel_rfl
theorem cPow : Tryz.prog.cellsOf 192 = 20 := by kernel_rfl
theorem cU64 : Tryz.prog.cellsOf 39 = 1 := by kernel_rfl
theorem uPow : Tryz.prog.underlying 192 = some (.array 20 39) := by kernel_rfl
theorem uU64 : Tryz.prog.underlying 39 = some (.int .u64) := by kernel_rfl
theorem pow_of_laid {W : World} (h : laidMet Tryz.prog seatLaid16 W) : TabIs Tryz.prog W "internal/strconv.uint64pow10" .u64 pow10Tab :=
  tabIs_of_head gPow tPow uPow uU64 cU64 cPow (show laidMet Tryz.prog (("internal/strconv.uint64pow10", tabData .u64 pow10Tab) :: _) W from h.tail.tail)
theorem gSyn : Tryz.prog.globalNamed "strconv.ErrSyntax" = some 5 := by kernel_rfl
theorem tSyn : (Tryz.prog.globals[5]?).map (·.type) = some 81 := by kernel_rfl
theorem gRan : Tryz.prog.globalNamed "strconv.ErrRange" = some 6 := by kernel_rfl
theorem tRan : (Tryz.prog.globals[6]?).map (·.type) = some 81 := by kernel_rfl
theorem cEs : Tryz.prog.cellsOf 242 = 1 := by kernel_rfl
theorem cSt : Tryz.prog.cellsOf 9 = 1 := by kernel_rfl
theorem starE : "*" ++ "errors.errorString" = "*errors.errorString" := by decide
theorem rowE (u : TypeId) (h : Tryz.prog.typeName? 3 u = some "*errors.errorString") : u = 240 :=
  typeName_ptr_named (nm := "errors.errorString") (by rw [starE]; kernel_rfl) (by kernel_rfl) (by decide) u (by rw [starE]; exact h)
theorem syn_of_laid {W : World} (h : laidMet Tryz.prog seatLaid16 W) : ErrIn 5 W := by
  obtain ⟨a, s, hv, _⟩ := laid_sentinel (h.tail.tail.tail.tail.tail) gSyn tSyn Tryz.underlying81 rowE Tryz.underlying240 Tryz.underlying242 rfl rfl Tryz.underlying9 cEs cSt
  exact ⟨_, by simpa using World.var?_cell gSyn hv 0, .inr ⟨_, _, rfl⟩⟩
theorem ran_of_laid {W : World} (h : laidMet Tryz.prog seatLaid16 W) : ErrIn 6 W := by
  obtain ⟨a, s, hv, _⟩ := laid_sentinel (h.tail.tail.tail.tail) gRan tRan Tryz.underlying81 rowE Tryz.underlying240 Tryz.underlying242 rfl rfl Tryz.underlying9 cEs cSt
  exact ⟨_, by simpa using World.var?_cell gRan hv 0, .inr ⟨_, _, rfl⟩⟩
end Go.Proofs.YtjoimhmhiophfaaGreatDoor

namespace Go.Proofs.YtjoimhmhiophfaaGreatDoor
open Go.ChangeShapes Go.WideShapes Go.ChangeAt Go.RowKit
theorem vars_of_laid16 {W : World} (h : laidMetH Tryz.prog seatLaid16 W) (hs : W.ShapedOpen Tryz.prog) : OpVars W := by
  rw [MakeChecks.laidMetH_plain _ _ _ (by kernel_rfl)] at h
  exact ⟨plain_of_laid16 h, cell_of_shapedOpen_int (zero := #[.int .i64 0]) (t := 3) hs (of_decide_eq_true (by kernel_rfl)) (by kernel_rfl) rfl (by kernel_rfl) (by kernel_rfl) Tryz.underlying3, pow_of_laid h, syn_of_laid h, ran_of_laid h⟩
end Go.Proofs.YtjoimhmhiophfaaGreatDoor
