/-
  Texts of this claim, one behind the other: Krf Krk Opy Oqm Oqu Oqy Oqz Psh Oxr Oqi.
-/
import Derived.Test.YtpdccbeeoapplaaGreatDoorPa
import Derived.Test.YtpdccbeeoapplaaGreatDoorPb
import Derived.Test.YtpdccbeeoapplaaGreatDoorPc
import Derived.Test.YtpdccbeeoapplaaGreatDoorPd
import Derived.Test.YtpdccbeeoapplaaGreatDoorPe
import Derived.Deep.AppendLies
namespace Go.Proofs.YtpdccbeeoapplaaGreatDoor
open Go.RowKit
end Go.Proofs.YtpdccbeeoapplaaGreatDoor

namespace Go.Proofs.YtpdccbeeoapplaaGreatDoor
open Go.RowKit
end Go.Proofs.YtpdccbeeoapplaaGreatDoor

namespace Go.Proofs.YtpdccbeeoapplaaGreatDoor
open Go.RowKit
structure MayK (w : World) (N : Nat) (x : Ex) (W : World) : Prop where
  box : W.heap[N]? = some (.cells (encEx x).toArray 41)
  lt : N < W.heap.size
  bel : Below w.heap.size w W
  ex : ExIn W x
theorem mayK_new {w : World} {x : Ex} (h : ExIn w x) : MayK w w.heap.size x (w.alloc (.cells (encEx x).toArray 41)) :=
  ⟨heap_alloc_new w _, by simp, (Below.refl _ _).alloc (Nat.le_refl _) _, h.on ((Below.refl _ _).alloc (Nat.le_refl _) _)⟩
end Go.Proofs.YtpdccbeeoapplaaGreatDoor

namespace Go.Proofs.YtpdccbeeoapplaaGreatDoor
open Go.RowKit Go.Lib
def normalB (p : List Tm) : Bool := decide (mayM p = 0) && decide (sortM p = p)
theorem ansM_le (p : List Tm) (h : p.length ≤ maxLen) : (ansM p).length ≤ maxLen := by
  unfold ansM
  split
  · exact Nat.le_trans (sortM_len p) h
  · exact Nat.zero_le _
set_option maxHeartbeats 1000000 in
theorem normal_any (v : Value) (p : List Tm) (w : World) (hv : KM.Is w v p) (hf : FitM p) :
    Calls Tryz.prog 84 #[v] w fun e w' => e = .returned (.bool (normalB p)) ∧ Below w.heap.size w w' := by
  have HV := hid hv
  have HN := hid (pnorm_any v p w hv hf)
  clear hv
  go_enter Tryz.func84, Tryz.ntmps84
  go_wp2_with fail
  refine HN.out.mono ?_
  rintro e w1 ⟨⟨u, rfl, ho⟩, hb⟩
  have HB1 := hid hb
  have HE := hid (pequal_any u v (ansM p) p w1 (Kind.own_is ho) (Kind.is_kept HV.out hb) (ansM_le p hf.1) hf.1)
  clear ho hb
  by_cases hm : mayM p = 0
  · have HA : Hid (decide (ansM p = p) = normalB p) := hid (by unfold normalB ansM; rw [if_pos hm, hm]; simp)
    have HM := hid hm
    rw [hm]
    clear hm
    go_wp2_with (go_at_call 58; refine HE.out.mono ?_; rintro e w2 ⟨rfl, hb2⟩; have HB2 := hid hb2; clear hb2)
    go_ret
    exact ⟨by rw [← HA.out]; rfl, HB1.out.trans (HB2.out.mono HB1.out.size)⟩
  · have hq : (mayM p == 0) = false := beq_eq_false_iff_ne.2 hm
    have HA : Hid (normalB p = false) := hid (by unfold normalB; simp [hm])
    go_wp2_with fail
    go_ret
    exact ⟨by rw [HA.out]; rfl, HB1.out⟩
def fitPt (e : En) (p : Nat) : Bool :=
  if p = 1 then decide (e.temp = ⟨#[]⟩) || tempB e.temp.data.toList
  else if p = 2 then keyB e.ka e.kb
  else if p = 3 then typeB e.ka.data.toList && decide (e.kb = ⟨#[]⟩)
  else if p = 4 then decide (0 ≤ e.iff) && decide (e.iff ≤ 999999999)
  else if p = 5 then mayB e.val
  else if p = 7 then normalB e.pred
  else if p = 8 then !e.eds.isEmpty && decide (mayE e.eds = 0)
  else if p = 9 then decide (0 ≤ e.num) && decide (e.num ≤ 999999999)
  else true
set_option maxHeartbeats 4000000 in
theorem opfits_any (x : Ex) (p : Nat) (w : World) (hx : ExIn w x) (h1 : 1 ≤ p) (h2 : p ≤ 10) :
    Calls Tryz.prog 47 #[aggEx x, .int .i64 p] w fun e w' => e = .returned (.bool (fitPt x.en p)) ∧ Below w.heap.size w w' := by
  have HK := hid (mayK_new hx)
  have HX := hid hx
  have hm : x.temp.size ≤ maxLen := hx.temp
  have ha : x.ka.size ≤ maxLen := hx.ka
  have hbk : x.kb.size ≤ maxLen := hx.kb
  unfold aggEx
  have HKB := hid HK.out.bel
  have HMY := hid (may_any x.vs x.vo _ HK.out.ex.val HK.out.ex.fit)
  have HME := hid (pmayE_raw x.es x.eo _ HK.out.ex.eds HK.out.ex.efit)
  have HNM := hid (normal_any x.ps x.po _ HK.out.ex.prd HK.out.ex.pfit)
  simp only [encEx, Ex.vs, Ex.es, Ex.ps] at HK HKB HMY HME HNM ⊢
  clear hx
  have hp : p = 1 ∨ p = 2 ∨ p = 3 ∨ p = 4 ∨ p = 5 ∨ p = 6 ∨ p = 7 ∨ p = 8 ∨ p = 9 ∨ p = 10 := by omega
  rcases hp with rfl | rfl | rfl | rfl | rfl | rfl | rfl | rfl | rfl | rfl
  · by_cases ht : x.temp = ⟨#[]⟩
    · have hse : x.temp.toList.isEmpty = true := by rw [ht, toList_data]; rfl
      have HE : Hid (fitPt x.en 1 = true) := hid (by show (decide (x.temp = ⟨#[]⟩) || tempB x.temp.data.toList) = true; rw [ht]; rfl)
      clear ht
      go_enter Tryz.func47, Tryz.ntmps47
      go_wp2_with fail
      go_ret
      exact ⟨by rw [HE.out]; rfl, HKB.out⟩
    · have hse : x.temp.toList.isEmpty = false := by
        rw [toList_data]
        cases hl : x.temp.data.toList with
        | nil => exact absurd (ba_nil hl) ht
        | cons _ _ => rfl
      have HE : Hid (fitPt x.en 1 = tempB x.temp.data.toList) := hid (by show (decide (x.temp = ⟨#[]⟩) || tempB x.temp.data.toList) = _; simp [ht])
      clear ht
      go_enter Tryz.func47, Tryz.ntmps47
      go_wp2_with (go_at_call 80; refine (temp_any x.temp _ hm).mono ?_; rintro e w1 ⟨rfl, rfl⟩)
      go_ret
      exact ⟨by rw [HE.out]; rfl, HKB.out⟩
  · go_enter Tryz.func47, Tryz.ntmps47
    go_wp2_with (go_at_call 81; refine (key_any x.ka x.kb _ ha hbk).mono ?_; rintro e w1 ⟨rfl, hb1⟩; have HB1 := hid hb1; clear hb1)
    go_ret
    exact ⟨rfl, HKB.out.trans (HB1.out.mono HKB.out.size)⟩
  · by_cases ht : x.kb = ⟨#[]⟩
    · have hse : x.kb.toList.isEmpty = true := by rw [ht, toList_data]; rfl
      have HE : Hid (fitPt x.en 3 = typeB x.ka.data.toList) := hid (by show (typeB x.ka.data.toList && decide (x.kb = ⟨#[]⟩)) = _; simp [ht])
      clear ht
      cases hty : typeB x.ka.data.toList
      all_goals
        go_enter Tryz.func47, Tryz.ntmps47
        go_wp2_with (go_at_call 82; refine (type_any x.ka _ ha).mono ?_; rintro e w1 ⟨rfl, rfl⟩; rw [hty])
        go_ret
        exact ⟨by rw [HE.out, hty]; rfl, HKB.out⟩
    · have hse : x.kb.toList.isEmpty = false := by
        rw [toList_data]
        cases hl : x.kb.data.toList with
        | nil => exact absurd (ba_nil hl) ht
        | cons _ _ => rfl
      have HE : Hid (fitPt x.en 3 = false) := hid (by show (typeB x.ka.data.toList && decide (x.kb = ⟨#[]⟩)) = _; simp [ht])
      clear ht
      cases hty : typeB x.ka.data.toList
      all_goals
        go_enter Tryz.func47, Tryz.ntmps47
        go_wp2_with (go_at_call 82; refine (type_any x.ka _ ha).mono ?_; rintro e w1 ⟨rfl, rfl⟩; rw [hty])
        go_ret
        exact ⟨by rw [HE.out]; rfl, HKB.out⟩
  · by_cases h0 : 0 ≤ x.iff
    · go_enter Tryz.func47, Tryz.ntmps47
      go_wp2_with fail
      go_ret
      exact ⟨by show _ = Ending.returned (.bool (decide (0 ≤ x.iff) && decide (x.iff ≤ 999999999))); simp [h0], HKB.out⟩
    · have H0 := hid h0
      go_enter Tryz.func47, Tryz.ntmps47
      go_wp2_with fail
      go_ret
      exact ⟨by show _ = Ending.returned (.bool (decide (0 ≤ x.iff) && decide (x.iff ≤ 999999999))); have h9 : ¬ 0 ≤ x.iff := Int.not_le.2 H0.out; simp [h9], HKB.out⟩
  · go_enter Tryz.func47, Tryz.ntmps47
    go_wp2_with (go_at_call 83; refine HMY.out.mono ?_; rintro e w1 ⟨rfl, hb1⟩; have HB1 := hid hb1.below; clear hb1)
    go_ret
    exact ⟨rfl, HKB.out.trans (HB1.out.mono HKB.out.size)⟩
  · go_enter Tryz.func47, Tryz.ntmps47
    go_wp2_with fail
    go_ret
    exact ⟨rfl, HKB.out⟩
  · go_enter Tryz.func47, Tryz.ntmps47
    go_wp2_with (go_at_call 84; refine HNM.out.mono ?_; rintro e w1 ⟨rfl, hb1⟩; have HB1 := hid hb1; clear hb1)
    go_ret
    exact ⟨rfl, HKB.out.trans (HB1.out.mono HKB.out.size)⟩
  · by_cases h0 : x.eo = []
    · have HE : Hid (fitPt x.en 8 = false) := hid (by show (!x.eo.isEmpty && decide (mayE x.eo = 0)) = _; rw [h0]; rfl)
      have hl : ¬ (0 : Int) < (x.eo.length : Int) := by rw [h0]; simp
      clear h0
      go_enter Tryz.func47, Tryz.ntmps47
      go_wp2_with fail
      go_ret
      exact ⟨by rw [HE.out]; rfl, HKB.out⟩
    · have hl : (0 : Int) < (x.eo.length : Int) := by have := List.length_pos_iff.2 h0; omega
      have HE : Hid (fitPt x.en 8 = (mayE x.eo == 0)) := hid (by
        show (!x.eo.isEmpty && decide (mayE x.eo = 0)) = _
        cases hq : x.eo with
        | nil => exact absurd hq h0
        | cons a b => simp; rfl)
      clear h0
      go_enter Tryz.func47, Tryz.ntmps47
      go_wp2_with (go_at_call 85; refine HME.out.mono ?_; rintro e w1 ⟨rfl, hb1⟩; have HB1 := hid hb1; clear hb1)
      go_ret
      exact ⟨by rw [HE.out]; rfl, HKB.out.trans (HB1.out.mono HKB.out.size)⟩
  · by_cases h0 : 0 ≤ x.num
    · go_enter Tryz.func47, Tryz.ntmps47
      go_wp2_with fail
      go_ret
      exact ⟨by show _ = Ending.returned (.bool (decide (0 ≤ x.num) && decide (x.num ≤ 999999999))); simp [h0], HKB.out⟩
    · have H0 := hid h0
      go_enter Tryz.func47, Tryz.ntmps47
      go_wp2_with fail
      go_ret
      exact ⟨by show _ = Ending.returned (.bool (decide (0 ≤ x.num) && decide (x.num ≤ 999999999))); have h9 : ¬ 0 ≤ x.num := Int.not_le.2 H0.out; simp [h9], HKB.out⟩
  · go_enter Tryz.func47, Tryz.ntmps47
    go_wp2_with fail
    go_ret
    exact ⟨rfl, HKB.out⟩
def wout (x : Ex) (p : Nat) : Ex :=
  if p = 1 then { x with temp := ⟨#[]⟩ }
  else if p = 2 ∨ p = 3 then { x with ka := ⟨#[]⟩, kb := ⟨#[]⟩ }
  else if p = 4 then { x with iff := 0 }
  else if p = 5 then { x with vp := none, vc := 0, vo := [] }
  else if p = 7 then { x with pp := none, pc := 0, po := [] }
  else if p = 8 then { x with ep := none, ec := 0, eo := [] }
  else if p = 9 then { x with num := 0 }
  else if p = 10 then { x with stamp := 0 }
  else x
theorem w0_facts (w : World) (x : Ex) (W : World) (h : ((w.alloc (.cells #[.int .i64 x.kind, .string x.temp, .string x.ka, .string x.kb, .int .i64 x.iff, .slice x.vp x.vo.length x.vc, .slice x.ep x.eo.length x.ec, .slice x.pp x.po.length x.pc, .int .u64 x.stamp, .int .i64 x.num] 41)).alloc (.cells #[.int .i64 0, .string ⟨#[]⟩, .string ⟨#[]⟩, .string ⟨#[]⟩, .int .i64 0, .slice none 0 0, .slice none 0 0, .slice none 0 0, .int .u64 0, .int .i64 0] 41)) = W) :
    W.heap[w.heap.size]? = some (.cells #[.int .i64 x.kind, .string x.temp, .string x.ka, .string x.kb, .int .i64 x.iff, .slice x.vp x.vo.length x.vc, .slice x.ep x.eo.length x.ec, .slice x.pp x.po.length x.pc, .int .u64 x.stamp, .int .i64 x.num] 41 (0, 0)) ∧ W.heap[w.heap.size + 1]? = some (.cells #[.int .i64 0, .string ⟨#[]⟩, .string ⟨#[]⟩, .string ⟨#[]⟩, .int .i64 0, .slice none 0 0, .slice none 0 0, .slice none 0 0, .int .u64 0, .int .i64 0] 41 (0, 0)) ∧ Below w.heap.size w W := by
  subst h
  refine ⟨?_, ?_, ((Below.refl _ _).alloc (Nat.le_refl _) _).alloc (by simp) _⟩
  · rw [Below.heap_alloc _ _ _ (by simp)]; exact heap_alloc_new w _
  · have := heap_alloc_new (w.alloc (.cells #[.int .i64 x.kind, .string x.temp, .string x.ka, .string x.kb, .int .i64 x.iff, .slice x.vp x.vo.length x.vc, .slice x.ep x.eo.length x.ec, .slice x.pp x.po.length x.pc, .int .u64 x.stamp, .int .i64 x.num] 41)) (.cells #[.int .i64 0, .string ⟨#[]⟩, .string ⟨#[]⟩, .string ⟨#[]⟩, .int .i64 0, .slice none 0 0, .slice none 0 0, .slice none 0 0, .int .u64 0, .int .i64 0] 41)
    simpa using this
set_option maxHeartbeats 4000000 in
theorem without1 (x : Ex) (w : World) : Calls Tryz.prog 48 #[aggEx x, .int .i64 1] w fun e w' => e = .returned (aggEx (wout x 1)) ∧ Below w.heap.size w w' := by
  unfold aggEx
  simp only [encEx, Ex.vs, Ex.es, Ex.ps]
  obtain ⟨W, hW⟩ : ∃ W, ((w.alloc (.cells #[.int .i64 x.kind, .string x.temp, .string x.ka, .string x.kb, .int .i64 x.iff, .slice x.vp x.vo.length x.vc, .slice x.ep x.eo.length x.ec, .slice x.pp x.po.length x.pc, .int .u64 x.stamp, .int .i64 x.num] 41)).alloc (.cells #[.int .i64 0, .string ⟨#[]⟩, .string ⟨#[]⟩, .string ⟨#[]⟩, .int .i64 0, .slice none 0 0, .slice none 0 0, .slice none 0 0, .int .u64 0, .int .i64 0] 41)) = W := ⟨_, rfl⟩
  obtain ⟨b0, b1, hb⟩ := w0_facts w x W hW
  have c0 : (W.setCell ⟨w.heap.size, 1, none⟩ (.string ⟨#[]⟩)).heap[w.heap.size]? = some (.cells #[.int .i64 x.kind, .string ⟨#[]⟩, .string x.ka, .string x.kb, .int .i64 x.iff, .slice x.vp x.vo.length x.vc, .slice x.ep x.eo.length x.ec, .slice x.pp x.po.length x.pc, .int .u64 x.stamp, .int .i64 x.num] 41 (0, 0)) := heap_setCell_same _ w.heap.size 1 _ _ (.string ⟨#[]⟩) b0
  have r1 : (W.setCell ⟨w.heap.size, 1, none⟩ (.string ⟨#[]⟩)).heap[w.heap.size + 1]? = some (.cells #[.int .i64 0, .string ⟨#[]⟩, .string ⟨#[]⟩, .string ⟨#[]⟩, .int .i64 0, .slice none 0 0, .slice none 0 0, .slice none 0 0, .int .u64 0, .int .i64 0] 41 (0, 0)) := ((Below.heap_setCell _ _ _ _ (by show w.heap.size + 1 ≠ w.heap.size; omega)).trans b1)
  obtain ⟨W1, hW1⟩ : ∃ W1, (W.setCell ⟨w.heap.size, 1, none⟩ (.string ⟨#[]⟩)) = W1 := ⟨_, rfl⟩
  rw [hW1] at c0 r1
  obtain ⟨WZ, hWZ⟩ : ∃ WZ, ((((((((((W1.setCell ⟨w.heap.size + 1, 0, none⟩ (.int .i64 x.kind)).setCell ⟨w.heap.size + 1, 1, none⟩ (.string ⟨#[]⟩)).setCell ⟨w.heap.size + 1, 2, none⟩ (.string x.ka)).setCell ⟨w.heap.size + 1, 3, none⟩ (.string x.kb)).setCell ⟨w.heap.size + 1, 4, none⟩ (.int .i64 x.iff)).setCell ⟨w.heap.size + 1, 5, none⟩ (.slice x.vp x.vo.length x.vc)).setCell ⟨w.heap.size + 1, 6, none⟩ (.slice x.ep x.eo.length x.ec)).setCell ⟨w.heap.size + 1, 7, none⟩ (.slice x.pp x.po.length x.pc)).setCell ⟨w.heap.size + 1, 8, none⟩ (.int .u64 x.stamp)).setCell ⟨w.heap.size + 1, 9, none⟩ (.int .i64 x.num)) = WZ := ⟨_, rfl⟩
  obtain ⟨bz, fz⟩ := out_ten r1 _ _ _ _ _ _ _ _ _ _ hWZ
  have hbW : Below w.heap.size w W1 := by rw [← hW1]; exact (hb.setCell (p := ⟨w.heap.size, 1, none⟩) (Nat.le_refl _) (.string ⟨#[]⟩))
  have HFIN : Hid (Ending.returned (.agg #[.int .i64 x.kind, .string ⟨#[]⟩, .string x.ka, .string x.kb, .int .i64 x.iff, .slice x.vp x.vo.length x.vc, .slice x.ep x.eo.length x.ec, .slice x.pp x.po.length x.pc, .int .u64 x.stamp, .int .i64 x.num]) = .returned (.agg (encEx (wout x 1)).toArray) ∧ Below w.heap.size w WZ) := hid ⟨rfl, hbW.trans (fz.below hbW.size fun k hk => by omega)⟩
  have s0 : W.cell? ⟨w.heap.size, 1, none⟩ = some (.string x.temp) := by rw [Lib.cell_of_heap b0]; rfl
  have f0 : W.frozen? ⟨w.heap.size, 1, none⟩ = false := Lib.frozen_of_heap b0 1
  have k0 : (W.setCell ⟨w.heap.size, 1, none⟩ (.string ⟨#[]⟩)).heap[w.heap.size]? = some (.cells #[.int .i64 x.kind, .string ⟨#[]⟩, .string x.ka, .string x.kb, .int .i64 x.iff, .slice x.vp x.vo.length x.vc, .slice x.ep x.eo.length x.ec, .slice x.pp x.po.length x.pc, .int .u64 x.stamp, .int .i64 x.num] 41 (0, 0)) := heap_setCell_same _ w.heap.size 1 _ _ (.string ⟨#[]⟩) b0
  have l0 : W1.cell? ⟨w.heap.size, 0, none⟩ = some (.int .i64 x.kind) := by rw [Lib.cell_of_heap c0]; rfl
  have l1 : W1.cell? ⟨w.heap.size, 1, none⟩ = some (.string ⟨#[]⟩) := by rw [Lib.cell_of_heap c0]; rfl
  have l2 : W1.cell? ⟨w.heap.size, 2, none⟩ = some (.string x.ka) := by rw [Lib.cell_of_heap c0]; rfl
  have l3 : W1.cell? ⟨w.heap.size, 3, none⟩ = some (.string x.kb) := by rw [Lib.cell_of_heap c0]; rfl
  have l4 : W1.cell? ⟨w.heap.size, 4, none⟩ = some (.int .i64 x.iff) := by rw [Lib.cell_of_heap c0]; rfl
  have l5 : W1.cell? ⟨w.heap.size, 5, none⟩ = some (.slice x.vp x.vo.length x.vc) := by rw [Lib.cell_of_heap c0]; rfl
  have l6 : W1.cell? ⟨w.heap.size, 6, none⟩ = some (.slice x.ep x.eo.length x.ec) := by rw [Lib.cell_of_heap c0]; rfl
  have l7 : W1.cell? ⟨w.heap.size, 7, none⟩ = some (.slice x.pp x.po.length x.pc) := by rw [Lib.cell_of_heap c0]; rfl
  have l8 : W1.cell? ⟨w.heap.size, 8, none⟩ = some (.int .u64 x.stamp) := by rw [Lib.cell_of_heap c0]; rfl
  have l9 : W1.cell? ⟨w.heap.size, 9, none⟩ = some (.int .i64 x.num) := by rw [Lib.cell_of_heap c0]; rfl
  have y0 : W1.cell? ⟨w.heap.size + 1, 0, none⟩ = some (.int .i64 0) := by rw [Lib.cell_of_heap r1]; rfl
  have z0 : W1.frozen? ⟨w.heap.size + 1, 0, none⟩ = false := Lib.frozen_of_heap r1 0
  have y1 : W1.cell? ⟨w.heap.size + 1, 1, none⟩ = some (.string ⟨#[]⟩) := by rw [Lib.cell_of_heap r1]; rfl
  have z1 : W1.frozen? ⟨w.heap.size + 1, 1, none⟩ = false := Lib.frozen_of_heap r1 1
  have y2 : W1.cell? ⟨w.heap.size + 1, 2, none⟩ = some (.string ⟨#[]⟩) := by rw [Lib.cell_of_heap r1]; rfl
  have z2 : W1.frozen? ⟨w.heap.size + 1, 2, none⟩ = false := Lib.frozen_of_heap r1 2
  have y3 : W1.cell? ⟨w.heap.size + 1, 3, none⟩ = some (.string ⟨#[]⟩) := by rw [Lib.cell_of_heap r1]; rfl
  have z3 : W1.frozen? ⟨w.heap.size + 1, 3, none⟩ = false := Lib.frozen_of_heap r1 3
  have y4 : W1.cell? ⟨w.heap.size + 1, 4, none⟩ = some (.int .i64 0) := by rw [Lib.cell_of_heap r1]; rfl
  have z4 : W1.frozen? ⟨w.heap.size + 1, 4, none⟩ = false := Lib.frozen_of_heap r1 4
  have y5 : W1.cell? ⟨w.heap.size + 1, 5, none⟩ = some (.slice none 0 0) := by rw [Lib.cell_of_heap r1]; rfl
  have z5 : W1.frozen? ⟨w.heap.size + 1, 5, none⟩ = false := Lib.frozen_of_heap r1 5
  have y6 : W1.cell? ⟨w.heap.size + 1, 6, none⟩ = some (.slice none 0 0) := by rw [Lib.cell_of_heap r1]; rfl
  have z6 : W1.frozen? ⟨w.heap.size + 1, 6, none⟩ = false := Lib.frozen_of_heap r1 6
  have y7 : W1.cell? ⟨w.heap.size + 1, 7, none⟩ = some (.slice none 0 0) := by rw [Lib.cell_of_heap r1]; rfl
  have z7 : W1.frozen? ⟨w.heap.size + 1, 7, none⟩ = false := Lib.frozen_of_heap r1 7
  have y8 : W1.cell? ⟨w.heap.size + 1, 8, none⟩ = some (.int .u64 0) := by rw [Lib.cell_of_heap r1]; rfl
  have z8 : W1.frozen? ⟨w.heap.size + 1, 8, none⟩ = false := Lib.frozen_of_heap r1 8
  have y9 : W1.cell? ⟨w.heap.size + 1, 9, none⟩ = some (.int .i64 0) := by rw [Lib.cell_of_heap r1]; rfl
  have z9 : W1.frozen? ⟨w.heap.size + 1, 9, none⟩ = false := Lib.frozen_of_heap r1 9
  have g0 : WZ.cell? ⟨w.heap.size + 1, 0, none⟩ = some (.int .i64 x.kind) := by rw [Lib.cell_of_heap bz]; rfl
  have g1 : WZ.cell? ⟨w.heap.size + 1, 1, none⟩ = some (.string ⟨#[]⟩) := by rw [Lib.cell_of_heap bz]; rfl
  have g2 : WZ.cell? ⟨w.heap.size + 1, 2, none⟩ = some (.string x.ka) := by rw [Lib.cell_of_heap bz]; rfl
  have g3 : WZ.cell? ⟨w.heap.size + 1, 3, none⟩ = some (.string x.kb) := by rw [Lib.cell_of_heap bz]; rfl
  have g4 : WZ.cell? ⟨w.heap.size + 1, 4, none⟩ = some (.int .i64 x.iff) := by rw [Lib.cell_of_heap bz]; rfl
  have g5 : WZ.cell? ⟨w.heap.size + 1, 5, none⟩ = some (.slice x.vp x.vo.length x.vc) := by rw [Lib.cell_of_heap bz]; rfl
  have g6 : WZ.cell? ⟨w.heap.size + 1, 6, none⟩ = some (.slice x.ep x.eo.length x.ec) := by rw [Lib.cell_of_heap bz]; rfl
  have g7 : WZ.cell? ⟨w.heap.size + 1, 7, none⟩ = some (.slice x.pp x.po.length x.pc) := by rw [Lib.cell_of_heap bz]; rfl
  have g8 : WZ.cell? ⟨w.heap.size + 1, 8, none⟩ = some (.int .u64 x.stamp) := by rw [Lib.cell_of_heap bz]; rfl
  have g9 : WZ.cell? ⟨w.heap.size + 1, 9, none⟩ = some (.int .i64 x.num) := by rw [Lib.cell_of_heap bz]; rfl
  clear bz fz b0 b1 r1 hb hbW c0 k0
  go_enter Tryz.func48, Tryz.ntmps48
  go_upto_region 3 with fail
  try rw [hW]
  go_upto_region 19 with fail
  try rw [hW1]
  go_wp2_with fail
  try rw [hWZ]
  exact bodyPost_ret (v := .agg #[.int .i64 x.kind, .string ⟨#[]⟩, .string x.ka, .string x.kb, .int .i64 x.iff, .slice x.vp x.vo.length x.vc, .slice x.ep x.eo.length x.ec, .slice x.pp x.po.length x.pc, .int .u64 x.stamp, .int .i64 x.num]) (by simp [results, Tryz.results48, go_sem, g0, g1, g2, g3, g4, g5, g6, g7, g8, g9]) rfl HFIN.out
set_option maxHeartbeats 4000000 in
theorem without2 (x : Ex) (w : World) : Calls Tryz.prog 48 #[aggEx x, .int .i64 2] w fun e w' => e = .returned (aggEx (wout x 2)) ∧ Below w.heap.size w w' := by
  unfold aggEx
  simp only [encEx, Ex.vs, Ex.es, Ex.ps]
  obtain ⟨W, hW⟩ : ∃ W, ((w.alloc (.cells #[.int .i64 x.kind, .string x.temp, .string x.ka, .string x.kb, .int .i64 x.iff, .slice x.vp x.vo.length x.vc, .slice x.ep x.eo.length x.ec, .slice x.pp x.po.length x.pc, .int .u64 x.stamp, .int .i64 x.num] 41)).alloc (.cells #[.int .i64 0, .string ⟨#[]⟩, .string ⟨#[]⟩, .string ⟨#[]⟩, .int .i64 0, .slice none 0 0, .slice none 0 0, .slice none 0 0, .int .u64 0, .int .i64 0] 41)) = W := ⟨_, rfl⟩
  obtain ⟨b0, b1, hb⟩ := w0_facts w x W hW
  have c0 : (W.setCell ⟨w.heap.size, 2, none⟩ (.string ⟨#[]⟩)).heap[w.heap.size]? = some (.cells #[.int .i64 x.kind, .string x.temp, .string ⟨#[]⟩, .string x.kb, .int .i64 x.iff, .slice x.vp x.vo.length x.vc, .slice x.ep x.eo.length x.ec, .slice x.pp x.po.length x.pc, .int .u64 x.stamp, .int .i64 x.num] 41 (0, 0)) := heap_setCell_same _ w.heap.size 2 _ _ (.string ⟨#[]⟩) b0
  have c1 : ((W.setCell ⟨w.heap.size, 2, none⟩ (.string ⟨#[]⟩)).setCell ⟨w.heap.size, 3, none⟩ (.string ⟨#[]⟩)).heap[w.heap.size]? = some (.cells #[.int .i64 x.kind, .string x.temp, .string ⟨#[]⟩, .string ⟨#[]⟩, .int .i64 x.iff, .slice x.vp x.vo.length x.vc, .slice x.ep x.eo.length x.ec, .slice x.pp x.po.length x.pc, .int .u64 x.stamp, .int .i64 x.num] 41 (0, 0)) := heap_setCell_same _ w.heap.size 3 _ _ (.string ⟨#[]⟩) c0
  have r1 : ((W.setCell ⟨w.heap.size, 2, none⟩ (.string ⟨#[]⟩)).setCell ⟨w.heap.size, 3, none⟩ (.string ⟨#[]⟩)).heap[w.heap.size + 1]? = some (.cells #[.int .i64 0, .string ⟨#[]⟩, .string ⟨#[]⟩, .string ⟨#[]⟩, .int .i64 0, .slice none 0 0, .slice none 0 0, .slice none 0 0, .int .u64 0, .int .i64 0] 41 (0, 0)) := ((Below.heap_setCell _ _ _ _ (by show w.heap.size + 1 ≠ w.heap.size; omega)).trans ((Below.heap_setCell _ _ _ _ (by show w.heap.size + 1 ≠ w.heap.size; omega)).trans b1))
  obtain ⟨W1, hW1⟩ : ∃ W1, ((W.setCell ⟨w.heap.size, 2, none⟩ (.string ⟨#[]⟩)).setCell ⟨w.heap.size, 3, none⟩ (.string ⟨#[]⟩)) = W1 := ⟨_, rfl⟩
  rw [hW1] at c1 r1
  obtain ⟨WZ, hWZ⟩ : ∃ WZ, ((((((((((W1.setCell ⟨w.heap.size + 1, 0, none⟩ (.int .i64 x.kind)).setCell ⟨w.heap.size + 1, 1, none⟩ (.string x.temp)).setCell ⟨w.heap.size + 1, 2, none⟩ (.string ⟨#[]⟩)).setCell ⟨w.heap.size + 1, 3, none⟩ (.string ⟨#[]⟩)).setCell ⟨w.heap.size + 1, 4, none⟩ (.int .i64 x.iff)).setCell ⟨w.heap.size + 1, 5, none⟩ (.slice x.vp x.vo.length x.vc)).setCell ⟨w.heap.size + 1, 6, none⟩ (.slice x.ep x.eo.length x.ec)).setCell ⟨w.heap.size + 1, 7, none⟩ (.slice x.pp x.po.length x.pc)).setCell ⟨w.heap.size + 1, 8, none⟩ (.int .u64 x.stamp)).setCell ⟨w.heap.size + 1, 9, none⟩ (.int .i64 x.num)) = WZ := ⟨_, rfl⟩
  obtain ⟨bz, fz⟩ := out_ten r1 _ _ _ _ _ _ _ _ _ _ hWZ
  have hbW : Below w.heap.size w W1 := by rw [← hW1]; exact ((hb.setCell (p := ⟨w.heap.size, 2, none⟩) (Nat.le_refl _) (.string ⟨#[]⟩)).setCell (p := ⟨w.heap.size, 3, none⟩) (Nat.le_refl _) (.string ⟨#[]⟩))
  have HFIN : Hid (Ending.returned (.agg #[.int .i64 x.kind, .string x.temp, .string ⟨#[]⟩, .string ⟨#[]⟩, .int .i64 x.iff, .slice x.vp x.vo.length x.vc, .slice x.ep x.eo.length x.ec, .slice x.pp x.po.length x.pc, .int .u64 x.stamp, .int .i64 x.num]) = .returned (.agg (encEx (wout x 2)).toArray) ∧ Below w.heap.size w WZ) := hid ⟨rfl, hbW.trans (fz.below hbW.size fun k hk => by omega)⟩
  have s0 : W.cell? ⟨w.heap.size, 2, none⟩ = some (.string x.ka) := by rw [Lib.cell_of_heap b0]; rfl
  have f0 : W.frozen? ⟨w.heap.size, 2, none⟩ = false := Lib.frozen_of_heap b0 2
  have k0 : (W.setCell ⟨w.heap.size, 2, none⟩ (.string ⟨#[]⟩)).heap[w.heap.size]? = some (.cells #[.int .i64 x.kind, .string x.temp, .string ⟨#[]⟩, .string x.kb, .int .i64 x.iff, .slice x.vp x.vo.length x.vc, .slice x.ep x.eo.length x.ec, .slice x.pp x.po.length x.pc, .int .u64 x.stamp, .int .i64 x.num] 41 (0, 0)) := heap_setCell_same _ w.heap.size 2 _ _ (.string ⟨#[]⟩) b0
  have s1 : (W.setCell ⟨w.heap.size, 2, none⟩ (.string ⟨#[]⟩)).cell? ⟨w.heap.size, 3, none⟩ = some (.string x.kb) := by rw [Lib.cell_of_heap k0]; rfl
  have f1 : (W.setCell ⟨w.heap.size, 2, none⟩ (.string ⟨#[]⟩)).frozen? ⟨w.heap.size, 3, none⟩ = false := Lib.frozen_of_heap k0 3
  have k1 : ((W.setCell ⟨w.heap.size, 2, none⟩ (.string ⟨#[]⟩)).setCell ⟨w.heap.size, 3, none⟩ (.string ⟨#[]⟩)).heap[w.heap.size]? = some (.cells #[.int .i64 x.kind, .string x.temp, .string ⟨#[]⟩, .string ⟨#[]⟩, .int .i64 x.iff, .slice x.vp x.vo.length x.vc, .slice x.ep x.eo.length x.ec, .slice x.pp x.po.length x.pc, .int .u64 x.stamp, .int .i64 x.num] 41 (0, 0)) := heap_setCell_same _ w.heap.size 3 _ _ (.string ⟨#[]⟩) k0
  have l0 : W1.cell? ⟨w.heap.size, 0, none⟩ = some (.int .i64 x.kind) := by rw [Lib.cell_of_heap c1]; rfl
  have l1 : W1.cell? ⟨w.heap.size, 1, none⟩ = some (.string x.temp) := by rw [Lib.cell_of_heap c1]; rfl
  have l2 : W1.cell? ⟨w.heap.size, 2, none⟩ = some (.string ⟨#[]⟩) := by rw [Lib.cell_of_heap c1]; rfl
  have l3 : W1.cell? ⟨w.heap.size, 3, none⟩ = some (.string ⟨#[]⟩) := by rw [Lib.cell_of_heap c1]; rfl
  have l4 : W1.cell? ⟨w.heap.size, 4, none⟩ = some (.int .i64 x.iff) := by rw [Lib.cell_of_heap c1]; rfl
  have l5 : W1.cell? ⟨w.heap.size, 5, none⟩ = some (.slice x.vp x.vo.length x.vc) := by rw [Lib.cell_of_heap c1]; rfl
  have l6 : W1.cell? ⟨w.heap.size, 6, none⟩ = some (.slice x.ep x.eo.length x.ec) := by rw [Lib.cell_of_heap c1]; rfl
  have l7 : W1.cell? ⟨w.heap.size, 7, none⟩ = some (.slice x.pp x.po.length x.pc) := by rw [Lib.cell_of_heap c1]; rfl
  have l8 : W1.cell? ⟨w.heap.size, 8, none⟩ = some (.int .u64 x.stamp) := by rw [Lib.cell_of_heap c1]; rfl
  have l9 : W1.cell? ⟨w.heap.size, 9, none⟩ = some (.int .i64 x.num) := by rw [Lib.cell_of_heap c1]; rfl
  have y0 : W1.cell? ⟨w.heap.size + 1, 0, none⟩ = some (.int .i64 0) := by rw [Lib.cell_of_heap r1]; rfl
  have z0 : W1.frozen? ⟨w.heap.size + 1, 0, none⟩ = false := Lib.frozen_of_heap r1 0
  have y1 : W1.cell? ⟨w.heap.size + 1, 1, none⟩ = some (.string ⟨#[]⟩) := by rw [Lib.cell_of_heap r1]; rfl
  have z1 : W1.frozen? ⟨w.heap.size + 1, 1, none⟩ = false := Lib.frozen_of_heap r1 1
  have y2 : W1.cell? ⟨w.heap.size + 1, 2, none⟩ = some (.string ⟨#[]⟩) := by rw [Lib.cell_of_heap r1]; rfl
  have z2 : W1.frozen? ⟨w.heap.size + 1, 2, none⟩ = false := Lib.frozen_of_heap r1 2
  have y3 : W1.cell? ⟨w.heap.size + 1, 3, none⟩ = some (.string ⟨#[]⟩) := by rw [Lib.cell_of_heap r1]; rfl
  have z3 : W1.frozen? ⟨w.heap.size + 1, 3, none⟩ = false := Lib.frozen_of_heap r1 3
  have y4 : W1.cell? ⟨w.heap.size + 1, 4, none⟩ = some (.int .i64 0) := by rw [Lib.cell_of_heap r1]; rfl
  have z4 : W1.frozen? ⟨w.heap.size + 1, 4, none⟩ = false := Lib.frozen_of_heap r1 4
  have y5 : W1.cell? ⟨w.heap.size + 1, 5, none⟩ = some (.slice none 0 0) := by rw [Lib.cell_of_heap r1]; rfl
  have z5 : W1.frozen? ⟨w.heap.size + 1, 5, none⟩ = false := Lib.frozen_of_heap r1 5
  have y6 : W1.cell? ⟨w.heap.size + 1, 6, none⟩ = some (.slice none 0 0) := by rw [Lib.cell_of_heap r1]; rfl
  have z6 : W1.frozen? ⟨w.heap.size + 1, 6, none⟩ = false := Lib.frozen_of_heap r1 6
  have y7 : W1.cell? ⟨w.heap.size + 1, 7, none⟩ = some (.slice none 0 0) := by rw [Lib.cell_of_heap r1]; rfl
  have z7 : W1.frozen? ⟨w.heap.size + 1, 7, none⟩ = false := Lib.frozen_of_heap r1 7
  have y8 : W1.cell? ⟨w.heap.size + 1, 8, none⟩ = some (.int .u64 0) := by rw [Lib.cell_of_heap r1]; rfl
  have z8 : W1.frozen? ⟨w.heap.size + 1, 8, none⟩ = false := Lib.frozen_of_heap r1 8
  have y9 : W1.cell? ⟨w.heap.size + 1, 9, none⟩ = some (.int .i64 0) := by rw [Lib.cell_of_heap r1]; rfl
  have z9 : W1.frozen? ⟨w.heap.size + 1, 9, none⟩ = false := Lib.frozen_of_heap r1 9
  have g0 : WZ.cell? ⟨w.heap.size + 1, 0, none⟩ = some (.int .i64 x.kind) := by rw [Lib.cell_of_heap bz]; rfl
  have g1 : WZ.cell? ⟨w.heap.size + 1, 1, none⟩ = some (.string x.temp) := by rw [Lib.cell_of_heap bz]; rfl
  have g2 : WZ.cell? ⟨w.heap.size + 1, 2, none⟩ = some (.string ⟨#[]⟩) := by rw [Lib.cell_of_heap bz]; rfl
  have g3 : WZ.cell? ⟨w.heap.size + 1, 3, none⟩ = some (.string ⟨#[]⟩) := by rw [Lib.cell_of_heap bz]; rfl
  have g4 : WZ.cell? ⟨w.heap.size + 1, 4, none⟩ = some (.int .i64 x.iff) := by rw [Lib.cell_of_heap bz]; rfl
  have g5 : WZ.cell? ⟨w.heap.size + 1, 5, none⟩ = some (.slice x.vp x.vo.length x.vc) := by rw [Lib.cell_of_heap bz]; rfl
  have g6 : WZ.cell? ⟨w.heap.size + 1, 6, none⟩ = some (.slice x.ep x.eo.length x.ec) := by rw [Lib.cell_of_heap bz]; rfl
  have g7 : WZ.cell? ⟨w.heap.size + 1, 7, none⟩ = some (.slice x.pp x.po.length x.pc) := by rw [Lib.cell_of_heap bz]; rfl
  have g8 : WZ.cell? ⟨w.heap.size + 1, 8, none⟩ = some (.int .u64 x.stamp) := by rw [Lib.cell_of_heap bz]; rfl
  have g9 : WZ.cell? ⟨w.heap.size + 1, 9, none⟩ = some (.int .i64 x.num) := by rw [Lib.cell_of_heap bz]; rfl
  clear bz fz b0 b1 r1 hb hbW c0 k0 c1 k1
  go_enter Tryz.func48, Tryz.ntmps48
  go_upto_region 6 with fail
  try rw [hW]
  go_upto_region 19 with fail
  try rw [hW1]
  go_wp2_with fail
  try rw [hWZ]
  exact bodyPost_ret (v := .agg #[.int .i64 x.kind, .string x.temp, .string ⟨#[]⟩, .string ⟨#[]⟩, .int .i64 x.iff, .slice x.vp x.vo.length x.vc, .slice x.ep x.eo.length x.ec, .slice x.pp x.po.length x.pc, .int .u64 x.stamp, .int .i64 x.num]) (by simp [results, Tryz.results48, go_sem, g0, g1, g2, g3, g4, g5, g6, g7, g8, g9]) rfl HFIN.out
set_option maxHeartbeats 4000000 in
theorem without3 (x : Ex) (w : World) : Calls Tryz.prog 48 #[aggEx x, .int .i64 3] w fun e w' => e = .returned (aggEx (wout x 3)) ∧ Below w.heap.size w w' := by
  unfold aggEx
  simp only [encEx, Ex.vs, Ex.es, Ex.ps]
  obtain ⟨W, hW⟩ : ∃ W, ((w.alloc (.cells #[.int .i64 x.kind, .string x.temp, .string x.ka, .string x.kb, .int .i64 x.iff, .slice x.vp x.vo.length x.vc, .slice x.ep x.eo.length x.ec, .slice x.pp x.po.length x.pc, .int .u64 x.stamp, .int .i64 x.num] 41)).alloc (.cells #[.int .i64 0, .string ⟨#[]⟩, .string ⟨#[]⟩, .string ⟨#[]⟩, .int .i64 0, .slice none 0 0, .slice none 0 0, .slice none 0 0, .int .u64 0, .int .i64 0] 41)) = W := ⟨_, rfl⟩
  obtain ⟨b0, b1, hb⟩ := w0_facts w x W hW
  have c0 : (W.setCell ⟨w.heap.size, 2, none⟩ (.string ⟨#[]⟩)).heap[w.heap.size]? = some (.cells #[.int .i64 x.kind, .string x.temp, .string ⟨#[]⟩, .string x.kb, .int .i64 x.iff, .slice x.vp x.vo.length x.vc, .slice x.ep x.eo.length x.ec, .slice x.pp x.po.length x.pc, .int .u64 x.stamp, .int .i64 x.num] 41 (0, 0)) := heap_setCell_same _ w.heap.size 2 _ _ (.string ⟨#[]⟩) b0
  have c1 : ((W.setCell ⟨w.heap.size, 2, none⟩ (.string ⟨#[]⟩)).setCell ⟨w.heap.size, 3, none⟩ (.string ⟨#[]⟩)).heap[w.heap.size]? = some (.cells #[.int .i64 x.kind, .string x.temp, .string ⟨#[]⟩, .string ⟨#[]⟩, .int .i64 x.iff, .slice x.vp x.vo.length x.vc, .slice x.ep x.eo.length x.ec, .slice x.pp x.po.length x.pc, .int .u64 x.stamp, .int .i64 x.num] 41 (0, 0)) := heap_setCell_same _ w.heap.size 3 _ _ (.string ⟨#[]⟩) c0
  have r1 : ((W.setCell ⟨w.heap.size, 2, none⟩ (.string ⟨#[]⟩)).setCell ⟨w.heap.size, 3, none⟩ (.string ⟨#[]⟩)).heap[w.heap.size + 1]? = some (.cells #[.int .i64 0, .string ⟨#[]⟩, .string ⟨#[]⟩, .string ⟨#[]⟩, .int .i64 0, .slice none 0 0, .slice none 0 0, .slice none 0 0, .int .u64 0, .int .i64 0] 41 (0, 0)) := ((Below.heap_setCell _ _ _ _ (by show w.heap.size + 1 ≠ w.heap.size; omega)).trans ((Below.heap_setCell _ _ _ _ (by show w.heap.size + 1 ≠ w.heap.size; omega)).trans b1))
  obtain ⟨W1, hW1⟩ : ∃ W1, ((W.setCell ⟨w.heap.size, 2, none⟩ (.string ⟨#[]⟩)).setCell ⟨w.heap.size, 3, none⟩ (.string ⟨#[]⟩)) = W1 := ⟨_, rfl⟩
  rw [hW1] at c1 r1
  obtain ⟨WZ, hWZ⟩ : ∃ WZ, ((((((((((W1.setCell ⟨w.heap.size + 1, 0, none⟩ (.int .i64 x.kind)).setCell ⟨w.heap.size + 1, 1, none⟩ (.string x.temp)).setCell ⟨w.heap.size + 1, 2, none⟩ (.string ⟨#[]⟩)).setCell ⟨w.heap.size + 1, 3, none⟩ (.string ⟨#[]⟩)).setCell ⟨w.heap.size + 1, 4, none⟩ (.int .i64 x.iff)).setCell ⟨w.heap.size + 1, 5, none⟩ (.slice x.vp x.vo.length x.vc)).setCell ⟨w.heap.size + 1, 6, none⟩ (.slice x.ep x.eo.length x.ec)).setCell ⟨w.heap.size + 1, 7, none⟩ (.slice x.pp x.po.length x.pc)).setCell ⟨w.heap.size + 1, 8, none⟩ (.int .u64 x.stamp)).setCell ⟨w.heap.size + 1, 9, none⟩ (.int .i64 x.num)) = WZ := ⟨_, rfl⟩
  obtain ⟨bz, fz⟩ := out_ten r1 _ _ _ _ _ _ _ _ _ _ hWZ
  have hbW : Below w.heap.size w W1 := by rw [← hW1]; exact ((hb.setCell (p := ⟨w.heap.size, 2, none⟩) (Nat.le_refl _) (.string ⟨#[]⟩)).setCell (p := ⟨w.heap.size, 3, none⟩) (Nat.le_refl _) (.string ⟨#[]⟩))
  have HFIN : Hid (Ending.returned (.agg #[.int .i64 x.kind, .string x.temp, .string ⟨#[]⟩, .string ⟨#[]⟩, .int .i64 x.iff, .slice x.vp x.vo.length x.vc, .slice x.ep x.eo.length x.ec, .slice x.pp x.po.length x.pc, .int .u64 x.stamp, .int .i64 x.num]) = .returned (.agg (encEx (wout x 3)).toArray) ∧ Below w.heap.size w WZ) := hid ⟨rfl, hbW.trans (fz.below hbW.size fun k hk => by omega)⟩
  have s0 : W.cell? ⟨w.heap.size, 2, none⟩ = some (.string x.ka) := by rw [Lib.cell_of_heap b0]; rfl
  have f0 : W.frozen? ⟨w.heap.size, 2, none⟩ = false := Lib.frozen_of_heap b0 2
  have k0 : (W.setCell ⟨w.heap.size, 2, none⟩ (.string ⟨#[]⟩)).heap[w.heap.size]? = some (.cells #[.int .i64 x.kind, .string x.temp, .string ⟨#[]⟩, .string x.kb, .int .i64 x.iff, .slice x.vp x.vo.length x.vc, .slice x.ep x.eo.length x.ec, .slice x.pp x.po.length x.pc, .int .u64 x.stamp, .int .i64 x.num] 41 (0, 0)) := heap_setCell_same _ w.heap.size 2 _ _ (.string ⟨#[]⟩) b0
  have s1 : (W.setCell ⟨w.heap.size, 2, none⟩ (.string ⟨#[]⟩)).cell? ⟨w.heap.size, 3, none⟩ = some (.string x.kb) := by rw [Lib.cell_of_heap k0]; rfl
  have f1 : (W.setCell ⟨w.heap.size, 2, none⟩ (.string ⟨#[]⟩)).frozen? ⟨w.heap.size, 3, none⟩ = false := Lib.frozen_of_heap k0 3
  have k1 : ((W.setCell ⟨w.heap.size, 2, none⟩ (.string ⟨#[]⟩)).setCell ⟨w.heap.size, 3, none⟩ (.string ⟨#[]⟩)).heap[w.heap.size]? = some (.cells #[.int .i64 x.kind, .string x.temp, .string ⟨#[]⟩, .string ⟨#[]⟩, .int .i64 x.iff, .slice x.vp x.vo.length x.vc, .slice x.ep x.eo.length x.ec, .slice x.pp x.po.length x.pc, .int .u64 x.stamp, .int .i64 x.num] 41 (0, 0)) := heap_setCell_same _ w.heap.size 3 _ _ (.string ⟨#[]⟩) k0
  have l0 : W1.cell? ⟨w.heap.size, 0, none⟩ = some (.int .i64 x.kind) := by rw [Lib.cell_of_heap c1]; rfl
  have l1 : W1.cell? ⟨w.heap.size, 1, none⟩ = some (.string x.temp) := by rw [Lib.cell_of_heap c1]; rfl
  have l2 : W1.cell? ⟨w.heap.size, 2, none⟩ = some (.string ⟨#[]⟩) := by rw [Lib.cell_of_heap c1]; rfl
  have l3 : W1.cell? ⟨w.heap.size, 3, none⟩ = some (.string ⟨#[]⟩) := by rw [Lib.cell_of_heap c1]; rfl
  have l4 : W1.cell? ⟨w.heap.size, 4, none⟩ = some (.int .i64 x.iff) := by rw [Lib.cell_of_heap c1]; rfl
  have l5 : W1.cell? ⟨w.heap.size, 5, none⟩ = some (.slice x.vp x.vo.length x.vc) := by rw [Lib.cell_of_heap c1]; rfl
  have l6 : W1.cell? ⟨w.heap.size, 6, none⟩ = some (.slice x.ep x.eo.length x.ec) := by rw [Lib.cell_of_heap c1]; rfl
  have l7 : W1.cell? ⟨w.heap.size, 7, none⟩ = some (.slice x.pp x.po.length x.pc) := by rw [Lib.cell_of_heap c1]; rfl
  have l8 : W1.cell? ⟨w.heap.size, 8, none⟩ = some (.int .u64 x.stamp) := by rw [Lib.cell_of_heap c1]; rfl
  have l9 : W1.cell? ⟨w.heap.size, 9, none⟩ = some (.int .i64 x.num) := by rw [Lib.cell_of_heap c1]; rfl
  have y0 : W1.cell? ⟨w.heap.size + 1, 0, none⟩ = some (.int .i64 0) := by rw [Lib.cell_of_heap r1]; rfl
  have z0 : W1.frozen? ⟨w.heap.size + 1, 0, none⟩ = false := Lib.frozen_of_heap r1 0
  have y1 : W1.cell? ⟨w.heap.size + 1, 1, none⟩ = some (.string ⟨#[]⟩) := by rw [Lib.cell_of_heap r1]; rfl
  have z1 : W1.frozen? ⟨w.heap.size + 1, 1, none⟩ = false := Lib.frozen_of_heap r1 1
  have y2 : W1.cell? ⟨w.heap.size + 1, 2, none⟩ = some (.string ⟨#[]⟩) := by rw [Lib.cell_of_heap r1]; rfl
  have z2 : W1.frozen? ⟨w.heap.size + 1, 2, none⟩ = false := Lib.frozen_of_heap r1 2
  have y3 : W1.cell? ⟨w.heap.size + 1, 3, none⟩ = some (.string ⟨#[]⟩) := by rw [Lib.cell_of_heap r1]; rfl
  have z3 : W1.frozen? ⟨w.heap.size + 1, 3, none⟩ = false := Lib.frozen_of_heap r1 3
  have y4 : W1.cell? ⟨w.heap.size + 1, 4, none⟩ = some (.int .i64 0) := by rw [Lib.cell_of_heap r1]; rfl
  have z4 : W1.frozen? ⟨w.heap.size + 1, 4, none⟩ = false := Lib.frozen_of_heap r1 4
  have y5 : W1.cell? ⟨w.heap.size + 1, 5, none⟩ = some (.slice none 0 0) := by rw [Lib.cell_of_heap r1]; rfl
  have z5 : W1.frozen? ⟨w.heap.size + 1, 5, none⟩ = false := Lib.frozen_of_heap r1 5
  have y6 : W1.cell? ⟨w.heap.size + 1, 6, none⟩ = some (.slice none 0 0) := by rw [Lib.cell_of_heap r1]; rfl
  have z6 : W1.frozen? ⟨w.heap.size + 1, 6, none⟩ = false := Lib.frozen_of_heap r1 6
  have y7 : W1.cell? ⟨w.heap.size + 1, 7, none⟩ = some (.slice none 0 0) := by rw [Lib.cell_of_heap r1]; rfl
  have z7 : W1.frozen? ⟨w.heap.size + 1, 7, none⟩ = false := Lib.frozen_of_heap r1 7
  have y8 : W1.cell? ⟨w.heap.size + 1, 8, none⟩ = some (.int .u64 0) := by rw [Lib.cell_of_heap r1]; rfl
  have z8 : W1.frozen? ⟨w.heap.size + 1, 8, none⟩ = false := Lib.frozen_of_heap r1 8
  have y9 : W1.cell? ⟨w.heap.size + 1, 9, none⟩ = some (.int .i64 0) := by rw [Lib.cell_of_heap r1]; rfl
  have z9 : W1.frozen? ⟨w.heap.size + 1, 9, none⟩ = false := Lib.frozen_of_heap r1 9
  have g0 : WZ.cell? ⟨w.heap.size + 1, 0, none⟩ = some (.int .i64 x.kind) := by rw [Lib.cell_of_heap bz]; rfl
  have g1 : WZ.cell? ⟨w.heap.size + 1, 1, none⟩ = some (.string x.temp) := by rw [Lib.cell_of_heap bz]; rfl
  have g2 : WZ.cell? ⟨w.heap.size + 1, 2, none⟩ = some (.string ⟨#[]⟩) := by rw [Lib.cell_of_heap bz]; rfl
  have g3 : WZ.cell? ⟨w.heap.size + 1, 3, none⟩ = some (.string ⟨#[]⟩) := by rw [Lib.cell_of_heap bz]; rfl
  have g4 : WZ.cell? ⟨w.heap.size + 1, 4, none⟩ = some (.int .i64 x.iff) := by rw [Lib.cell_of_heap bz]; rfl
  have g5 : WZ.cell? ⟨w.heap.size + 1, 5, none⟩ = some (.slice x.vp x.vo.length x.vc) := by rw [Lib.cell_of_heap bz]; rfl
  have g6 : WZ.cell? ⟨w.heap.size + 1, 6, none⟩ = some (.slice x.ep x.eo.length x.ec) := by rw [Lib.cell_of_heap bz]; rfl
  have g7 : WZ.cell? ⟨w.heap.size + 1, 7, none⟩ = some (.slice x.pp x.po.length x.pc) := by rw [Lib.cell_of_heap bz]; rfl
  have g8 : WZ.cell? ⟨w.heap.size + 1, 8, none⟩ = some (.int .u64 x.stamp) := by rw [Lib.cell_of_heap bz]; rfl
  have g9 : WZ.cell? ⟨w.heap.size + 1, 9, none⟩ = some (.int .i64 x.num) := by rw [Lib.cell_of_heap bz]; rfl
  clear bz fz b0 b1 r1 hb hbW c0 k0 c1 k1
  go_enter Tryz.func48, Tryz.ntmps48
  go_upto_region 6 with fail
  try rw [hW]
  go_upto_region 19 with fail
  try rw [hW1]
  go_wp2_with fail
  try rw [hWZ]
  exact bodyPost_ret (v := .agg #[.int .i64 x.kind, .string x.temp, .string ⟨#[]⟩, .string ⟨#[]⟩, .int .i64 x.iff, .slice x.vp x.vo.length x.vc, .slice x.ep x.eo.length x.ec, .slice x.pp x.po.length x.pc, .int .u64 x.stamp, .int .i64 x.num]) (by simp [results, Tryz.results48, go_sem, g0, g1, g2, g3, g4, g5, g6, g7, g8, g9]) rfl HFIN.out
set_option maxHeartbeats 4000000 in
theorem without4 (x : Ex) (w : World) : Calls Tryz.prog 48 #[aggEx x, .int .i64 4] w fun e w' => e = .returned (aggEx (wout x 4)) ∧ Below w.heap.size w w' := by
  unfold aggEx
  simp only [encEx, Ex.vs, Ex.es, Ex.ps]
  obtain ⟨W, hW⟩ : ∃ W, ((w.alloc (.cells #[.int .i64 x.kind, .string x.temp, .string x.ka, .string x.kb, .int .i64 x.iff, .slice x.vp x.vo.length x.vc, .slice x.ep x.eo.length x.ec, .slice x.pp x.po.length x.pc, .int .u64 x.stamp, .int .i64 x.num] 41)).alloc (.cells #[.int .i64 0, .string ⟨#[]⟩, .string ⟨#[]⟩, .string ⟨#[]⟩, .int .i64 0, .slice none 0 0, .slice none 0 0, .slice none 0 0, .int .u64 0, .int .i64 0] 41)) = W := ⟨_, rfl⟩
  obtain ⟨b0, b1, hb⟩ := w0_facts w x W hW
  have c0 : (W.setCell ⟨w.heap.size, 4, none⟩ (.int .i64 0)).heap[w.heap.size]? = some (.cells #[.int .i64 x.kind, .string x.temp, .string x.ka, .string x.kb, .int .i64 0, .slice x.vp x.vo.length x.vc, .slice x.ep x.eo.length x.ec, .slice x.pp x.po.length x.pc, .int .u64 x.stamp, .int .i64 x.num] 41 (0, 0)) := heap_setCell_same _ w.heap.size 4 _ _ (.int .i64 0) b0
  have r1 : (W.setCell ⟨w.heap.size, 4, none⟩ (.int .i64 0)).heap[w.heap.size + 1]? = some (.cells #[.int .i64 0, .string ⟨#[]⟩, .string ⟨#[]⟩, .string ⟨#[]⟩, .int .i64 0, .slice none 0 0, .slice none 0 0, .slice none 0 0, .int .u64 0, .int .i64 0] 41 (0, 0)) := ((Below.heap_setCell _ _ _ _ (by show w.heap.size + 1 ≠ w.heap.size; omega)).trans b1)
  obtain ⟨W1, hW1⟩ : ∃ W1, (W.setCell ⟨w.heap.size, 4, none⟩ (.int .i64 0)) = W1 := ⟨_, rfl⟩
  rw [hW1] at c0 r1
  obtain ⟨WZ, hWZ⟩ : ∃ WZ, ((((((((((W1.setCell ⟨w.heap.size + 1, 0, none⟩ (.int .i64 x.kind)).setCell ⟨w.heap.size + 1, 1, none⟩ (.string x.temp)).setCell ⟨w.heap.size + 1, 2, none⟩ (.string x.ka)).setCell ⟨w.heap.size + 1, 3, none⟩ (.string x.kb)).setCell ⟨w.heap.size + 1, 4, none⟩ (.int .i64 0)).setCell ⟨w.heap.size + 1, 5, none⟩ (.slice x.vp x.vo.length x.vc)).setCell ⟨w.heap.size + 1, 6, none⟩ (.slice x.ep x.eo.length x.ec)).setCell ⟨w.heap.size + 1, 7, none⟩ (.slice x.pp x.po.length x.pc)).setCell ⟨w.heap.size + 1, 8, none⟩ (.int .u64 x.stamp)).setCell ⟨w.heap.size + 1, 9, none⟩ (.int .i64 x.num)) = WZ := ⟨_, rfl⟩
  obtain ⟨bz, fz⟩ := out_ten r1 _ _ _ _ _ _ _ _ _ _ hWZ
  have hbW : Below w.heap.size w W1 := by rw [← hW1]; exact (hb.setCell (p := ⟨w.heap.size, 4, none⟩) (Nat.le_refl _) (.int .i64 0))
  have HFIN : Hid (Ending.returned (.agg #[.int .i64 x.kind, .string x.temp, .string x.ka, .string x.kb, .int .i64 0, .slice x.vp x.vo.length x.vc, .slice x.ep x.eo.length x.ec, .slice x.pp x.po.length x.pc, .int .u64 x.stamp, .int .i64 x.num]) = .returned (.agg (encEx (wout x 4)).toArray) ∧ Below w.heap.size w WZ) := hid ⟨rfl, hbW.trans (fz.below hbW.size fun k hk => by omega)⟩
  have s0 : W.cell? ⟨w.heap.size, 4, none⟩ = some (.int .i64 x.iff) := by rw [Lib.cell_of_heap b0]; rfl
  have f0 : W.frozen? ⟨w.heap.size, 4, none⟩ = false := Lib.frozen_of_heap b0 4
  have k0 : (W.setCell ⟨w.heap.size, 4, none⟩ (.int .i64 0)).heap[w.heap.size]? = some (.cells #[.int .i64 x.kind, .string x.temp, .string x.ka, .string x.kb, .int .i64 0, .slice x.vp x.vo.length x.vc, .slice x.ep x.eo.length x.ec, .slice x.pp x.po.length x.pc, .int .u64 x.stamp, .int .i64 x.num] 41 (0, 0)) := heap_setCell_same _ w.heap.size 4 _ _ (.int .i64 0) b0
  have l0 : W1.cell? ⟨w.heap.size, 0, none⟩ = some (.int .i64 x.kind) := by rw [Lib.cell_of_heap c0]; rfl
  have l1 : W1.cell? ⟨w.heap.size, 1, none⟩ = some (.string x.temp) := by rw [Lib.cell_of_heap c0]; rfl
  have l2 : W1.cell? ⟨w.heap.size, 2, none⟩ = some (.string x.ka) := by rw [Lib.cell_of_heap c0]; rfl
  have l3 : W1.cell? ⟨w.heap.size, 3, none⟩ = some (.string x.kb) := by rw [Lib.cell_of_heap c0]; rfl
  have l4 : W1.cell? ⟨w.heap.size, 4, none⟩ = some (.int .i64 0) := by rw [Lib.cell_of_heap c0]; rfl
  have l5 : W1.cell? ⟨w.heap.size, 5, none⟩ = some (.slice x.vp x.vo.length x.vc) := by rw [Lib.cell_of_heap c0]; rfl
  have l6 : W1.cell? ⟨w.heap.size, 6, none⟩ = some (.slice x.ep x.eo.length x.ec) := by rw [Lib.cell_of_heap c0]; rfl
  have l7 : W1.cell? ⟨w.heap.size, 7, none⟩ = some (.slice x.pp x.po.length x.pc) := by rw [Lib.cell_of_heap c0]; rfl
  have l8 : W1.cell? ⟨w.heap.size, 8, none⟩ = some (.int .u64 x.stamp) := by rw [Lib.cell_of_heap c0]; rfl
  have l9 : W1.cell? ⟨w.heap.size, 9, none⟩ = some (.int .i64 x.num) := by rw [Lib.cell_of_heap c0]; rfl
  have y0 : W1.cell? ⟨w.heap.size + 1, 0, none⟩ = some (.int .i64 0) := by rw [Lib.cell_of_heap r1]; rfl
  have z0 : W1.frozen? ⟨w.heap.size + 1, 0, none⟩ = false := Lib.frozen_of_heap r1 0
  have y1 : W1.cell? ⟨w.heap.size + 1, 1, none⟩ = some (.string ⟨#[]⟩) := by rw [Lib.cell_of_heap r1]; rfl
  have z1 : W1.frozen? ⟨w.heap.size + 1, 1, none⟩ = false := Lib.frozen_of_heap r1 1
  have y2 : W1.cell? ⟨w.heap.size + 1, 2, none⟩ = some (.string ⟨#[]⟩) := by rw [Lib.cell_of_heap r1]; rfl
  have z2 : W1.frozen? ⟨w.heap.size + 1, 2, none⟩ = false := Lib.frozen_of_heap r1 2
  have y3 : W1.cell? ⟨w.heap.size + 1, 3, none⟩ = some (.string ⟨#[]⟩) := by rw [Lib.cell_of_heap r1]; rfl
  have z3 : W1.frozen? ⟨w.heap.size + 1, 3, none⟩ = false := Lib.frozen_of_heap r1 3
  have y4 : W1.cell? ⟨w.heap.size + 1, 4, none⟩ = some (.int .i64 0) := by rw [Lib.cell_of_heap r1]; rfl
  have z4 : W1.frozen? ⟨w.heap.size + 1, 4, none⟩ = false := Lib.frozen_of_heap r1 4
  have y5 : W1.cell? ⟨w.heap.size + 1, 5, none⟩ = some (.slice none 0 0) := by rw [Lib.cell_of_heap r1]; rfl
  have z5 : W1.frozen? ⟨w.heap.size + 1, 5, none⟩ = false := Lib.frozen_of_heap r1 5
  have y6 : W1.cell? ⟨w.heap.size + 1, 6, none⟩ = some (.slice none 0 0) := by rw [Lib.cell_of_heap r1]; rfl
  have z6 : W1.frozen? ⟨w.heap.size + 1, 6, none⟩ = false := Lib.frozen_of_heap r1 6
  have y7 : W1.cell? ⟨w.heap.size + 1, 7, none⟩ = some (.slice none 0 0) := by rw [Lib.cell_of_heap r1]; rfl
  have z7 : W1.frozen? ⟨w.heap.size + 1, 7, none⟩ = false := Lib.frozen_of_heap r1 7
  have y8 : W1.cell? ⟨w.heap.size + 1, 8, none⟩ = some (.int .u64 0) := by rw [Lib.cell_of_heap r1]; rfl
  have z8 : W1.frozen? ⟨w.heap.size + 1, 8, none⟩ = false := Lib.frozen_of_heap r1 8
  have y9 : W1.cell? ⟨w.heap.size + 1, 9, none⟩ = some (.int .i64 0) := by rw [Lib.cell_of_heap r1]; rfl
  have z9 : W1.frozen? ⟨w.heap.size + 1, 9, none⟩ = false := Lib.frozen_of_heap r1 9
  have g0 : WZ.cell? ⟨w.heap.size + 1, 0, none⟩ = some (.int .i64 x.kind) := by rw [Lib.cell_of_heap bz]; rfl
  have g1 : WZ.cell? ⟨w.heap.size + 1, 1, none⟩ = some (.string x.temp) := by rw [Lib.cell_of_heap bz]; rfl
  have g2 : WZ.cell? ⟨w.heap.size + 1, 2, none⟩ = some (.string x.ka) := by rw [Lib.cell_of_heap bz]; rfl
  have g3 : WZ.cell? ⟨w.heap.size + 1, 3, none⟩ = some (.string x.kb) := by rw [Lib.cell_of_heap bz]; rfl
  have g4 : WZ.cell? ⟨w.heap.size + 1, 4, none⟩ = some (.int .i64 0) := by rw [Lib.cell_of_heap bz]; rfl
  have g5 : WZ.cell? ⟨w.heap.size + 1, 5, none⟩ = some (.slice x.vp x.vo.length x.vc) := by rw [Lib.cell_of_heap bz]; rfl
  have g6 : WZ.cell? ⟨w.heap.size + 1, 6, none⟩ = some (.slice x.ep x.eo.length x.ec) := by rw [Lib.cell_of_heap bz]; rfl
  have g7 : WZ.cell? ⟨w.heap.size + 1, 7, none⟩ = some (.slice x.pp x.po.length x.pc) := by rw [Lib.cell_of_heap bz]; rfl
  have g8 : WZ.cell? ⟨w.heap.size + 1, 8, none⟩ = some (.int .u64 x.stamp) := by rw [Lib.cell_of_heap bz]; rfl
  have g9 : WZ.cell? ⟨w.heap.size + 1, 9, none⟩ = some (.int .i64 x.num) := by rw [Lib.cell_of_heap bz]; rfl
  clear bz fz b0 b1 r1 hb hbW c0 k0
  go_enter Tryz.func48, Tryz.ntmps48
  go_upto_region 8 with fail
  try rw [hW]
  go_upto_region 19 with fail
  try rw [hW1]
  go_wp2_with fail
  try rw [hWZ]
  exact bodyPost_ret (v := .agg #[.int .i64 x.kind, .string x.temp, .string x.ka, .string x.kb, .int .i64 0, .slice x.vp x.vo.length x.vc, .slice x.ep x.eo.length x.ec, .slice x.pp x.po.length x.pc, .int .u64 x.stamp, .int .i64 x.num]) (by simp [results, Tryz.results48, go_sem, g0, g1, g2, g3, g4, g5, g6, g7, g8, g9]) rfl HFIN.out
set_option maxHeartbeats 4000000 in
theorem without5 (x : Ex) (w : World) : Calls Tryz.prog 48 #[aggEx x, .int .i64 5] w fun e w' => e = .returned (aggEx (wout x 5)) ∧ Below w.heap.size w w' := by
  unfold aggEx
  simp only [encEx, Ex.vs, Ex.es, Ex.ps]
  obtain ⟨W, hW⟩ : ∃ W, ((w.alloc (.cells #[.int .i64 x.kind, .string x.temp, .string x.ka, .string x.kb, .int .i64 x.iff, .slice x.vp x.vo.length x.vc, .slice x.ep x.eo.length x.ec, .slice x.pp x.po.length x.pc, .int .u64 x.stamp, .int .i64 x.num] 41)).alloc (.cells #[.int .i64 0, .string ⟨#[]⟩, .string ⟨#[]⟩, .string ⟨#[]⟩, .int .i64 0, .slice none 0 0, .slice none 0 0, .slice none 0 0, .int .u64 0, .int .i64 0] 41)) = W := ⟨_, rfl⟩
  obtain ⟨b0, b1, hb⟩ := w0_facts w x W hW
  have c0 : (W.setCell ⟨w.heap.size, 5, none⟩ (.slice none 0 0)).heap[w.heap.size]? = some (.cells #[.int .i64 x.kind, .string x.temp, .string x.ka, .string x.kb, .int .i64 x.iff, .slice none 0 0, .slice x.ep x.eo.length x.ec, .slice x.pp x.po.length x.pc, .int .u64 x.stamp, .int .i64 x.num] 41 (0, 0)) := heap_setCell_same _ w.heap.size 5 _ _ (.slice none 0 0) b0
  have r1 : (W.setCell ⟨w.heap.size, 5, none⟩ (.slice none 0 0)).heap[w.heap.size + 1]? = some (.cells #[.int .i64 0, .string ⟨#[]⟩, .string ⟨#[]⟩, .string ⟨#[]⟩, .int .i64 0, .slice none 0 0, .slice none 0 0, .slice none 0 0, .int .u64 0, .int .i64 0] 41 (0, 0)) := ((Below.heap_setCell _ _ _ _ (by show w.heap.size + 1 ≠ w.heap.size; omega)).trans b1)
  obtain ⟨W1, hW1⟩ : ∃ W1, (W.setCell ⟨w.heap.size, 5, none⟩ (.slice none 0 0)) = W1 := ⟨_, rfl⟩
  rw [hW1] at c0 r1
  obtain ⟨WZ, hWZ⟩ : ∃ WZ, ((((((((((W1.setCell ⟨w.heap.size + 1, 0, none⟩ (.int .i64 x.kind)).setCell ⟨w.heap.size + 1, 1, none⟩ (.string x.temp)).setCell ⟨w.heap.size + 1, 2, none⟩ (.string x.ka)).setCell ⟨w.heap.size + 1, 3, none⟩ (.string x.kb)).setCell ⟨w.heap.size + 1, 4, none⟩ (.int .i64 x.iff)).setCell ⟨w.heap.size + 1, 5, none⟩ (.slice none 0 0)).setCell ⟨w.heap.size + 1, 6, none⟩ (.slice x.ep x.eo.length x.ec)).setCell ⟨w.heap.size + 1, 7, none⟩ (.slice x.pp x.po.length x.pc)).setCell ⟨w.heap.size + 1, 8, none⟩ (.int .u64 x.stamp)).setCell ⟨w.heap.size + 1, 9, none⟩ (.int .i64 x.num)) = WZ := ⟨_, rfl⟩
  obtain ⟨bz, fz⟩ := out_ten r1 _ _ _ _ _ _ _ _ _ _ hWZ
  have hbW : Below w.heap.size w W1 := by rw [← hW1]; exact (hb.setCell (p := ⟨w.heap.size, 5, none⟩) (Nat.le_refl _) (.slice none 0 0))
  have HFIN : Hid (Ending.returned (.agg #[.int .i64 x.kind, .string x.temp, .string x.ka, .string x.kb, .int .i64 x.iff, .slice none 0 0, .slice x.ep x.eo.length x.ec, .slice x.pp x.po.length x.pc, .int .u64 x.stamp, .int .i64 x.num]) = .returned (.agg (encEx (wout x 5)).toArray) ∧ Below w.heap.size w WZ) := hid ⟨rfl, hbW.trans (fz.below hbW.size fun k hk => by omega)⟩
  have s0 : W.cell? ⟨w.heap.size, 5, none⟩ = some (.slice x.vp x.vo.length x.vc) := by rw [Lib.cell_of_heap b0]; rfl
  have f0 : W.frozen? ⟨w.heap.size, 5, none⟩ = false := Lib.frozen_of_heap b0 5
  have k0 : (W.setCell ⟨w.heap.size, 5, none⟩ (.slice none 0 0)).heap[w.heap.size]? = some (.cells #[.int .i64 x.kind, .string x.temp, .string x.ka, .string x.kb, .int .i64 x.iff, .slice none 0 0, .slice x.ep x.eo.length x.ec, .slice x.pp x.po.length x.pc, .int .u64 x.stamp, .int .i64 x.num] 41 (0, 0)) := heap_setCell_same _ w.heap.size 5 _ _ (.slice none 0 0) b0
  have l0 : W1.cell? ⟨w.heap.size, 0, none⟩ = some (.int .i64 x.kind) := by rw [Lib.cell_of_heap c0]; rfl
  have l1 : W1.cell? ⟨w.heap.size, 1, none⟩ = some (.string x.temp) := by rw [Lib.cell_of_heap c0]; rfl
  have l2 : W1.cell? ⟨w.heap.size, 2, none⟩ = some (.string x.ka) := by rw [Lib.cell_of_heap c0]; rfl
  have l3 : W1.cell? ⟨w.heap.size, 3, none⟩ = some (.string x.kb) := by rw [Lib.cell_of_heap c0]; rfl
  have l4 : W1.cell? ⟨w.heap.size, 4, none⟩ = some (.int .i64 x.iff) := by rw [Lib.cell_of_heap c0]; rfl
  have l5 : W1.cell? ⟨w.heap.size, 5, none⟩ = some (.slice none 0 0) := by rw [Lib.cell_of_heap c0]; rfl
  have l6 : W1.cell? ⟨w.heap.size, 6, none⟩ = some (.slice x.ep x.eo.length x.ec) := by rw [Lib.cell_of_heap c0]; rfl
  have l7 : W1.cell? ⟨w.heap.size, 7, none⟩ = some (.slice x.pp x.po.length x.pc) := by rw [Lib.cell_of_heap c0]; rfl
  have l8 : W1.cell? ⟨w.heap.size, 8, none⟩ = some (.int .u64 x.stamp) := by rw [Lib.cell_of_heap c0]; rfl
  have l9 : W1.cell? ⟨w.heap.size, 9, none⟩ = some (.int .i64 x.num) := by rw [Lib.cell_of_heap c0]; rfl
  have y0 : W1.cell? ⟨w.heap.size + 1, 0, none⟩ = some (.int .i64 0) := by rw [Lib.cell_of_heap r1]; rfl
  have z0 : W1.frozen? ⟨w.heap.size + 1, 0, none⟩ = false := Lib.frozen_of_heap r1 0
  have y1 : W1.cell? ⟨w.heap.size + 1, 1, none⟩ = some (.string ⟨#[]⟩) := by rw [Lib.cell_of_heap r1]; rfl
  have z1 : W1.frozen? ⟨w.heap.size + 1, 1, none⟩ = false := Lib.frozen_of_heap r1 1
  have y2 : W1.cell? ⟨w.heap.size + 1, 2, none⟩ = some (.string ⟨#[]⟩) := by rw [Lib.cell_of_heap r1]; rfl
  have z2 : W1.frozen? ⟨w.heap.size + 1, 2, none⟩ = false := Lib.frozen_of_heap r1 2
  have y3 : W1.cell? ⟨w.heap.size + 1, 3, none⟩ = some (.string ⟨#[]⟩) := by rw [Lib.cell_of_heap r1]; rfl
  have z3 : W1.frozen? ⟨w.heap.size + 1, 3, none⟩ = false := Lib.frozen_of_heap r1 3
  have y4 : W1.cell? ⟨w.heap.size + 1, 4, none⟩ = some (.int .i64 0) := by rw [Lib.cell_of_heap r1]; rfl
  have z4 : W1.frozen? ⟨w.heap.size + 1, 4, none⟩ = false := Lib.frozen_of_heap r1 4
  have y5 : W1.cell? ⟨w.heap.size + 1, 5, none⟩ = some (.slice none 0 0) := by rw [Lib.cell_of_heap r1]; rfl
  have z5 : W1.frozen? ⟨w.heap.size + 1, 5, none⟩ = false := Lib.frozen_of_heap r1 5
  have y6 : W1.cell? ⟨w.heap.size + 1, 6, none⟩ = some (.slice none 0 0) := by rw [Lib.cell_of_heap r1]; rfl
  have z6 : W1.frozen? ⟨w.heap.size + 1, 6, none⟩ = false := Lib.frozen_of_heap r1 6
  have y7 : W1.cell? ⟨w.heap.size + 1, 7, none⟩ = some (.slice none 0 0) := by rw [Lib.cell_of_heap r1]; rfl
  have z7 : W1.frozen? ⟨w.heap.size + 1, 7, none⟩ = false := Lib.frozen_of_heap r1 7
  have y8 : W1.cell? ⟨w.heap.size + 1, 8, none⟩ = some (.int .u64 0) := by rw [Lib.cell_of_heap r1]; rfl
  have z8 : W1.frozen? ⟨w.heap.size + 1, 8, none⟩ = false := Lib.frozen_of_heap r1 8
  have y9 : W1.cell? ⟨w.heap.size + 1, 9, none⟩ = some (.int .i64 0) := by rw [Lib.cell_of_heap r1]; rfl
  have z9 : W1.frozen? ⟨w.heap.size + 1, 9, none⟩ = false := Lib.frozen_of_heap r1 9
  have g0 : WZ.cell? ⟨w.heap.size + 1, 0, none⟩ = some (.int .i64 x.kind) := by rw [Lib.cell_of_heap bz]; rfl
  have g1 : WZ.cell? ⟨w.heap.size + 1, 1, none⟩ = some (.string x.temp) := by rw [Lib.cell_of_heap bz]; rfl
  have g2 : WZ.cell? ⟨w.heap.size + 1, 2, none⟩ = some (.string x.ka) := by rw [Lib.cell_of_heap bz]; rfl
  have g3 : WZ.cell? ⟨w.heap.size + 1, 3, none⟩ = some (.string x.kb) := by rw [Lib.cell_of_heap bz]; rfl
  have g4 : WZ.cell? ⟨w.heap.size + 1, 4, none⟩ = some (.int .i64 x.iff) := by rw [Lib.cell_of_heap bz]; rfl
  have g5 : WZ.cell? ⟨w.heap.size + 1, 5, none⟩ = some (.slice none 0 0) := by rw [Lib.cell_of_heap bz]; rfl
  have g6 : WZ.cell? ⟨w.heap.size + 1, 6, none⟩ = some (.slice x.ep x.eo.length x.ec) := by rw [Lib.cell_of_heap bz]; rfl
  have g7 : WZ.cell? ⟨w.heap.size + 1, 7, none⟩ = some (.slice x.pp x.po.length x.pc) := by rw [Lib.cell_of_heap bz]; rfl
  have g8 : WZ.cell? ⟨w.heap.size + 1, 8, none⟩ = some (.int .u64 x.stamp) := by rw [Lib.cell_of_heap bz]; rfl
  have g9 : WZ.cell? ⟨w.heap.size + 1, 9, none⟩ = some (.int .i64 x.num) := by rw [Lib.cell_of_heap bz]; rfl
  clear bz fz b0 b1 r1 hb hbW c0 k0
  go_enter Tryz.func48, Tryz.ntmps48
  go_upto_region 10 with fail
  try rw [hW]
  go_upto_region 19 with fail
  try rw [hW1]
  go_wp2_with fail
  try rw [hWZ]
  exact bodyPost_ret (v := .agg #[.int .i64 x.kind, .string x.temp, .string x.ka, .string x.kb, .int .i64 x.iff, .slice none 0 0, .slice x.ep x.eo.length x.ec, .slice x.pp x.po.length x.pc, .int .u64 x.stamp, .int .i64 x.num]) (by simp [results, Tryz.results48, go_sem, g0, g1, g2, g3, g4, g5, g6, g7, g8, g9]) rfl HFIN.out
set_option maxHeartbeats 4000000 in
theorem without6 (x : Ex) (w : World) : Calls Tryz.prog 48 #[aggEx x, .int .i64 6] w fun e w' => e = .returned (aggEx (wout x 6)) ∧ Below w.heap.size w w' := by
  unfold aggEx
  simp only [encEx, Ex.vs, Ex.es, Ex.ps]
  obtain ⟨W, hW⟩ : ∃ W, ((w.alloc (.cells #[.int .i64 x.kind, .string x.temp, .string x.ka, .string x.kb, .int .i64 x.iff, .slice x.vp x.vo.length x.vc, .slice x.ep x.eo.length x.ec, .slice x.pp x.po.length x.pc, .int .u64 x.stamp, .int .i64 x.num] 41)).alloc (.cells #[.int .i64 0, .string ⟨#[]⟩, .string ⟨#[]⟩, .string ⟨#[]⟩, .int .i64 0, .slice none 0 0, .slice none 0 0, .slice none 0 0, .int .u64 0, .int .i64 0] 41)) = W := ⟨_, rfl⟩
  obtain ⟨b0, b1, hb⟩ := w0_facts w x W hW
  have r1 := b1
  obtain ⟨W1, hW1⟩ : ∃ W1, W = W1 := ⟨_, rfl⟩
  subst hW1
  obtain ⟨WZ, hWZ⟩ : ∃ WZ, ((((((((((W.setCell ⟨w.heap.size + 1, 0, none⟩ (.int .i64 x.kind)).setCell ⟨w.heap.size + 1, 1, none⟩ (.string x.temp)).setCell ⟨w.heap.size + 1, 2, none⟩ (.string x.ka)).setCell ⟨w.heap.size + 1, 3, none⟩ (.string x.kb)).setCell ⟨w.heap.size + 1, 4, none⟩ (.int .i64 x.iff)).setCell ⟨w.heap.size + 1, 5, none⟩ (.slice x.vp x.vo.length x.vc)).setCell ⟨w.heap.size + 1, 6, none⟩ (.slice x.ep x.eo.length x.ec)).setCell ⟨w.heap.size + 1, 7, none⟩ (.slice x.pp x.po.length x.pc)).setCell ⟨w.heap.size + 1, 8, none⟩ (.int .u64 x.stamp)).setCell ⟨w.heap.size + 1, 9, none⟩ (.int .i64 x.num)) = WZ := ⟨_, rfl⟩
  obtain ⟨bz, fz⟩ := out_ten r1 _ _ _ _ _ _ _ _ _ _ hWZ
  have hbW : Below w.heap.size w W := hb
  have HFIN : Hid (Ending.returned (.agg #[.int .i64 x.kind, .string x.temp, .string x.ka, .string x.kb, .int .i64 x.iff, .slice x.vp x.vo.length x.vc, .slice x.ep x.eo.length x.ec, .slice x.pp x.po.length x.pc, .int .u64 x.stamp, .int .i64 x.num]) = .returned (.agg (encEx (wout x 6)).toArray) ∧ Below w.heap.size w WZ) := hid ⟨rfl, hbW.trans (fz.below hbW.size fun k hk => by omega)⟩
  have l0 : W.cell? ⟨w.heap.size, 0, none⟩ = some (.int .i64 x.kind) := by rw [Lib.cell_of_heap b0]; rfl
  have l1 : W.cell? ⟨w.heap.size, 1, none⟩ = some (.string x.temp) := by rw [Lib.cell_of_heap b0]; rfl
  have l2 : W.cell? ⟨w.heap.size, 2, none⟩ = some (.string x.ka) := by rw [Lib.cell_of_heap b0]; rfl
  have l3 : W.cell? ⟨w.heap.size, 3, none⟩ = some (.string x.kb) := by rw [Lib.cell_of_heap b0]; rfl
  have l4 : W.cell? ⟨w.heap.size, 4, none⟩ = some (.int .i64 x.iff) := by rw [Lib.cell_of_heap b0]; rfl
  have l5 : W.cell? ⟨w.heap.size, 5, none⟩ = some (.slice x.vp x.vo.length x.vc) := by rw [Lib.cell_of_heap b0]; rfl
  have l6 : W.cell? ⟨w.heap.size, 6, none⟩ = some (.slice x.ep x.eo.length x.ec) := by rw [Lib.cell_of_heap b0]; rfl
  have l7 : W.cell? ⟨w.heap.size, 7, none⟩ = some (.slice x.pp x.po.length x.pc) := by rw [Lib.cell_of_heap b0]; rfl
  have l8 : W.cell? ⟨w.heap.size, 8, none⟩ = some (.int .u64 x.stamp) := by rw [Lib.cell_of_heap b0]; rfl
  have l9 : W.cell? ⟨w.heap.size, 9, none⟩ = some (.int .i64 x.num) := by rw [Lib.cell_of_heap b0]; rfl
  have y0 : W.cell? ⟨w.heap.size + 1, 0, none⟩ = some (.int .i64 0) := by rw [Lib.cell_of_heap r1]; rfl
  have z0 : W.frozen? ⟨w.heap.size + 1, 0, none⟩ = false := Lib.frozen_of_heap r1 0
  have y1 : W.cell? ⟨w.heap.size + 1, 1, none⟩ = some (.string ⟨#[]⟩) := by rw [Lib.cell_of_heap r1]; rfl
  have z1 : W.frozen? ⟨w.heap.size + 1, 1, none⟩ = false := Lib.frozen_of_heap r1 1
  have y2 : W.cell? ⟨w.heap.size + 1, 2, none⟩ = some (.string ⟨#[]⟩) := by rw [Lib.cell_of_heap r1]; rfl
  have z2 : W.frozen? ⟨w.heap.size + 1, 2, none⟩ = false := Lib.frozen_of_heap r1 2
  have y3 : W.cell? ⟨w.heap.size + 1, 3, none⟩ = some (.string ⟨#[]⟩) := by rw [Lib.cell_of_heap r1]; rfl
  have z3 : W.frozen? ⟨w.heap.size + 1, 3, none⟩ = false := Lib.frozen_of_heap r1 3
  have y4 : W.cell? ⟨w.heap.size + 1, 4, none⟩ = some (.int .i64 0) := by rw [Lib.cell_of_heap r1]; rfl
  have z4 : W.frozen? ⟨w.heap.size + 1, 4, none⟩ = false := Lib.frozen_of_heap r1 4
  have y5 : W.cell? ⟨w.heap.size + 1, 5, none⟩ = some (.slice none 0 0) := by rw [Lib.cell_of_heap r1]; rfl
  have z5 : W.frozen? ⟨w.heap.size + 1, 5, none⟩ = false := Lib.frozen_of_heap r1 5
  have y6 : W.cell? ⟨w.heap.size + 1, 6, none⟩ = some (.slice none 0 0) := by rw [Lib.cell_of_heap r1]; rfl
  have z6 : W.frozen? ⟨w.heap.size + 1, 6, none⟩ = false := Lib.frozen_of_heap r1 6
  have y7 : W.cell? ⟨w.heap.size + 1, 7, none⟩ = some (.slice none 0 0) := by rw [Lib.cell_of_heap r1]; rfl
  have z7 : W.frozen? ⟨w.heap.size + 1, 7, none⟩ = false := Lib.frozen_of_heap r1 7
  have y8 : W.cell? ⟨w.heap.size + 1, 8, none⟩ = some (.int .u64 0) := by rw [Lib.cell_of_heap r1]; rfl
  have z8 : W.frozen? ⟨w.heap.size + 1, 8, none⟩ = false := Lib.frozen_of_heap r1 8
  have y9 : W.cell? ⟨w.heap.size + 1, 9, none⟩ = some (.int .i64 0) := by rw [Lib.cell_of_heap r1]; rfl
  have z9 : W.frozen? ⟨w.heap.size + 1, 9, none⟩ = false := Lib.frozen_of_heap r1 9
  have g0 : WZ.cell? ⟨w.heap.size + 1, 0, none⟩ = some (.int .i64 x.kind) := by rw [Lib.cell_of_heap bz]; rfl
  have g1 : WZ.cell? ⟨w.heap.size + 1, 1, none⟩ = some (.string x.temp) := by rw [Lib.cell_of_heap bz]; rfl
  have g2 : WZ.cell? ⟨w.heap.size + 1, 2, none⟩ = some (.string x.ka) := by rw [Lib.cell_of_heap bz]; rfl
  have g3 : WZ.cell? ⟨w.heap.size + 1, 3, none⟩ = some (.string x.kb) := by rw [Lib.cell_of_heap bz]; rfl
  have g4 : WZ.cell? ⟨w.heap.size + 1, 4, none⟩ = some (.int .i64 x.iff) := by rw [Lib.cell_of_heap bz]; rfl
  have g5 : WZ.cell? ⟨w.heap.size + 1, 5, none⟩ = some (.slice x.vp x.vo.length x.vc) := by rw [Lib.cell_of_heap bz]; rfl
  have g6 : WZ.cell? ⟨w.heap.size + 1, 6, none⟩ = some (.slice x.ep x.eo.length x.ec) := by rw [Lib.cell_of_heap bz]; rfl
  have g7 : WZ.cell? ⟨w.heap.size + 1, 7, none⟩ = some (.slice x.pp x.po.length x.pc) := by rw [Lib.cell_of_heap bz]; rfl
  have g8 : WZ.cell? ⟨w.heap.size + 1, 8, none⟩ = some (.int .u64 x.stamp) := by rw [Lib.cell_of_heap bz]; rfl
  have g9 : WZ.cell? ⟨w.heap.size + 1, 9, none⟩ = some (.int .i64 x.num) := by rw [Lib.cell_of_heap bz]; rfl
  clear bz fz b0 b1 r1 hb hbW
  go_enter Tryz.func48, Tryz.ntmps48
  go_upto_region 19 with fail
  try rw [hW]
  go_wp2_with fail
  try rw [hWZ]
  exact bodyPost_ret (v := .agg #[.int .i64 x.kind, .string x.temp, .string x.ka, .string x.kb, .int .i64 x.iff, .slice x.vp x.vo.length x.vc, .slice x.ep x.eo.length x.ec, .slice x.pp x.po.length x.pc, .int .u64 x.stamp, .int .i64 x.num]) (by simp [results, Tryz.results48, go_sem, g0, g1, g2, g3, g4, g5, g6, g7, g8, g9]) rfl HFIN.out
set_option maxHeartbeats 4000000 in
theorem without7 (x : Ex) (w : World) : Calls Tryz.prog 48 #[aggEx x, .int .i64 7] w fun e w' => e = .returned (aggEx (wout x 7)) ∧ Below w.heap.size w w' := by
  unfold aggEx
  simp only [encEx, Ex.vs, Ex.es, Ex.ps]
  obtain ⟨W, hW⟩ : ∃ W, ((w.alloc (.cells #[.int .i64 x.kind, .string x.temp, .string x.ka, .string x.kb, .int .i64 x.iff, .slice x.vp x.vo.length x.vc, .slice x.ep x.eo.length x.ec, .slice x.pp x.po.length x.pc, .int .u64 x.stamp, .int .i64 x.num] 41)).alloc (.cells #[.int .i64 0, .string ⟨#[]⟩, .string ⟨#[]⟩, .string ⟨#[]⟩, .int .i64 0, .slice none 0 0, .slice none 0 0, .slice none 0 0, .int .u64 0, .int .i64 0] 41)) = W := ⟨_, rfl⟩
  obtain ⟨b0, b1, hb⟩ := w0_facts w x W hW
  have c0 : (W.setCell ⟨w.heap.size, 7, none⟩ (.slice none 0 0)).heap[w.heap.size]? = some (.cells #[.int .i64 x.kind, .string x.temp, .string x.ka, .string x.kb, .int .i64 x.iff, .slice x.vp x.vo.length x.vc, .slice x.ep x.eo.length x.ec, .slice none 0 0, .int .u64 x.stamp, .int .i64 x.num] 41 (0, 0)) := heap_setCell_same _ w.heap.size 7 _ _ (.slice none 0 0) b0
  have r1 : (W.setCell ⟨w.heap.size, 7, none⟩ (.slice none 0 0)).heap[w.heap.size + 1]? = some (.cells #[.int .i64 0, .string ⟨#[]⟩, .string ⟨#[]⟩, .string ⟨#[]⟩, .int .i64 0, .slice none 0 0, .slice none 0 0, .slice none 0 0, .int .u64 0, .int .i64 0] 41 (0, 0)) := ((Below.heap_setCell _ _ _ _ (by show w.heap.size + 1 ≠ w.heap.size; omega)).trans b1)
  obtain ⟨W1, hW1⟩ : ∃ W1, (W.setCell ⟨w.heap.size, 7, none⟩ (.slice none 0 0)) = W1 := ⟨_, rfl⟩
  rw [hW1] at c0 r1
  obtain ⟨WZ, hWZ⟩ : ∃ WZ, ((((((((((W1.setCell ⟨w.heap.size + 1, 0, none⟩ (.int .i64 x.kind)).setCell ⟨w.heap.size + 1, 1, none⟩ (.string x.temp)).setCell ⟨w.heap.size + 1, 2, none⟩ (.string x.ka)).setCell ⟨w.heap.size + 1, 3, none⟩ (.string x.kb)).setCell ⟨w.heap.size + 1, 4, none⟩ (.int .i64 x.iff)).setCell ⟨w.heap.size + 1, 5, none⟩ (.slice x.vp x.vo.length x.vc)).setCell ⟨w.heap.size + 1, 6, none⟩ (.slice x.ep x.eo.length x.ec)).setCell ⟨w.heap.size + 1, 7, none⟩ (.slice none 0 0)).setCell ⟨w.heap.size + 1, 8, none⟩ (.int .u64 x.stamp)).setCell ⟨w.heap.size + 1, 9, none⟩ (.int .i64 x.num)) = WZ := ⟨_, rfl⟩
  obtain ⟨bz, fz⟩ := out_ten r1 _ _ _ _ _ _ _ _ _ _ hWZ
  have hbW : Below w.heap.size w W1 := by rw [← hW1]; exact (hb.setCell (p := ⟨w.heap.size, 7, none⟩) (Nat.le_refl _) (.slice none 0 0))
  have HFIN : Hid (Ending.returned (.agg #[.int .i64 x.kind, .string x.temp, .string x.ka, .string x.kb, .int .i64 x.iff, .slice x.vp x.vo.length x.vc, .slice x.ep x.eo.length x.ec, .slice none 0 0, .int .u64 x.stamp, .int .i64 x.num]) = .returned (.agg (encEx (wout x 7)).toArray) ∧ Below w.heap.size w WZ) := hid ⟨rfl, hbW.trans (fz.below hbW.size fun k hk => by omega)⟩
  have s0 : W.cell? ⟨w.heap.size, 7, none⟩ = some (.slice x.pp x.po.length x.pc) := by rw [Lib.cell_of_heap b0]; rfl
  have f0 : W.frozen? ⟨w.heap.size, 7, none⟩ = false := Lib.frozen_of_heap b0 7
  have k0 : (W.setCell ⟨w.heap.size, 7, none⟩ (.slice none 0 0)).heap[w.heap.size]? = some (.cells #[.int .i64 x.kind, .string x.temp, .string x.ka, .string x.kb, .int .i64 x.iff, .slice x.vp x.vo.length x.vc, .slice x.ep x.eo.length x.ec, .slice none 0 0, .int .u64 x.stamp, .int .i64 x.num] 41 (0, 0)) := heap_setCell_same _ w.heap.size 7 _ _ (.slice none 0 0) b0
  have l0 : W1.cell? ⟨w.heap.size, 0, none⟩ = some (.int .i64 x.kind) := by rw [Lib.cell_of_heap c0]; rfl
  have l1 : W1.cell? ⟨w.heap.size, 1, none⟩ = some (.string x.temp) := by rw [Lib.cell_of_heap c0]; rfl
  have l2 : W1.cell? ⟨w.heap.size, 2, none⟩ = some (.string x.ka) := by rw [Lib.cell_of_heap c0]; rfl
  have l3 : W1.cell? ⟨w.heap.size, 3, none⟩ = some (.string x.kb) := by rw [Lib.cell_of_heap c0]; rfl
  have l4 : W1.cell? ⟨w.heap.size, 4, none⟩ = some (.int .i64 x.iff) := by rw [Lib.cell_of_heap c0]; rfl
  have l5 : W1.cell? ⟨w.heap.size, 5, none⟩ = some (.slice x.vp x.vo.length x.vc) := by rw [Lib.cell_of_heap c0]; rfl
  have l6 : W1.cell? ⟨w.heap.size, 6, none⟩ = some (.slice x.ep x.eo.length x.ec) := by rw [Lib.cell_of_heap c0]; rfl
  have l7 : W1.cell? ⟨w.heap.size, 7, none⟩ = some (.slice none 0 0) := by rw [Lib.cell_of_heap c0]; rfl
  have l8 : W1.cell? ⟨w.heap.size, 8, none⟩ = some (.int .u64 x.stamp) := by rw [Lib.cell_of_heap c0]; rfl
  have l9 : W1.cell? ⟨w.heap.size, 9, none⟩ = some (.int .i64 x.num) := by rw [Lib.cell_of_heap c0]; rfl
  have y0 : W1.cell? ⟨w.heap.size + 1, 0, none⟩ = some (.int .i64 0) := by rw [Lib.cell_of_heap r1]; rfl
  have z0 : W1.frozen? ⟨w.heap.size + 1, 0, none⟩ = false := Lib.frozen_of_heap r1 0
  have y1 : W1.cell? ⟨w.heap.size + 1, 1, none⟩ = some (.string ⟨#[]⟩) := by rw [Lib.cell_of_heap r1]; rfl
  have z1 : W1.frozen? ⟨w.heap.size + 1, 1, none⟩ = false := Lib.frozen_of_heap r1 1
  have y2 : W1.cell? ⟨w.heap.size + 1, 2, none⟩ = some (.string ⟨#[]⟩) := by rw [Lib.cell_of_heap r1]; rfl
  have z2 : W1.frozen? ⟨w.heap.size + 1, 2, none⟩ = false := Lib.frozen_of_heap r1 2
  have y3 : W1.cell? ⟨w.heap.size + 1, 3, none⟩ = some (.string ⟨#[]⟩) := by rw [Lib.cell_of_heap r1]; rfl
  have z3 : W1.frozen? ⟨w.heap.size + 1, 3, none⟩ = false := Lib.frozen_of_heap r1 3
  have y4 : W1.cell? ⟨w.heap.size + 1, 4, none⟩ = some (.int .i64 0) := by rw [Lib.cell_of_heap r1]; rfl
  have z4 : W1.frozen? ⟨w.heap.size + 1, 4, none⟩ = false := Lib.frozen_of_heap r1 4
  have y5 : W1.cell? ⟨w.heap.size + 1, 5, none⟩ = some (.slice none 0 0) := by rw [Lib.cell_of_heap r1]; rfl
  have z5 : W1.frozen? ⟨w.heap.size + 1, 5, none⟩ = false := Lib.frozen_of_heap r1 5
  have y6 : W1.cell? ⟨w.heap.size + 1, 6, none⟩ = some (.slice none 0 0) := by rw [Lib.cell_of_heap r1]; rfl
  have z6 : W1.frozen? ⟨w.heap.size + 1, 6, none⟩ = false := Lib.frozen_of_heap r1 6
  have y7 : W1.cell? ⟨w.heap.size + 1, 7, none⟩ = some (.slice none 0 0) := by rw [Lib.cell_of_heap r1]; rfl
  have z7 : W1.frozen? ⟨w.heap.size + 1, 7, none⟩ = false := Lib.frozen_of_heap r1 7
  have y8 : W1.cell? ⟨w.heap.size + 1, 8, none⟩ = some (.int .u64 0) := by rw [Lib.cell_of_heap r1]; rfl
  have z8 : W1.frozen? ⟨w.heap.size + 1, 8, none⟩ = false := Lib.frozen_of_heap r1 8
  have y9 : W1.cell? ⟨w.heap.size + 1, 9, none⟩ = some (.int .i64 0) := by rw [Lib.cell_of_heap r1]; rfl
  have z9 : W1.frozen? ⟨w.heap.size + 1, 9, none⟩ = false := Lib.frozen_of_heap r1 9
  have g0 : WZ.cell? ⟨w.heap.size + 1, 0, none⟩ = some (.int .i64 x.kind) := by rw [Lib.cell_of_heap bz]; rfl
  have g1 : WZ.cell? ⟨w.heap.size + 1, 1, none⟩ = some (.string x.temp) := by rw [Lib.cell_of_heap bz]; rfl
  have g2 : WZ.cell? ⟨w.heap.size + 1, 2, none⟩ = some (.string x.ka) := by rw [Lib.cell_of_heap bz]; rfl
  have g3 : WZ.cell? ⟨w.heap.size + 1, 3, none⟩ = some (.string x.kb) := by rw [Lib.cell_of_heap bz]; rfl
  have g4 : WZ.cell? ⟨w.heap.size + 1, 4, none⟩ = some (.int .i64 x.iff) := by rw [Lib.cell_of_heap bz]; rfl
  have g5 : WZ.cell? ⟨w.heap.size + 1, 5, none⟩ = some (.slice x.vp x.vo.length x.vc) := by rw [Lib.cell_of_heap bz]; rfl
  have g6 : WZ.cell? ⟨w.heap.size + 1, 6, none⟩ = some (.slice x.ep x.eo.length x.ec) := by rw [Lib.cell_of_heap bz]; rfl
  have g7 : WZ.cell? ⟨w.heap.size + 1, 7, none⟩ = some (.slice none 0 0) := by rw [Lib.cell_of_heap bz]; rfl
  have g8 : WZ.cell? ⟨w.heap.size + 1, 8, none⟩ = some (.int .u64 x.stamp) := by rw [Lib.cell_of_heap bz]; rfl
  have g9 : WZ.cell? ⟨w.heap.size + 1, 9, none⟩ = some (.int .i64 x.num) := by rw [Lib.cell_of_heap bz]; rfl
  clear bz fz b0 b1 r1 hb hbW c0 k0
  go_enter Tryz.func48, Tryz.ntmps48
  go_upto_region 12 with fail
  try rw [hW]
  go_upto_region 19 with fail
  try rw [hW1]
  go_wp2_with fail
  try rw [hWZ]
  exact bodyPost_ret (v := .agg #[.int .i64 x.kind, .string x.temp, .string x.ka, .string x.kb, .int .i64 x.iff, .slice x.vp x.vo.length x.vc, .slice x.ep x.eo.length x.ec, .slice none 0 0, .int .u64 x.stamp, .int .i64 x.num]) (by simp [results, Tryz.results48, go_sem, g0, g1, g2, g3, g4, g5, g6, g7, g8, g9]) rfl HFIN.out
set_option maxHeartbeats 4000000 in
theorem without8 (x : Ex) (w : World) : Calls Tryz.prog 48 #[aggEx x, .int .i64 8] w fun e w' => e = .returned (aggEx (wout x 8)) ∧ Below w.heap.size w w' := by
  unfold aggEx
  simp only [encEx, Ex.vs, Ex.es, Ex.ps]
  obtain ⟨W, hW⟩ : ∃ W, ((w.alloc (.cells #[.int .i64 x.kind, .string x.temp, .string x.ka, .string x.kb, .int .i64 x.iff, .slice x.vp x.vo.length x.vc, .slice x.ep x.eo.length x.ec, .slice x.pp x.po.length x.pc, .int .u64 x.stamp, .int .i64 x.num] 41)).alloc (.cells #[.int .i64 0, .string ⟨#[]⟩, .string ⟨#[]⟩, .string ⟨#[]⟩, .int .i64 0, .slice none 0 0, .slice none 0 0, .slice none 0 0, .int .u64 0, .int .i64 0] 41)) = W := ⟨_, rfl⟩
  obtain ⟨b0, b1, hb⟩ := w0_facts w x W hW
  have c0 : (W.setCell ⟨w.heap.size, 6, none⟩ (.slice none 0 0)).heap[w.heap.size]? = some (.cells #[.int .i64 x.kind, .string x.temp, .string x.ka, .string x.kb, .int .i64 x.iff, .slice x.vp x.vo.length x.vc, .slice none 0 0, .slice x.pp x.po.length x.pc, .int .u64 x.stamp, .int .i64 x.num] 41 (0, 0)) := heap_setCell_same _ w.heap.size 6 _ _ (.slice none 0 0) b0
  have r1 : (W.setCell ⟨w.heap.size, 6, none⟩ (.slice none 0 0)).heap[w.heap.size + 1]? = some (.cells #[.int .i64 0, .string ⟨#[]⟩, .string ⟨#[]⟩, .string ⟨#[]⟩, .int .i64 0, .slice none 0 0, .slice none 0 0, .slice none 0 0, .int .u64 0, .int .i64 0] 41 (0, 0)) := ((Below.heap_setCell _ _ _ _ (by show w.heap.size + 1 ≠ w.heap.size; omega)).trans b1)
  obtain ⟨W1, hW1⟩ : ∃ W1, (W.setCell ⟨w.heap.size, 6, none⟩ (.slice none 0 0)) = W1 := ⟨_, rfl⟩
  rw [hW1] at c0 r1
  obtain ⟨WZ, hWZ⟩ : ∃ WZ, ((((((((((W1.setCell ⟨w.heap.size + 1, 0, none⟩ (.int .i64 x.kind)).setCell ⟨w.heap.size + 1, 1, none⟩ (.string x.temp)).setCell ⟨w.heap.size + 1, 2, none⟩ (.string x.ka)).setCell ⟨w.heap.size + 1, 3, none⟩ (.string x.kb)).setCell ⟨w.heap.size + 1, 4, none⟩ (.int .i64 x.iff)).setCell ⟨w.heap.size + 1, 5, none⟩ (.slice x.vp x.vo.length x.vc)).setCell ⟨w.heap.size + 1, 6, none⟩ (.slice none 0 0)).setCell ⟨w.heap.size + 1, 7, none⟩ (.slice x.pp x.po.length x.pc)).setCell ⟨w.heap.size + 1, 8, none⟩ (.int .u64 x.stamp)).setCell ⟨w.heap.size + 1, 9, none⟩ (.int .i64 x.num)) = WZ := ⟨_, rfl⟩
  obtain ⟨bz, fz⟩ := out_ten r1 _ _ _ _ _ _ _ _ _ _ hWZ
  have hbW : Below w.heap.size w W1 := by rw [← hW1]; exact (hb.setCell (p := ⟨w.heap.size, 6, none⟩) (Nat.le_refl _) (.slice none 0 0))
  have HFIN : Hid (Ending.returned (.agg #[.int .i64 x.kind, .string x.temp, .string x.ka, .string x.kb, .int .i64 x.iff, .slice x.vp x.vo.length x.vc, .slice none 0 0, .slice x.pp x.po.length x.pc, .int .u64 x.stamp, .int .i64 x.num]) = .returned (.agg (encEx (wout x 8)).toArray) ∧ Below w.heap.size w WZ) := hid ⟨rfl, hbW.trans (fz.below hbW.size fun k hk => by omega)⟩
  have s0 : W.cell? ⟨w.heap.size, 6, none⟩ = some (.slice x.ep x.eo.length x.ec) := by rw [Lib.cell_of_heap b0]; rfl
  have f0 : W.frozen? ⟨w.heap.size, 6, none⟩ = false := Lib.frozen_of_heap b0 6
  have k0 : (W.setCell ⟨w.heap.size, 6, none⟩ (.slice none 0 0)).heap[w.heap.size]? = some (.cells #[.int .i64 x.kind, .string x.temp, .string x.ka, .string x.kb, .int .i64 x.iff, .slice x.vp x.vo.length x.vc, .slice none 0 0, .slice x.pp x.po.length x.pc, .int .u64 x.stamp, .int .i64 x.num] 41 (0, 0)) := heap_setCell_same _ w.heap.size 6 _ _ (.slice none 0 0) b0
  have l0 : W1.cell? ⟨w.heap.size, 0, none⟩ = some (.int .i64 x.kind) := by rw [Lib.cell_of_heap c0]; rfl
  have l1 : W1.cell? ⟨w.heap.size, 1, none⟩ = some (.string x.temp) := by rw [Lib.cell_of_heap c0]; rfl
  have l2 : W1.cell? ⟨w.heap.size, 2, none⟩ = some (.string x.ka) := by rw [Lib.cell_of_heap c0]; rfl
  have l3 : W1.cell? ⟨w.heap.size, 3, none⟩ = some (.string x.kb) := by rw [Lib.cell_of_heap c0]; rfl
  have l4 : W1.cell? ⟨w.heap.size, 4, none⟩ = some (.int .i64 x.iff) := by rw [Lib.cell_of_heap c0]; rfl
  have l5 : W1.cell? ⟨w.heap.size, 5, none⟩ = some (.slice x.vp x.vo.length x.vc) := by rw [Lib.cell_of_heap c0]; rfl
  have l6 : W1.cell? ⟨w.heap.size, 6, none⟩ = some (.slice none 0 0) := by rw [Lib.cell_of_heap c0]; rfl
  have l7 : W1.cell? ⟨w.heap.size, 7, none⟩ = some (.slice x.pp x.po.length x.pc) := by rw [Lib.cell_of_heap c0]; rfl
  have l8 : W1.cell? ⟨w.heap.size, 8, none⟩ = some (.int .u64 x.stamp) := by rw [Lib.cell_of_heap c0]; rfl
  have l9 : W1.cell? ⟨w.heap.size, 9, none⟩ = some (.int .i64 x.num) := by rw [Lib.cell_of_heap c0]; rfl
  have y0 : W1.cell? ⟨w.heap.size + 1, 0, none⟩ = some (.int .i64 0) := by rw [Lib.cell_of_heap r1]; rfl
  have z0 : W1.frozen? ⟨w.heap.size + 1, 0, none⟩ = false := Lib.frozen_of_heap r1 0
  have y1 : W1.cell? ⟨w.heap.size + 1, 1, none⟩ = some (.string ⟨#[]⟩) := by rw [Lib.cell_of_heap r1]; rfl
  have z1 : W1.frozen? ⟨w.heap.size + 1, 1, none⟩ = false := Lib.frozen_of_heap r1 1
  have y2 : W1.cell? ⟨w.heap.size + 1, 2, none⟩ = some (.string ⟨#[]⟩) := by rw [Lib.cell_of_heap r1]; rfl
  have z2 : W1.frozen? ⟨w.heap.size + 1, 2, none⟩ = false := Lib.frozen_of_heap r1 2
  have y3 : W1.cell? ⟨w.heap.size + 1, 3, none⟩ = some (.string ⟨#[]⟩) := by rw [Lib.cell_of_heap r1]; rfl
  have z3 : W1.frozen? ⟨w.heap.size + 1, 3, none⟩ = false := Lib.frozen_of_heap r1 3
  have y4 : W1.cell? ⟨w.heap.size + 1, 4, none⟩ = some (.int .i64 0) := by rw [Lib.cell_of_heap r1]; rfl
  have z4 : W1.frozen? ⟨w.heap.size + 1, 4, none⟩ = false := Lib.frozen_of_heap r1 4
  have y5 : W1.cell? ⟨w.heap.size + 1, 5, none⟩ = some (.slice none 0 0) := by rw [Lib.cell_of_heap r1]; rfl
  have z5 : W1.frozen? ⟨w.heap.size + 1, 5, none⟩ = false := Lib.frozen_of_heap r1 5
  have y6 : W1.cell? ⟨w.heap.size + 1, 6, none⟩ = some (.slice none 0 0) := by rw [Lib.cell_of_heap r1]; rfl
  have z6 : W1.frozen? ⟨w.heap.size + 1, 6, none⟩ = false := Lib.frozen_of_heap r1 6
  have y7 : W1.cell? ⟨w.heap.size + 1, 7, none⟩ = some (.slice none 0 0) := by rw [Lib.cell_of_heap r1]; rfl
  have z7 : W1.frozen? ⟨w.heap.size + 1, 7, none⟩ = false := Lib.frozen_of_heap r1 7
  have y8 : W1.cell? ⟨w.heap.size + 1, 8, none⟩ = some (.int .u64 0) := by rw [Lib.cell_of_heap r1]; rfl
  have z8 : W1.frozen? ⟨w.heap.size + 1, 8, none⟩ = false := Lib.frozen_of_heap r1 8
  have y9 : W1.cell? ⟨w.heap.size + 1, 9, none⟩ = some (.int .i64 0) := by rw [Lib.cell_of_heap r1]; rfl
  have z9 : W1.frozen? ⟨w.heap.size + 1, 9, none⟩ = false := Lib.frozen_of_heap r1 9
  have g0 : WZ.cell? ⟨w.heap.size + 1, 0, none⟩ = some (.int .i64 x.kind) := by rw [Lib.cell_of_heap bz]; rfl
  have g1 : WZ.cell? ⟨w.heap.size + 1, 1, none⟩ = some (.string x.temp) := by rw [Lib.cell_of_heap bz]; rfl
  have g2 : WZ.cell? ⟨w.heap.size + 1, 2, none⟩ = some (.string x.ka) := by rw [Lib.cell_of_heap bz]; rfl
  have g3 : WZ.cell? ⟨w.heap.size + 1, 3, none⟩ = some (.string x.kb) := by rw [Lib.cell_of_heap bz]; rfl
  have g4 : WZ.cell? ⟨w.heap.size + 1, 4, none⟩ = some (.int .i64 x.iff) := by rw [Lib.cell_of_heap bz]; rfl
  have g5 : WZ.cell? ⟨w.heap.size + 1, 5, none⟩ = some (.slice x.vp x.vo.length x.vc) := by rw [Lib.cell_of_heap bz]; rfl
  have g6 : WZ.cell? ⟨w.heap.size + 1, 6, none⟩ = some (.slice none 0 0) := by rw [Lib.cell_of_heap bz]; rfl
  have g7 : WZ.cell? ⟨w.heap.size + 1, 7, none⟩ = some (.slice x.pp x.po.length x.pc) := by rw [Lib.cell_of_heap bz]; rfl
  have g8 : WZ.cell? ⟨w.heap.size + 1, 8, none⟩ = some (.int .u64 x.stamp) := by rw [Lib.cell_of_heap bz]; rfl
  have g9 : WZ.cell? ⟨w.heap.size + 1, 9, none⟩ = some (.int .i64 x.num) := by rw [Lib.cell_of_heap bz]; rfl
  clear bz fz b0 b1 r1 hb hbW c0 k0
  go_enter Tryz.func48, Tryz.ntmps48
  go_upto_region 14 with fail
  try rw [hW]
  go_upto_region 19 with fail
  try rw [hW1]
  go_wp2_with fail
  try rw [hWZ]
  exact bodyPost_ret (v := .agg #[.int .i64 x.kind, .string x.temp, .string x.ka, .string x.kb, .int .i64 x.iff, .slice x.vp x.vo.length x.vc, .slice none 0 0, .slice x.pp x.po.length x.pc, .int .u64 x.stamp, .int .i64 x.num]) (by simp [results, Tryz.results48, go_sem, g0, g1, g2, g3, g4, g5, g6, g7, g8, g9]) rfl HFIN.out
set_option maxHeartbeats 4000000 in
theorem without9 (x : Ex) (w : World) : Calls Tryz.prog 48 #[aggEx x, .int .i64 9] w fun e w' => e = .returned (aggEx (wout x 9)) ∧ Below w.heap.size w w' := by
  unfold aggEx
  simp only [encEx, Ex.vs, Ex.es, Ex.ps]
  obtain ⟨W, hW⟩ : ∃ W, ((w.alloc (.cells #[.int .i64 x.kind, .string x.temp, .string x.ka, .string x.kb, .int .i64 x.iff, .slice x.vp x.vo.length x.vc, .slice x.ep x.eo.length x.ec, .slice x.pp x.po.length x.pc, .int .u64 x.stamp, .int .i64 x.num] 41)).alloc (.cells #[.int .i64 0, .string ⟨#[]⟩, .string ⟨#[]⟩, .string ⟨#[]⟩, .int .i64 0, .slice none 0 0, .slice none 0 0, .slice none 0 0, .int .u64 0, .int .i64 0] 41)) = W := ⟨_, rfl⟩
  obtain ⟨b0, b1, hb⟩ := w0_facts w x W hW
  have c0 : (W.setCell ⟨w.heap.size, 9, none⟩ (.int .i64 0)).heap[w.heap.size]? = some (.cells #[.int .i64 x.kind, .string x.temp, .string x.ka, .string x.kb, .int .i64 x.iff, .slice x.vp x.vo.length x.vc, .slice x.ep x.eo.length x.ec, .slice x.pp x.po.length x.pc, .int .u64 x.stamp, .int .i64 0] 41 (0, 0)) := heap_setCell_same _ w.heap.size 9 _ _ (.int .i64 0) b0
  have r1 : (W.setCell ⟨w.heap.size, 9, none⟩ (.int .i64 0)).heap[w.heap.size + 1]? = some (.cells #[.int .i64 0, .string ⟨#[]⟩, .string ⟨#[]⟩, .string ⟨#[]⟩, .int .i64 0, .slice none 0 0, .slice none 0 0, .slice none 0 0, .int .u64 0, .int .i64 0] 41 (0, 0)) := ((Below.heap_setCell _ _ _ _ (by show w.heap.size + 1 ≠ w.heap.size; omega)).trans b1)
  obtain ⟨W1, hW1⟩ : ∃ W1, (W.setCell ⟨w.heap.size, 9, none⟩ (.int .i64 0)) = W1 := ⟨_, rfl⟩
  rw [hW1] at c0 r1
  obtain ⟨WZ, hWZ⟩ : ∃ WZ, ((((((((((W1.setCell ⟨w.heap.size + 1, 0, none⟩ (.int .i64 x.kind)).setCell ⟨w.heap.size + 1, 1, none⟩ (.string x.temp)).setCell ⟨w.heap.size + 1, 2, none⟩ (.string x.ka)).setCell ⟨w.heap.size + 1, 3, none⟩ (.string x.kb)).setCell ⟨w.heap.size + 1, 4, none⟩ (.int .i64 x.iff)).setCell ⟨w.heap.size + 1, 5, none⟩ (.slice x.vp x.vo.length x.vc)).setCell ⟨w.heap.size + 1, 6, none⟩ (.slice x.ep x.eo.length x.ec)).setCell ⟨w.heap.size + 1, 7, none⟩ (.slice x.pp x.po.length x.pc)).setCell ⟨w.heap.size + 1, 8, none⟩ (.int .u64 x.stamp)).setCell ⟨w.heap.size + 1, 9, none⟩ (.int .i64 0)) = WZ := ⟨_, rfl⟩
  obtain ⟨bz, fz⟩ := out_ten r1 _ _ _ _ _ _ _ _ _ _ hWZ
  have hbW : Below w.heap.size w W1 := by rw [← hW1]; exact (hb.setCell (p := ⟨w.heap.size, 9, none⟩) (Nat.le_refl _) (.int .i64 0))
  have HFIN : Hid (Ending.returned (.agg #[.int .i64 x.kind, .string x.temp, .string x.ka, .string x.kb, .int .i64 x.iff, .slice x.vp x.vo.length x.vc, .slice x.ep x.eo.length x.ec, .slice x.pp x.po.length x.pc, .int .u64 x.stamp, .int .i64 0]) = .returned (.agg (encEx (wout x 9)).toArray) ∧ Below w.heap.size w WZ) := hid ⟨rfl, hbW.trans (fz.below hbW.size fun k hk => by omega)⟩
  have s0 : W.cell? ⟨w.heap.size, 9, none⟩ = some (.int .i64 x.num) := by rw [Lib.cell_of_heap b0]; rfl
  have f0 : W.frozen? ⟨w.heap.size, 9, none⟩ = false := Lib.frozen_of_heap b0 9
  have k0 : (W.setCell ⟨w.heap.size, 9, none⟩ (.int .i64 0)).heap[w.heap.size]? = some (.cells #[.int .i64 x.kind, .string x.temp, .string x.ka, .string x.kb, .int .i64 x.iff, .slice x.vp x.vo.length x.vc, .slice x.ep x.eo.length x.ec, .slice x.pp x.po.length x.pc, .int .u64 x.stamp, .int .i64 0] 41 (0, 0)) := heap_setCell_same _ w.heap.size 9 _ _ (.int .i64 0) b0
  have l0 : W1.cell? ⟨w.heap.size, 0, none⟩ = some (.int .i64 x.kind) := by rw [Lib.cell_of_heap c0]; rfl
  have l1 : W1.cell? ⟨w.heap.size, 1, none⟩ = some (.string x.temp) := by rw [Lib.cell_of_heap c0]; rfl
  have l2 : W1.cell? ⟨w.heap.size, 2, none⟩ = some (.string x.ka) := by rw [Lib.cell_of_heap c0]; rfl
  have l3 : W1.cell? ⟨w.heap.size, 3, none⟩ = some (.string x.kb) := by rw [Lib.cell_of_heap c0]; rfl
  have l4 : W1.cell? ⟨w.heap.size, 4, none⟩ = some (.int .i64 x.iff) := by rw [Lib.cell_of_heap c0]; rfl
  have l5 : W1.cell? ⟨w.heap.size, 5, none⟩ = some (.slice x.vp x.vo.length x.vc) := by rw [Lib.cell_of_heap c0]; rfl
  have l6 : W1.cell? ⟨w.heap.size, 6, none⟩ = some (.slice x.ep x.eo.length x.ec) := by rw [Lib.cell_of_heap c0]; rfl
  have l7 : W1.cell? ⟨w.heap.size, 7, none⟩ = some (.slice x.pp x.po.length x.pc) := by rw [Lib.cell_of_heap c0]; rfl
  have l8 : W1.cell? ⟨w.heap.size, 8, none⟩ = some (.int .u64 x.stamp) := by rw [Lib.cell_of_heap c0]; rfl
  have l9 : W1.cell? ⟨w.heap.size, 9, none⟩ = some (.int .i64 0) := by rw [Lib.cell_of_heap c0]; rfl
  have y0 : W1.cell? ⟨w.heap.size + 1, 0, none⟩ = some (.int .i64 0) := by rw [Lib.cell_of_heap r1]; rfl
  have z0 : W1.frozen? ⟨w.heap.size + 1, 0, none⟩ = false := Lib.frozen_of_heap r1 0
  have y1 : W1.cell? ⟨w.heap.size + 1, 1, none⟩ = some (.string ⟨#[]⟩) := by rw [Lib.cell_of_heap r1]; rfl
  have z1 : W1.frozen? ⟨w.heap.size + 1, 1, none⟩ = false := Lib.frozen_of_heap r1 1
  have y2 : W1.cell? ⟨w.heap.size + 1, 2, none⟩ = some (.string ⟨#[]⟩) := by rw [Lib.cell_of_heap r1]; rfl
  have z2 : W1.frozen? ⟨w.heap.size + 1, 2, none⟩ = false := Lib.frozen_of_heap r1 2
  have y3 : W1.cell? ⟨w.heap.size + 1, 3, none⟩ = some (.string ⟨#[]⟩) := by rw [Lib.cell_of_heap r1]; rfl
  have z3 : W1.frozen? ⟨w.heap.size + 1, 3, none⟩ = false := Lib.frozen_of_heap r1 3
  have y4 : W1.cell? ⟨w.heap.size + 1, 4, none⟩ = some (.int .i64 0) := by rw [Lib.cell_of_heap r1]; rfl
  have z4 : W1.frozen? ⟨w.heap.size + 1, 4, none⟩ = false := Lib.frozen_of_heap r1 4
  have y5 : W1.cell? ⟨w.heap.size + 1, 5, none⟩ = some (.slice none 0 0) := by rw [Lib.cell_of_heap r1]; rfl
  have z5 : W1.frozen? ⟨w.heap.size + 1, 5, none⟩ = false := Lib.frozen_of_heap r1 5
  have y6 : W1.cell? ⟨w.heap.size + 1, 6, none⟩ = some (.slice none 0 0) := by rw [Lib.cell_of_heap r1]; rfl
  have z6 : W1.frozen? ⟨w.heap.size + 1, 6, none⟩ = false := Lib.frozen_of_heap r1 6
  have y7 : W1.cell? ⟨w.heap.size + 1, 7, none⟩ = some (.slice none 0 0) := by rw [Lib.cell_of_heap r1]; rfl
  have z7 : W1.frozen? ⟨w.heap.size + 1, 7, none⟩ = false := Lib.frozen_of_heap r1 7
  have y8 : W1.cell? ⟨w.heap.size + 1, 8, none⟩ = some (.int .u64 0) := by rw [Lib.cell_of_heap r1]; rfl
  have z8 : W1.frozen? ⟨w.heap.size + 1, 8, none⟩ = false := Lib.frozen_of_heap r1 8
  have y9 : W1.cell? ⟨w.heap.size + 1, 9, none⟩ = some (.int .i64 0) := by rw [Lib.cell_of_heap r1]; rfl
  have z9 : W1.frozen? ⟨w.heap.size + 1, 9, none⟩ = false := Lib.frozen_of_heap r1 9
  have g0 : WZ.cell? ⟨w.heap.size + 1, 0, none⟩ = some (.int .i64 x.kind) := by rw [Lib.cell_of_heap bz]; rfl
  have g1 : WZ.cell? ⟨w.heap.size + 1, 1, none⟩ = some (.string x.temp) := by rw [Lib.cell_of_heap bz]; rfl
  have g2 : WZ.cell? ⟨w.heap.size + 1, 2, none⟩ = some (.string x.ka) := by rw [Lib.cell_of_heap bz]; rfl
  have g3 : WZ.cell? ⟨w.heap.size + 1, 3, none⟩ = some (.string x.kb) := by rw [Lib.cell_of_heap bz]; rfl
  have g4 : WZ.cell? ⟨w.heap.size + 1, 4, none⟩ = some (.int .i64 x.iff) := by rw [Lib.cell_of_heap bz]; rfl
  have g5 : WZ.cell? ⟨w.heap.size + 1, 5, none⟩ = some (.slice x.vp x.vo.length x.vc) := by rw [Lib.cell_of_heap bz]; rfl
  have g6 : WZ.cell? ⟨w.heap.size + 1, 6, none⟩ = some (.slice x.ep x.eo.length x.ec) := by rw [Lib.cell_of_heap bz]; rfl
  have g7 : WZ.cell? ⟨w.heap.size + 1, 7, none⟩ = some (.slice x.pp x.po.length x.pc) := by rw [Lib.cell_of_heap bz]; rfl
  have g8 : WZ.cell? ⟨w.heap.size + 1, 8, none⟩ = some (.int .u64 x.stamp) := by rw [Lib.cell_of_heap bz]; rfl
  have g9 : WZ.cell? ⟨w.heap.size + 1, 9, none⟩ = some (.int .i64 0) := by rw [Lib.cell_of_heap bz]; rfl
  clear bz fz b0 b1 r1 hb hbW c0 k0
  go_enter Tryz.func48, Tryz.ntmps48
  go_upto_region 16 with fail
  try rw [hW]
  go_upto_region 19 with fail
  try rw [hW1]
  go_wp2_with fail
  try rw [hWZ]
  exact bodyPost_ret (v := .agg #[.int .i64 x.kind, .string x.temp, .string x.ka, .string x.kb, .int .i64 x.iff, .slice x.vp x.vo.length x.vc, .slice x.ep x.eo.length x.ec, .slice x.pp x.po.length x.pc, .int .u64 x.stamp, .int .i64 0]) (by simp [results, Tryz.results48, go_sem, g0, g1, g2, g3, g4, g5, g6, g7, g8, g9]) rfl HFIN.out
set_option maxHeartbeats 4000000 in
theorem without10 (x : Ex) (w : World) : Calls Tryz.prog 48 #[aggEx x, .int .i64 10] w fun e w' => e = .returned (aggEx (wout x 10)) ∧ Below w.heap.size w w' := by
  unfold aggEx
  simp only [encEx, Ex.vs, Ex.es, Ex.ps]
  obtain ⟨W, hW⟩ : ∃ W, ((w.alloc (.cells #[.int .i64 x.kind, .string x.temp, .string x.ka, .string x.kb, .int .i64 x.iff, .slice x.vp x.vo.length x.vc, .slice x.ep x.eo.length x.ec, .slice x.pp x.po.length x.pc, .int .u64 x.stamp, .int .i64 x.num] 41)).alloc (.cells #[.int .i64 0, .string ⟨#[]⟩, .string ⟨#[]⟩, .string ⟨#[]⟩, .int .i64 0, .slice none 0 0, .slice none 0 0, .slice none 0 0, .int .u64 0, .int .i64 0] 41)) = W := ⟨_, rfl⟩
  obtain ⟨b0, b1, hb⟩ := w0_facts w x W hW
  have c0 : (W.setCell ⟨w.heap.size, 8, none⟩ (.int .u64 0)).heap[w.heap.size]? = some (.cells #[.int .i64 x.kind, .string x.temp, .string x.ka, .string x.kb, .int .i64 x.iff, .slice x.vp x.vo.length x.vc, .slice x.ep x.eo.length x.ec, .slice x.pp x.po.length x.pc, .int .u64 0, .int .i64 x.num] 41 (0, 0)) := heap_setCell_same _ w.heap.size 8 _ _ (.int .u64 0) b0
  have r1 : (W.setCell ⟨w.heap.size, 8, none⟩ (.int .u64 0)).heap[w.heap.size + 1]? = some (.cells #[.int .i64 0, .string ⟨#[]⟩, .string ⟨#[]⟩, .string ⟨#[]⟩, .int .i64 0, .slice none 0 0, .slice none 0 0, .slice none 0 0, .int .u64 0, .int .i64 0] 41 (0, 0)) := ((Below.heap_setCell _ _ _ _ (by show w.heap.size + 1 ≠ w.heap.size; omega)).trans b1)
  obtain ⟨W1, hW1⟩ : ∃ W1, (W.setCell ⟨w.heap.size, 8, none⟩ (.int .u64 0)) = W1 := ⟨_, rfl⟩
  rw [hW1] at c0 r1
  obtain ⟨WZ, hWZ⟩ : ∃ WZ, ((((((((((W1.setCell ⟨w.heap.size + 1, 0, none⟩ (.int .i64 x.kind)).setCell ⟨w.heap.size + 1, 1, none⟩ (.string x.temp)).setCell ⟨w.heap.size + 1, 2, none⟩ (.string x.ka)).setCell ⟨w.heap.size + 1, 3, none⟩ (.string x.kb)).setCell ⟨w.heap.size + 1, 4, none⟩ (.int .i64 x.iff)).setCell ⟨w.heap.size + 1, 5, none⟩ (.slice x.vp x.vo.length x.vc)).setCell ⟨w.heap.size + 1, 6, none⟩ (.slice x.ep x.eo.length x.ec)).setCell ⟨w.heap.size + 1, 7, none⟩ (.slice x.pp x.po.length x.pc)).setCell ⟨w.heap.size + 1, 8, none⟩ (.int .u64 0)).setCell ⟨w.heap.size + 1, 9, none⟩ (.int .i64 x.num)) = WZ := ⟨_, rfl⟩
  obtain ⟨bz, fz⟩ := out_ten r1 _ _ _ _ _ _ _ _ _ _ hWZ
  have hbW : Below w.heap.size w W1 := by rw [← hW1]; exact (hb.setCell (p := ⟨w.heap.size, 8, none⟩) (Nat.le_refl _) (.int .u64 0))
  have HFIN : Hid (Ending.returned (.agg #[.int .i64 x.kind, .string x.temp, .string x.ka, .string x.kb, .int .i64 x.iff, .slice x.vp x.vo.length x.vc, .slice x.ep x.eo.length x.ec, .slice x.pp x.po.length x.pc, .int .u64 0, .int .i64 x.num]) = .returned (.agg (encEx (wout x 10)).toArray) ∧ Below w.heap.size w WZ) := hid ⟨rfl, hbW.trans (fz.below hbW.size fun k hk => by omega)⟩
  have s0 : W.cell? ⟨w.heap.size, 8, none⟩ = some (.int .u64 x.stamp) := by rw [Lib.cell_of_heap b0]; rfl
  have f0 : W.frozen? ⟨w.heap.size, 8, none⟩ = false := Lib.frozen_of_heap b0 8
  have k0 : (W.setCell ⟨w.heap.size, 8, none⟩ (.int .u64 0)).heap[w.heap.size]? = some (.cells #[.int .i64 x.kind, .string x.temp, .string x.ka, .string x.kb, .int .i64 x.iff, .slice x.vp x.vo.length x.vc, .slice x.ep x.eo.length x.ec, .slice x.pp x.po.length x.pc, .int .u64 0, .int .i64 x.num] 41 (0, 0)) := heap_setCell_same _ w.heap.size 8 _ _ (.int .u64 0) b0
  have l0 : W1.cell? ⟨w.heap.size, 0, none⟩ = some (.int .i64 x.kind) := by rw [Lib.cell_of_heap c0]; rfl
  have l1 : W1.cell? ⟨w.heap.size, 1, none⟩ = some (.string x.temp) := by rw [Lib.cell_of_heap c0]; rfl
  have l2 : W1.cell? ⟨w.heap.size, 2, none⟩ = some (.string x.ka) := by rw [Lib.cell_of_heap c0]; rfl
  have l3 : W1.cell? ⟨w.heap.size, 3, none⟩ = some (.string x.kb) := by rw [Lib.cell_of_heap c0]; rfl
  have l4 : W1.cell? ⟨w.heap.size, 4, none⟩ = some (.int .i64 x.iff) := by rw [Lib.cell_of_heap c0]; rfl
  have l5 : W1.cell? ⟨w.heap.size, 5, none⟩ = some (.slice x.vp x.vo.length x.vc) := by rw [Lib.cell_of_heap c0]; rfl
  have l6 : W1.cell? ⟨w.heap.size, 6, none⟩ = some (.slice x.ep x.eo.length x.ec) := by rw [Lib.cell_of_heap c0]; rfl
  have l7 : W1.cell? ⟨w.heap.size, 7, none⟩ = some (.slice x.pp x.po.length x.pc) := by rw [Lib.cell_of_heap c0]; rfl
  have l8 : W1.cell? ⟨w.heap.size, 8, none⟩ = some (.int .u64 0) := by rw [Lib.cell_of_heap c0]; rfl
  have l9 : W1.cell? ⟨w.heap.size, 9, none⟩ = some (.int .i64 x.num) := by rw [Lib.cell_of_heap c0]; rfl
  have y0 : W1.cell? ⟨w.heap.size + 1, 0, none⟩ = some (.int .i64 0) := by rw [Lib.cell_of_heap r1]; rfl
  have z0 : W1.frozen? ⟨w.heap.size + 1, 0, none⟩ = false := Lib.frozen_of_heap r1 0
  have y1 : W1.cell? ⟨w.heap.size + 1, 1, none⟩ = some (.string ⟨#[]⟩) := by rw [Lib.cell_of_heap r1]; rfl
  have z1 : W1.frozen? ⟨w.heap.size + 1, 1, none⟩ = false := Lib.frozen_of_heap r1 1
  have y2 : W1.cell? ⟨w.heap.size + 1, 2, none⟩ = some (.string ⟨#[]⟩) := by rw [Lib.cell_of_heap r1]; rfl
  have z2 : W1.frozen? ⟨w.heap.size + 1, 2, none⟩ = false := Lib.frozen_of_heap r1 2
  have y3 : W1.cell? ⟨w.heap.size + 1, 3, none⟩ = some (.string ⟨#[]⟩) := by rw [Lib.cell_of_heap r1]; rfl
  have z3 : W1.frozen? ⟨w.heap.size + 1, 3, none⟩ = false := Lib.frozen_of_heap r1 3
  have y4 : W1.cell? ⟨w.heap.size + 1, 4, none⟩ = some (.int .i64 0) := by rw [Lib.cell_of_heap r1]; rfl
  have z4 : W1.frozen? ⟨w.heap.size + 1, 4, none⟩ = false := Lib.frozen_of_heap r1 4
  have y5 : W1.cell? ⟨w.heap.size + 1, 5, none⟩ = some (.slice none 0 0) := by rw [Lib.cell_of_heap r1]; rfl
  have z5 : W1.frozen? ⟨w.heap.size + 1, 5, none⟩ = false := Lib.frozen_of_heap r1 5
  have y6 : W1.cell? ⟨w.heap.size + 1, 6, none⟩ = some (.slice none 0 0) := by rw [Lib.cell_of_heap r1]; rfl
  have z6 : W1.frozen? ⟨w.heap.size + 1, 6, none⟩ = false := Lib.frozen_of_heap r1 6
  have y7 : W1.cell? ⟨w.heap.size + 1, 7, none⟩ = some (.slice none 0 0) := by rw [Lib.cell_of_heap r1]; rfl
  have z7 : W1.frozen? ⟨w.heap.size + 1, 7, none⟩ = false := Lib.frozen_of_heap r1 7
  have y8 : W1.cell? ⟨w.heap.size + 1, 8, none⟩ = some (.int .u64 0) := by rw [Lib.cell_of_heap r1]; rfl
  have z8 : W1.frozen? ⟨w.heap.size + 1, 8, none⟩ = false := Lib.frozen_of_heap r1 8
  have y9 : W1.cell? ⟨w.heap.size + 1, 9, none⟩ = some (.int .i64 0) := by rw [Lib.cell_of_heap r1]; rfl
  have z9 : W1.frozen? ⟨w.heap.size + 1, 9, none⟩ = false := Lib.frozen_of_heap r1 9
  have g0 : WZ.cell? ⟨w.heap.size + 1, 0, none⟩ = some (.int .i64 x.kind) := by rw [Lib.cell_of_heap bz]; rfl
  have g1 : WZ.cell? ⟨w.heap.size + 1, 1, none⟩ = some (.string x.temp) := by rw [Lib.cell_of_heap bz]; rfl
  have g2 : WZ.cell? ⟨w.heap.size + 1, 2, none⟩ = some (.string x.ka) := by rw [Lib.cell_of_heap bz]; rfl
  have g3 : WZ.cell? ⟨w.heap.size + 1, 3, none⟩ = some (.string x.kb) := by rw [Lib.cell_of_heap bz]; rfl
  have g4 : WZ.cell? ⟨w.heap.size + 1, 4, none⟩ = some (.int .i64 x.iff) := by rw [Lib.cell_of_heap bz]; rfl
  have g5 : WZ.cell? ⟨w.heap.size + 1, 5, none⟩ = some (.slice x.vp x.vo.length x.vc) := by rw [Lib.cell_of_heap bz]; rfl
  have g6 : WZ.cell? ⟨w.heap.size + 1, 6, none⟩ = some (.slice x.ep x.eo.length x.ec) := by rw [Lib.cell_of_heap bz]; rfl
  have g7 : WZ.cell? ⟨w.heap.size + 1, 7, none⟩ = some (.slice x.pp x.po.length x.pc) := by rw [Lib.cell_of_heap bz]; rfl
  have g8 : WZ.cell? ⟨w.heap.size + 1, 8, none⟩ = some (.int .u64 0) := by rw [Lib.cell_of_heap bz]; rfl
  have g9 : WZ.cell? ⟨w.heap.size + 1, 9, none⟩ = some (.int .i64 x.num) := by rw [Lib.cell_of_heap bz]; rfl
  clear bz fz b0 b1 r1 hb hbW c0 k0
  go_enter Tryz.func48, Tryz.ntmps48
  go_upto_region 18 with fail
  try rw [hW]
  go_upto_region 19 with fail
  try rw [hW1]
  go_wp2_with fail
  try rw [hWZ]
  exact bodyPost_ret (v := .agg #[.int .i64 x.kind, .string x.temp, .string x.ka, .string x.kb, .int .i64 x.iff, .slice x.vp x.vo.length x.vc, .slice x.ep x.eo.length x.ec, .slice x.pp x.po.length x.pc, .int .u64 0, .int .i64 x.num]) (by simp [results, Tryz.results48, go_sem, g0, g1, g2, g3, g4, g5, g6, g7, g8, g9]) rfl HFIN.out
theorem without_any (x : Ex) (p : Nat) (w : World) (h1 : 1 ≤ p) (h2 : p ≤ 10) : Calls Tryz.prog 48 #[aggEx x, .int .i64 p] w fun e w' => e = .returned (aggEx (wout x p)) ∧ Below w.heap.size w w' := by
  have hp : p = 1 ∨ p = 2 ∨ p = 3 ∨ p = 4 ∨ p = 5 ∨ p = 6 ∨ p = 7 ∨ p = 8 ∨ p = 9 ∨ p = 10 := by omega
  rcases hp with rfl | rfl | rfl | rfl | rfl | rfl | rfl | rfl | rfl | rfl
  · exact without1 x w
  · exact without2 x w
  · exact without3 x w
  · exact without4 x w
  · exact without5 x w
  · exact without6 x w
  · exact without7 x w
  · exact without8 x w
  · exact without9 x w
  · exact without10 x w
end Go.Proofs.YtpdccbeeoapplaaGreatDoor

namespace Go.Proofs.YtpdccbeeoapplaaGreatDoor
open Go.RowKit Go.Sort Go.Lib
theorem eql_keyQ (a b c d : ByteArray) (w : World) : (binOp .eql 35 (.agg #[.string a, .string b]) (.agg #[.string c, .string d])).run Tryz.prog w = .ok (.bool (decide (a = c ∧ b = d))) w := by
  have hS : Tryz.prog.underlying 35 = some (.struct (Tryz.prog.fieldsOf 35)) := by kernel_rfl
  have hp : Tryz.prog.stoodInHeld 35 = false := by kernel_rfl
  have u9 := Tryz.underlying9
  have a9 := Tryz.isAgg9
  have z9 := Tryz.sizeOf9
  rw [run_eql_struct, show (10000 : Nat) = 9999 + 1 from rfl, run_equalIn_agg w 9999 35 _ _ hS hp]
  simp only [Program.fieldsOf, Tryz.underlying35]
  go_simp
  by_cases h1 : a = c
  · subst h1
    by_cases h3 : b = d
    · subst h3; simp
    · have e3 := beq_eq_false_iff_ne.1 (seq_false h3)
      simp [h3, e3]
  · have e1 := beq_eq_false_iff_ne.1 (seq_false h1)
    simp [h1, e1]
theorem neqE_at : NeqAt Tryz.prog 49 (fun x : Ed => .agg (encE x).toArray) (fun x y => decide (x = y)) :=
  ⟨fun x y w => neq_edit x y w, GuardAt.agg (fun x : Ed => (encE x).toArray) (by kernel_rfl)⟩
theorem allEqE : ∀ (p q : List Ed), Lib.allEq (fun x y => decide (x = y)) p q = decide (p = q)
  | [], [] => rfl
  | [], y :: q => by simp [Lib.allEq]
  | x :: p, [] => by simp [Lib.allEq]
  | x :: p, y :: q => by
    have := allEqE p q
    unfold Lib.allEq
    rw [this]
    by_cases h1 : x = y <;> by_cases h2 : p = q <;> simp [h1, h2]
set_option maxHeartbeats 1000000 in
theorem eqE_none1 (q1 q2 : Option Addr) (c1 c2 m : Nat) (hm : m ≤ maxLen) (w : World) :
    Calls Tryz.prog 57 #[.slice q1 0 c1, .slice q2 m c2] w fun e w' => e = .returned (.bool (decide (m = 0))) ∧ w' = w := by
  unfold maxLen at hm
  by_cases h0 : m = 0
  · subst h0
    go_enter Tryz.func57, Tryz.ntmps57
    go_wp2_with fail
    refine wp_loop_rounds 1 ?_
    rw [rounds_succ]
    go_wp2_with fail
    go_ret
    exact ⟨rfl, rfl⟩
  · have hz : ((0 : Int) != (m : Int)) = true := by simp; omega
    have hd := decide_eq_false h0
    rw [hd]
    go_enter Tryz.func57, Tryz.ntmps57
    go_wp2_with fail
    go_ret
    exact ⟨rfl, rfl⟩
set_option maxHeartbeats 1000000 in
theorem eqE_none2 (q1 q2 : Option Addr) (c1 c2 m : Nat) (hm : m ≠ 0) (w : World) :
    Calls Tryz.prog 57 #[.slice q1 m c1, .slice q2 0 c2] w fun e w' => e = .returned (.bool false) ∧ w' = w := by
  have hz : ((m : Int) != 0) = true := by simp; omega
  go_enter Tryz.func57, Tryz.ntmps57
  go_wp2_with fail
  go_ret
  exact ⟨rfl, rfl⟩
theorem eqE_any (v u : Value) (p q : List Ed) (w : World) (hv : KE.Is w v p) (hu : KE.Is w u q) (hl1 : p.length ≤ maxLen) (hl2 : q.length ≤ maxLen) :
    Calls Tryz.prog 57 #[v, u] w fun e w' => e = .returned (.bool (decide (p = q))) ∧ Below w.heap.size w w' := by
  obtain ⟨a1, k1, rfl, hd1⟩ := hv
  obtain ⟨a2, k2, rfl, hd2⟩ := hu
  by_cases h1 : p = []
  · subst h1
    refine (eqE_none1 a1 a2 k1 k2 q.length hl2 w).mono ?_
    rintro e w' ⟨rfl, rfl⟩
    refine ⟨ret_bool ?_, Below.refl _ _⟩
    cases q <;> simp
  · by_cases h2 : q = []
    · subst h2
      refine (eqE_none2 a1 a2 k1 k2 p.length (fun e => h1 (List.length_eq_zero_iff.1 e)) w).mono ?_
      rintro e w' ⟨rfl, rfl⟩
      exact ⟨ret_bool (by rw [decide_eq_false h1]), Below.refl _ _⟩
    · rcases hd1 with hd1 | ⟨b1, o1, rfl, x1⟩
      · exact absurd hd1 h1
      · rcases hd2 with hd2 | ⟨b2, o2, rfl, x2⟩
        · exact absurd hd2 h2
        · unfold maxLen at hl1 hl2
          have hc := AnyQ.slices_Equal (α := Ed) Tryz.eqEdt 3 Tryz.isAgg49 Tryz.sizeOf49 encE (fun _ => rfl) (fun x y => decide (x = y)) neqE_at b1 o1 p.length k1 b2 o2 q.length k2 p q w (Nat.le_refl _) (Nat.le_refl _) (by omega) (by omega)
            (fun j hj i v hv => by rw [getElem!_pos p j hj] at hv; exact ke_enc x1 j hj i v hv) (fun j hj i v hv => by rw [getElem!_pos q j hj] at hv; exact ke_enc x2 j hj i v hv)
          change Calls Tryz.prog 57 _ _ _ at hc
          refine hc.mono ?_
          rintro e w' ⟨rfl, n, rfl⟩
          exact ⟨ret_bool (by rw [List.take_length, List.take_length, allEqE]), bel_drewN (Below.refl _ _) n⟩
instance : DecidableEq En := fun a b =>
  decidable_of_iff (a.kind = b.kind ∧ a.temp = b.temp ∧ (a.ka = b.ka ∧ a.kb = b.kb) ∧ a.iff = b.iff ∧ a.stamp = b.stamp ∧ a.num = b.num ∧ a.val = b.val ∧ a.eds = b.eds ∧ a.pred = b.pred) (by
    cases a; cases b
    simp only [En.mk.injEq]
    constructor
    · rintro ⟨h1, h2, ⟨h3, h4⟩, h5, h6, h7, h8, h9, h10⟩; exact ⟨h1, h2, h3, h4, h5, h8, h9, h10, h6, h7⟩
    · rintro ⟨h1, h2, h3, h4, h5, h8, h9, h10, h6, h7⟩; exact ⟨h1, h2, ⟨h3, h4⟩, h5, h6, h7, h8, h9, h10⟩)
theorem en_eq (a b : En) : a = b ↔ (a.kind = b.kind ∧ a.temp = b.temp ∧ (a.ka = b.ka ∧ a.kb = b.kb) ∧ a.iff = b.iff ∧ a.stamp = b.stamp ∧ a.num = b.num ∧ a.val = b.val ∧ a.eds = b.eds ∧ a.pred = b.pred) := by
    cases a; cases b
    simp only [En.mk.injEq]
    constructor
    · rintro ⟨h1, h2, h3, h4, h5, h8, h9, h10, h6, h7⟩; exact ⟨h1, h2, ⟨h3, h4⟩, h5, h6, h7, h8, h9, h10⟩
    · rintro ⟨h1, h2, ⟨h3, h4⟩, h5, h6, h7, h8, h9, h10⟩; exact ⟨h1, h2, h3, h4, h5, h8, h9, h10, h6, h7⟩
set_option maxHeartbeats 8000000 in
set_option maxRecDepth 100000 in
theorem opsame_any (x y : Ex) (w : World) (hx : ExIn w x) (hy : ExIn w y) :
    Calls Tryz.prog 28 #[aggEx x, aggEx y] w fun e w' => e = .returned (.bool (decide (x.en = y.en))) ∧ Below w.heap.size w w' := by
  obtain ⟨W, hW⟩ : ∃ W, (w.alloc (.cells (encEx x).toArray 41)).alloc (.cells (encEx y).toArray 41) = W := ⟨_, rfl⟩
  have hbl : Below w.heap.size w W := by rw [← hW]; exact ((Below.refl _ _).alloc (Nat.le_refl _) _).alloc (by simp) _
  have b0 : W.heap[w.heap.size]? = some (.cells (encEx x).toArray 41 (0, 0)) := by
    rw [← hW, Below.heap_alloc _ _ _ (by simp)]; exact heap_alloc_new w _
  have b1 : W.heap[w.heap.size + 1]? = some (.cells (encEx y).toArray 41 (0, 0)) := by
    rw [← hW]
    have := heap_alloc_new (w.alloc (.cells (encEx x).toArray 41)) (.cells (encEx y).toArray 41)
    simpa using this
  have HX := hid (hx.on hbl)
  have HY := hid (hy.on hbl)
  have HB := hid hbl
  have HB0 := hid b0
  have HB1 := hid b1
  have HEV := hid (equal_any x.vs y.vs x.vo y.vo W HX.out.val HY.out.val HX.out.fit HY.out.fit)
  have HEE : Hid (∀ V, Below W.heap.size W V → Calls Tryz.prog 57 #[x.es, y.es] V fun e w' => e = .returned (.bool (decide (x.eo = y.eo))) ∧ Below V.heap.size V w') := hid fun V h => eqE_any x.es y.es x.eo y.eo V (Kind.is_kept HX.out.eds h) (Kind.is_kept HY.out.eds h) HX.out.efit.1 HY.out.efit.1
  have HEP : Hid (∀ V, Below W.heap.size W V → Calls Tryz.prog 58 #[x.ps, y.ps] V fun e w' => e = .returned (.bool (decide (x.po = y.po))) ∧ Below V.heap.size V w') := hid fun V h => pequal_any x.ps y.ps x.po y.po V (Kind.is_kept HX.out.prd h) (Kind.is_kept HY.out.prd h) HX.out.pfit.1 HY.out.pfit.1
  have HD : Hid (decide (x.en = y.en) = decide (x.kind = y.kind ∧ x.temp = y.temp ∧ (x.ka = y.ka ∧ x.kb = y.kb) ∧ x.iff = y.iff ∧ x.stamp = y.stamp ∧ x.num = y.num ∧ x.vo.map Fx.fld = y.vo.map Fx.fld ∧ x.eo = y.eo ∧ x.po = y.po)) := hid (by
    rw [decide_eq_decide]; exact en_eq x.en y.en)
  have HKQ := hid (eql_keyQ x.ka x.kb y.ka y.kb)
  unfold aggEx
  simp only [encEx, Ex.vs, Ex.es, Ex.ps] at HB0 HB1 HEV HEE HEP hW ⊢
  clear b0 b1 hbl hx hy
  have hc : ∀ V, Below W.heap.size W V → V.heap[w.heap.size]? = W.heap[w.heap.size]? ∧ V.heap[w.heap.size + 1]? = W.heap[w.heap.size + 1]? := fun V h =>
    ⟨h.block _ (Array.getElem?_eq_some_iff.1 HB0.out).1, h.block _ (Array.getElem?_eq_some_iff.1 HB1.out).1⟩
  have HC := hid hc
  clear hc
  have x0 : W.cell? ⟨w.heap.size, 0, none⟩ = some (.int .i64 x.kind) := by rw [Lib.cell_of_heap HB0.out]; rfl
  have v0 : W.cell? ⟨w.heap.size + 1, 0, none⟩ = some (.int .i64 y.kind) := by rw [Lib.cell_of_heap HB1.out]; rfl
  have x1 : W.cell? ⟨w.heap.size, 1, none⟩ = some (.string x.temp) := by rw [Lib.cell_of_heap HB0.out]; rfl
  have v1 : W.cell? ⟨w.heap.size + 1, 1, none⟩ = some (.string y.temp) := by rw [Lib.cell_of_heap HB1.out]; rfl
  have x2 : W.cell? ⟨w.heap.size, 2, none⟩ = some (.string x.ka) := by rw [Lib.cell_of_heap HB0.out]; rfl
  have v2 : W.cell? ⟨w.heap.size + 1, 2, none⟩ = some (.string y.ka) := by rw [Lib.cell_of_heap HB1.out]; rfl
  have x3 : W.cell? ⟨w.heap.size, 3, none⟩ = some (.string x.kb) := by rw [Lib.cell_of_heap HB0.out]; rfl
  have v3 : W.cell? ⟨w.heap.size + 1, 3, none⟩ = some (.string y.kb) := by rw [Lib.cell_of_heap HB1.out]; rfl
  have x4 : W.cell? ⟨w.heap.size, 4, none⟩ = some (.int .i64 x.iff) := by rw [Lib.cell_of_heap HB0.out]; rfl
  have v4 : W.cell? ⟨w.heap.size + 1, 4, none⟩ = some (.int .i64 y.iff) := by rw [Lib.cell_of_heap HB1.out]; rfl
  have x5 : W.cell? ⟨w.heap.size, 5, none⟩ = some (.slice x.vp x.vo.length x.vc) := by rw [Lib.cell_of_heap HB0.out]; rfl
  have v5 : W.cell? ⟨w.heap.size + 1, 5, none⟩ = some (.slice y.vp y.vo.length y.vc) := by rw [Lib.cell_of_heap HB1.out]; rfl
  have x6 : W.cell? ⟨w.heap.size, 6, none⟩ = some (.slice x.ep x.eo.length x.ec) := by rw [Lib.cell_of_heap HB0.out]; rfl
  have v6 : W.cell? ⟨w.heap.size + 1, 6, none⟩ = some (.slice y.ep y.eo.length y.ec) := by rw [Lib.cell_of_heap HB1.out]; rfl
  have x7 : W.cell? ⟨w.heap.size, 7, none⟩ = some (.slice x.pp x.po.length x.pc) := by rw [Lib.cell_of_heap HB0.out]; rfl
  have v7 : W.cell? ⟨w.heap.size + 1, 7, none⟩ = some (.slice y.pp y.po.length y.pc) := by rw [Lib.cell_of_heap HB1.out]; rfl
  have x8 : W.cell? ⟨w.heap.size, 8, none⟩ = some (.int .u64 x.stamp) := by rw [Lib.cell_of_heap HB0.out]; rfl
  have v8 : W.cell? ⟨w.heap.size + 1, 8, none⟩ = some (.int .u64 y.stamp) := by rw [Lib.cell_of_heap HB1.out]; rfl
  have x9 : W.cell? ⟨w.heap.size, 9, none⟩ = some (.int .i64 x.num) := by rw [Lib.cell_of_heap HB0.out]; rfl
  have v9 : W.cell? ⟨w.heap.size + 1, 9, none⟩ = some (.int .i64 y.num) := by rw [Lib.cell_of_heap HB1.out]; rfl
  by_cases h_kind : x.kind = y.kind
  case neg =>
    have q_kind : (x.kind == y.kind) = false := beq_eq_false_iff_ne.2 h_kind
    have HF : Hid (decide (x.kind = y.kind ∧ x.temp = y.temp ∧ (x.ka = y.ka ∧ x.kb = y.kb) ∧ x.iff = y.iff ∧ x.stamp = y.stamp ∧ x.num = y.num ∧ x.vo.map Fx.fld = y.vo.map Fx.fld ∧ x.eo = y.eo ∧ x.po = y.po) = false) := hid (decide_eq_false fun q => h_kind q.1)
    have H_kind := hid h_kind
    clear h_kind
    go_enter Tryz.func28, Tryz.ntmps28
    go_upto_region 1 with fail
    try rw [hW]
    go_wp2_with fail
    go_ret
    exact ⟨by rw [HD.out, HF.out]; rfl, HB.out⟩
  have q_kind : (x.kind == y.kind) = true := beq_iff_eq.2 h_kind
  by_cases h_temp : x.temp = y.temp
  case neg =>
    have q_temp : (x.temp.toList == y.temp.toList) = false := seq_false h_temp
    have HF : Hid (decide (x.kind = y.kind ∧ x.temp = y.temp ∧ (x.ka = y.ka ∧ x.kb = y.kb) ∧ x.iff = y.iff ∧ x.stamp = y.stamp ∧ x.num = y.num ∧ x.vo.map Fx.fld = y.vo.map Fx.fld ∧ x.eo = y.eo ∧ x.po = y.po) = false) := hid (decide_eq_false fun q => h_temp q.2.1)
    have H_kind := hid h_kind
    clear h_kind
    have H_temp := hid h_temp
    clear h_temp
    go_enter Tryz.func28, Tryz.ntmps28
    go_upto_region 1 with fail
    try rw [hW]
    go_wp2_with fail
    go_ret
    exact ⟨by rw [HD.out, HF.out]; rfl, HB.out⟩
  have q_temp : (x.temp.toList == y.temp.toList) = true := seq_true h_temp
  by_cases h_key : (x.ka = y.ka ∧ x.kb = y.kb)
  case neg =>
    have q_key : ∀ V, (binOp .eql 35 (.agg #[.string x.ka, .string x.kb]) (.agg #[.string y.ka, .string y.kb])).run Tryz.prog V = .ok (.bool false) V := fun V => by rw [HKQ.out V, decide_eq_false h_key]
    have HF : Hid (decide (x.kind = y.kind ∧ x.temp = y.temp ∧ (x.ka = y.ka ∧ x.kb = y.kb) ∧ x.iff = y.iff ∧ x.stamp = y.stamp ∧ x.num = y.num ∧ x.vo.map Fx.fld = y.vo.map Fx.fld ∧ x.eo = y.eo ∧ x.po = y.po) = false) := hid (decide_eq_false fun q => h_key q.2.2.1)
    have H_kind := hid h_kind
    clear h_kind
    have H_temp := hid h_temp
    clear h_temp
    have H_key := hid h_key
    clear h_key
    go_enter Tryz.func28, Tryz.ntmps28
    go_upto_region 1 with fail
    try rw [hW]
    go_wp2_with fail
    go_ret
    exact ⟨by rw [HD.out, HF.out]; rfl, HB.out⟩
  have q_key : ∀ V, (binOp .eql 35 (.agg #[.string x.ka, .string x.kb]) (.agg #[.string y.ka, .string y.kb])).run Tryz.prog V = .ok (.bool true) V := fun V => by rw [HKQ.out V, decide_eq_true h_key]
  by_cases h_iff : x.iff = y.iff
  case neg =>
    have q_iff : (x.iff == y.iff) = false := beq_eq_false_iff_ne.2 h_iff
    have HF : Hid (decide (x.kind = y.kind ∧ x.temp = y.temp ∧ (x.ka = y.ka ∧ x.kb = y.kb) ∧ x.iff = y.iff ∧ x.stamp = y.stamp ∧ x.num = y.num ∧ x.vo.map Fx.fld = y.vo.map Fx.fld ∧ x.eo = y.eo ∧ x.po = y.po) = false) := hid (decide_eq_false fun q => h_iff q.2.2.2.1)
    have H_kind := hid h_kind
    clear h_kind
    have H_temp := hid h_temp
    clear h_temp
    have H_key := hid h_key
    clear h_key
    have H_iff := hid h_iff
    clear h_iff
    go_enter Tryz.func28, Tryz.ntmps28
    go_upto_region 1 with fail
    try rw [hW]
    go_wp2_with fail
    go_ret
    exact ⟨by rw [HD.out, HF.out]; rfl, HB.out⟩
  have q_iff : (x.iff == y.iff) = true := beq_iff_eq.2 h_iff
  by_cases h_stamp : x.stamp = y.stamp
  case neg =>
    have q_stamp : (x.stamp == y.stamp) = false := beq_eq_false_iff_ne.2 h_stamp
    have HF : Hid (decide (x.kind = y.kind ∧ x.temp = y.temp ∧ (x.ka = y.ka ∧ x.kb = y.kb) ∧ x.iff = y.iff ∧ x.stamp = y.stamp ∧ x.num = y.num ∧ x.vo.map Fx.fld = y.vo.map Fx.fld ∧ x.eo = y.eo ∧ x.po = y.po) = false) := hid (decide_eq_false fun q => h_stamp q.2.2.2.2.1)
    have H_kind := hid h_kind
    clear h_kind
    have H_temp := hid h_temp
    clear h_temp
    have H_key := hid h_key
    clear h_key
    have H_iff := hid h_iff
    clear h_iff
    have H_stamp := hid h_stamp
    clear h_stamp
    go_enter Tryz.func28, Tryz.ntmps28
    go_upto_region 1 with fail
    try rw [hW]
    go_wp2_with fail
    go_ret
    exact ⟨by rw [HD.out, HF.out]; rfl, HB.out⟩
  have q_stamp : (x.stamp == y.stamp) = true := beq_iff_eq.2 h_stamp
  by_cases h_num : x.num = y.num
  case neg =>
    have q_num : (x.num == y.num) = false := beq_eq_false_iff_ne.2 h_num
    have HF : Hid (decide (x.kind = y.kind ∧ x.temp = y.temp ∧ (x.ka = y.ka ∧ x.kb = y.kb) ∧ x.iff = y.iff ∧ x.stamp = y.stamp ∧ x.num = y.num ∧ x.vo.map Fx.fld = y.vo.map Fx.fld ∧ x.eo = y.eo ∧ x.po = y.po) = false) := hid (decide_eq_false fun q => h_num q.2.2.2.2.2.1)
    have H_kind := hid h_kind
    clear h_kind
    have H_temp := hid h_temp
    clear h_temp
    have H_key := hid h_key
    clear h_key
    have H_iff := hid h_iff
    clear h_iff
    have H_stamp := hid h_stamp
    clear h_stamp
    have H_num := hid h_num
    clear h_num
    go_enter Tryz.func28, Tryz.ntmps28
    go_upto_region 1 with fail
    try rw [hW]
    go_wp2_with fail
    go_ret
    exact ⟨by rw [HD.out, HF.out]; rfl, HB.out⟩
  have q_num : (x.num == y.num) = true := beq_iff_eq.2 h_num
  have HALL : Hid (decide (x.kind = y.kind ∧ x.temp = y.temp ∧ (x.ka = y.ka ∧ x.kb = y.kb) ∧ x.iff = y.iff ∧ x.stamp = y.stamp ∧ x.num = y.num ∧ x.vo.map Fx.fld = y.vo.map Fx.fld ∧ x.eo = y.eo ∧ x.po = y.po) = decide (x.vo.map Fx.fld = y.vo.map Fx.fld ∧ x.eo = y.eo ∧ x.po = y.po)) := hid (by rw [decide_eq_decide]; exact ⟨fun q => q.2.2.2.2.2.2, fun q => ⟨h_kind, h_temp, h_key, h_iff, h_stamp, h_num, q⟩⟩)
  clear h_kind h_temp h_key h_iff h_stamp h_num
  by_cases h_val : x.vo.map Fx.fld = y.vo.map Fx.fld
  case neg =>
    have q_val := decide_eq_false h_val
    have HF : Hid (decide (x.vo.map Fx.fld = y.vo.map Fx.fld ∧ x.eo = y.eo ∧ x.po = y.po) = false) := hid (decide_eq_false fun q => h_val q.1)
    clear h_val
    go_enter Tryz.func28, Tryz.ntmps28
    go_upto_region 1 with fail
    try rw [hW]
    go_wp2_with (go_at_call 56; refine HEV.out.mono ?_; rintro e W1 ⟨rfl, hb1⟩; have HB2 := hid hb1.below; clear hb1; obtain ⟨d0, d1⟩ := HC.out W1 HB2.out; have eW16 : W1.cell? ⟨w.heap.size, 6, none⟩ = some (.slice x.ep x.eo.length x.ec) := (by rw [Lib.cell_of_heap (d0.trans HB0.out)]; rfl); have gW16 : W1.cell? ⟨w.heap.size + 1, 6, none⟩ = some (.slice y.ep y.eo.length y.ec) := (by rw [Lib.cell_of_heap (d1.trans HB1.out)]; rfl); have eW17 : W1.cell? ⟨w.heap.size, 7, none⟩ = some (.slice x.pp x.po.length x.pc) := (by rw [Lib.cell_of_heap (d0.trans HB0.out)]; rfl); have gW17 : W1.cell? ⟨w.heap.size + 1, 7, none⟩ = some (.slice y.pp y.po.length y.pc) := (by rw [Lib.cell_of_heap (d1.trans HB1.out)]; rfl); rw [q_val])
    go_ret
    exact ⟨by rw [HD.out, HALL.out, HF.out]; rfl, HB.out.trans (HB2.out.mono HB.out.size)⟩
  have q_val := decide_eq_true h_val
  by_cases h_eds : x.eo = y.eo
  case neg =>
    have q_eds := decide_eq_false h_eds
    have HF : Hid (decide (x.vo.map Fx.fld = y.vo.map Fx.fld ∧ x.eo = y.eo ∧ x.po = y.po) = false) := hid (decide_eq_false fun q => h_eds q.2.1)
    clear h_eds h_val
    go_enter Tryz.func28, Tryz.ntmps28
    go_upto_region 1 with fail
    try rw [hW]
    go_wp2_with (first | (go_at_call 56; refine HEV.out.mono ?_; rintro e W1 ⟨rfl, hb1⟩; have HB2 := hid hb1.below; clear hb1; obtain ⟨d0, d1⟩ := HC.out W1 HB2.out; have eW16 : W1.cell? ⟨w.heap.size, 6, none⟩ = some (.slice x.ep x.eo.length x.ec) := (by rw [Lib.cell_of_heap (d0.trans HB0.out)]; rfl); have gW16 : W1.cell? ⟨w.heap.size + 1, 6, none⟩ = some (.slice y.ep y.eo.length y.ec) := (by rw [Lib.cell_of_heap (d1.trans HB1.out)]; rfl); have eW17 : W1.cell? ⟨w.heap.size, 7, none⟩ = some (.slice x.pp x.po.length x.pc) := (by rw [Lib.cell_of_heap (d0.trans HB0.out)]; rfl); have gW17 : W1.cell? ⟨w.heap.size + 1, 7, none⟩ = some (.slice y.pp y.po.length y.pc) := (by rw [Lib.cell_of_heap (d1.trans HB1.out)]; rfl); rw [q_val]) | (go_at_call 57; refine (HEE.out W1 HB2.out).mono ?_; rintro e W2 ⟨rfl, hb2⟩; have HB3 := hid (HB2.out.trans (hb2.mono HB2.out.size)); clear hb2; obtain ⟨d2, d3⟩ := HC.out W2 HB3.out; have eW26 : W2.cell? ⟨w.heap.size, 6, none⟩ = some (.slice x.ep x.eo.length x.ec) := (by rw [Lib.cell_of_heap (d2.trans HB0.out)]; rfl); have gW26 : W2.cell? ⟨w.heap.size + 1, 6, none⟩ = some (.slice y.ep y.eo.length y.ec) := (by rw [Lib.cell_of_heap (d3.trans HB1.out)]; rfl); have eW27 : W2.cell? ⟨w.heap.size, 7, none⟩ = some (.slice x.pp x.po.length x.pc) := (by rw [Lib.cell_of_heap (d2.trans HB0.out)]; rfl); have gW27 : W2.cell? ⟨w.heap.size + 1, 7, none⟩ = some (.slice y.pp y.po.length y.pc) := (by rw [Lib.cell_of_heap (d3.trans HB1.out)]; rfl); rw [q_eds]))
    go_ret
    exact ⟨by rw [HD.out, HALL.out, HF.out]; rfl, HB.out.trans (HB3.out.mono HB.out.size)⟩
  have q_eds := decide_eq_true h_eds
  have HF : Hid (decide (x.vo.map Fx.fld = y.vo.map Fx.fld ∧ x.eo = y.eo ∧ x.po = y.po) = decide (x.po = y.po)) := hid (by rw [decide_eq_decide]; exact ⟨fun q => q.2.2, fun q => ⟨h_val, h_eds, q⟩⟩)
  clear h_eds h_val
  all_goals
    go_enter Tryz.func28, Tryz.ntmps28
    go_upto_region 1 with fail
    try rw [hW]
    go_wp2_with (first | (go_at_call 56; refine HEV.out.mono ?_; rintro e W1 ⟨rfl, hb1⟩; have HB2 := hid hb1.below; clear hb1; obtain ⟨d0, d1⟩ := HC.out W1 HB2.out; have eW16 : W1.cell? ⟨w.heap.size, 6, none⟩ = some (.slice x.ep x.eo.length x.ec) := (by rw [Lib.cell_of_heap (d0.trans HB0.out)]; rfl); have gW16 : W1.cell? ⟨w.heap.size + 1, 6, none⟩ = some (.slice y.ep y.eo.length y.ec) := (by rw [Lib.cell_of_heap (d1.trans HB1.out)]; rfl); have eW17 : W1.cell? ⟨w.heap.size, 7, none⟩ = some (.slice x.pp x.po.length x.pc) := (by rw [Lib.cell_of_heap (d0.trans HB0.out)]; rfl); have gW17 : W1.cell? ⟨w.heap.size + 1, 7, none⟩ = some (.slice y.pp y.po.length y.pc) := (by rw [Lib.cell_of_heap (d1.trans HB1.out)]; rfl); rw [q_val]) | (go_at_call 57; refine (HEE.out W1 HB2.out).mono ?_; rintro e W2 ⟨rfl, hb2⟩; have HB3 := hid (HB2.out.trans (hb2.mono HB2.out.size)); clear hb2; obtain ⟨d2, d3⟩ := HC.out W2 HB3.out; have eW26 : W2.cell? ⟨w.heap.size, 6, none⟩ = some (.slice x.ep x.eo.length x.ec) := (by rw [Lib.cell_of_heap (d2.trans HB0.out)]; rfl); have gW26 : W2.cell? ⟨w.heap.size + 1, 6, none⟩ = some (.slice y.ep y.eo.length y.ec) := (by rw [Lib.cell_of_heap (d3.trans HB1.out)]; rfl); have eW27 : W2.cell? ⟨w.heap.size, 7, none⟩ = some (.slice x.pp x.po.length x.pc) := (by rw [Lib.cell_of_heap (d2.trans HB0.out)]; rfl); have gW27 : W2.cell? ⟨w.heap.size + 1, 7, none⟩ = some (.slice y.pp y.po.length y.pc) := (by rw [Lib.cell_of_heap (d3.trans HB1.out)]; rfl); rw [q_eds]) | (go_at_call 58; refine (HEP.out W2 HB3.out).mono ?_; rintro e W3 ⟨rfl, hb3⟩; have HB4 := hid (HB3.out.trans (hb3.mono HB3.out.size)); clear hb3))
    go_ret
    exact ⟨by rw [HD.out, HALL.out, HF.out]; rfl, HB.out.trans (HB4.out.mono HB.out.size)⟩
end Go.Proofs.YtpdccbeeoapplaaGreatDoor

namespace Go.Proofs.YtpdccbeeoapplaaGreatDoor
open Go.RowKit Go.Lib
theorem OwnQ.ex {n : Nat} {x : Ex} {w : World} (h : OwnQ n x w) : ExIn w x :=
  ⟨h.val.is, h.fit, Kind.own_is h.eds, h.efit, Kind.own_is h.prd, h.pfit, h.rng.temp, h.rng.ka, h.rng.kb, h.rng.k0, h.rng.k1, h.rng.i0, h.rng.i1, h.rng.t0, h.rng.t1, h.rng.n0, h.rng.n1⟩
theorem zero_in (w : World) : ExIn w (zeroEx 0) := (zero_own 0 w 0 (by omega) (by omega)).ex
theorem ExIn.kind0 {w : World} {x : Ex} (h : ExIn w x) : ExIn w { x with kind := 0 } :=
  { h with k0 := by show (-9223372036854775808 : Int) ≤ 0; omega, k1 := by show (0 : Int) ≤ 9223372036854775807; omega }
theorem ExIn.wout {w : World} {x : Ex} (h : ExIn w x) (p : Nat) : ExIn w (wout x p) := by
  have z := zero_in w
  unfold Go.Proofs.YtpdccbeeoapplaaGreatDoor.wout
  split
  · exact { h with temp := z.temp }
  split
  · exact { h with ka := z.ka, kb := z.kb }
  split
  · exact { h with i0 := z.i0, i1 := z.i1 }
  split
  · exact { h with val := z.val, fit := z.fit }
  split
  · exact { h with prd := z.prd, pfit := z.pfit }
  split
  · exact { h with eds := z.eds, efit := z.efit }
  split
  · exact { h with n0 := z.n0, n1 := z.n1 }
  split
  · exact { h with t0 := z.t0, t1 := z.t1 }
  · exact h
def leftE (x : Ex) (ps : List Nat) : Ex := ps.foldl wout { x with kind := 0 }
theorem leftE_snoc (x : Ex) (ps : List Nat) (p : Nat) : leftE x (ps ++ [p]) = wout (leftE x ps) p := by simp [leftE]
theorem leftE_in {w : World} {x : Ex} (h : ExIn w x) (ps : List Nat) : ExIn w (leftE x ps) := by
  unfold leftE
  have : ∀ (l : List Nat) (y : Ex), ExIn w y → ExIn w (l.foldl wout y) := by
    intro l
    induction l with
    | nil => exact fun y hy => hy
    | cons p l ih => exact fun y hy => ih _ (hy.wout p)
  exact this ps _ h.kind0
def mayO (x : Ex) : Bool := decide (1 ≤ x.kind ∧ x.kind ≤ 12) && (shapeN x.kind.toNat).all (fitPt x.en) && decide ((leftE x (shapeN x.kind.toNat)).en = (zeroEx 0).en)
structure LmSt (w : World) (L : Nat) (x y : Ex) (W : World) : Prop where
  low : Below w.heap.size w W
  box : W.heap[w.heap.size]? = some (.cells (encEx x).toArray 41 (0, 0))
  left : W.heap[L]? = some (.cells (encEx y).toArray 41 (0, 0))
  gt : w.heap.size < L
theorem LmSt.lt {w : World} {L : Nat} {x y : Ex} {W : World} (h : LmSt w L x y W) : L < W.heap.size := (Array.getElem?_eq_some_iff.1 h.left).1
theorem LmSt.on {w : World} {L : Nat} {x y : Ex} {W V : World} (h : LmSt w L x y W) (hb : Below W.heap.size W V) : LmSt w L x y V :=
  ⟨h.low.trans (hb.mono h.low.size), (hb.block _ (by have := h.lt; have := h.gt; omega)).trans h.box, (hb.block _ h.lt).trans h.left, h.gt⟩
theorem LmSt.turn {w : World} {L : Nat} {x y z : Ex} {W V : World} (h : LmSt w L x y W) (f : Fr (fun b => b = L) W V) (hz : V.heap[L]? = some (.cells (encEx z).toArray 41 (0, 0))) : LmSt w L x z V :=
  ⟨h.low.trans (f.below h.low.size fun k hk => by have := h.gt; omega), (f.block _ (by have := h.lt; have := h.gt; omega) (by have := h.gt; omega)).trans h.box, hz, h.gt⟩
set_option maxHeartbeats 8000000 in
set_option maxRecDepth 100000 in
theorem opmay1_any (x : Ex) (w : World) (hx : ExIn w x) :
    Calls Tryz.prog 23 #[aggEx x] w fun e w' => e = .returned (.bool (mayO x)) ∧ Below w.heap.size w w' := by
  have HX := hid hx
  have hal : Below w.heap.size w (w.alloc (.cells (encEx x).toArray 41)) := (Below.refl _ _).alloc (Nat.le_refl _) _
  have hb0 : (w.alloc (.cells (encEx x).toArray 41)).heap[w.heap.size]? = some (.cells (encEx x).toArray 41 (0, 0)) := heap_alloc_new w _
  have HAL := hid hal
  have HB0 := hid hb0
  have HFT : Hid (∀ W p, Below w.heap.size w W → 1 ≤ p → p ≤ 10 → Calls Tryz.prog 47 #[aggEx x, .int .i64 (p : Nat)] W fun e w' => e = .returned (.bool (fitPt x.en p)) ∧ Below W.heap.size W w') := hid fun W p h h1 h2 => opfits_any x p W (HX.out.on h) h1 h2
  unfold aggEx
  simp only [encEx, Ex.vs, Ex.es, Ex.ps] at HAL HB0 HFT ⊢
  clear hal hb0 hx
  unfold aggEx at HFT
  simp only [encEx, Ex.vs, Ex.es, Ex.ps] at HFT
  by_cases hr : 1 ≤ x.kind ∧ x.kind ≤ 12
  case neg =>
    have HF : Hid (mayO x = false) := hid (by unfold mayO; rw [decide_eq_false hr]; rfl)
    have hr2 : x.kind < 1 ∨ 12 < x.kind := by omega
    clear hr
    go_enter Tryz.func23, Tryz.ntmps23
    go_wp2_with (go_at_call 35; refine (shape_no x.kind _ hr2).mono ?_; rintro e w1 ⟨rfl, rfl⟩)
    go_ret
    exact ⟨by rw [HF.out]; rfl, HAL.out⟩
  obtain ⟨kw, hkw⟩ : ∃ kw : Nat, x.kind = kw := ⟨x.kind.toNat, by omega⟩
  have hk1 : 1 ≤ kw := by omega
  have hk12 : kw ≤ 12 := by omega
  have HM : Hid (mayO x = ((shapeN kw).all (fitPt x.en) && decide ((leftE x (shapeN kw)).en = (zeroEx 0).en))) := hid (by
    unfold mayO
    rw [decide_eq_true hr, hkw]; rfl)
  have hnm := name_full kw hk1 hk12
  have HKW := hid hkw
  have HSH : Hid (∀ W, Calls Tryz.prog 35 #[.int .i64 x.kind] W fun e w' => (∃ a n, e = .returned (.tuple #[.string ⟨(nameN kw).toArray⟩, .slice a n n]) ∧ n = (shapeN kw).length ∧
      ∀ (j p : Nat), (shapeN kw)[j]? = some p → ∃ P, a = some ⟨P, 0, none⟩ ∧ W.heap.size ≤ P ∧ w'.cell? ⟨P, j, none⟩ = some (.int .i64 p)) ∧ Below W.heap.size W w') := hid fun W => by rw [hkw]; exact shape_any kw W hk12
  clear hkw hr
  go_enter Tryz.func23, Tryz.ntmps23
  go_wp2_with fail
  refine (HSH.out _).mono ?_
  rintro e w3 ⟨⟨a, n, rfl, hn, hpt⟩, hb3⟩
  have HN := hid hn
  have HB3 := hid (HAL.out.trans (hb3.mono HAL.out.size))
  have hbx : w3.heap[w.heap.size]? = some (.cells #[.int .i64 x.kind, .string x.temp, .string x.ka, .string x.kb, .int .i64 x.iff, .slice x.vp x.vo.length x.vc, .slice x.ep x.eo.length x.ec, .slice x.pp x.po.length x.pc, .int .u64 x.stamp, .int .i64 x.num] 41 (0, 0)) := (hb3.block _ (by simp)).trans HB0.out
  have HBX := hid hbx
  have HPT : Hid (PtSt a w3.heap.size kw w3) := hid fun j p hp => by
    obtain ⟨P, h1, h2, h3⟩ := hpt j p hp
    exact ⟨P, h1, Nat.ne_of_lt (cell_lt h3), h3⟩
  clear hn hpt hb3
  have c0 : w3.cell? ⟨w.heap.size, 0, none⟩ = some (.int .i64 x.kind) := by rw [Lib.cell_of_heap hbx]; rfl
  have c1 : w3.cell? ⟨w.heap.size, 1, none⟩ = some (.string x.temp) := by rw [Lib.cell_of_heap hbx]; rfl
  have c2 : w3.cell? ⟨w.heap.size, 2, none⟩ = some (.string x.ka) := by rw [Lib.cell_of_heap hbx]; rfl
  have c3 : w3.cell? ⟨w.heap.size, 3, none⟩ = some (.string x.kb) := by rw [Lib.cell_of_heap hbx]; rfl
  have c4 : w3.cell? ⟨w.heap.size, 4, none⟩ = some (.int .i64 x.iff) := by rw [Lib.cell_of_heap hbx]; rfl
  have c5 : w3.cell? ⟨w.heap.size, 5, none⟩ = some (.slice x.vp x.vo.length x.vc) := by rw [Lib.cell_of_heap hbx]; rfl
  have c6 : w3.cell? ⟨w.heap.size, 6, none⟩ = some (.slice x.ep x.eo.length x.ec) := by rw [Lib.cell_of_heap hbx]; rfl
  have c7 : w3.cell? ⟨w.heap.size, 7, none⟩ = some (.slice x.pp x.po.length x.pc) := by rw [Lib.cell_of_heap hbx]; rfl
  have c8 : w3.cell? ⟨w.heap.size, 8, none⟩ = some (.int .u64 x.stamp) := by rw [Lib.cell_of_heap hbx]; rfl
  have c9 : w3.cell? ⟨w.heap.size, 9, none⟩ = some (.int .i64 x.num) := by rw [Lib.cell_of_heap hbx]; rfl
  clear hbx
  have HS : Hid (LmSt w w3.heap.size x (leftE x []) (w3.alloc (.cells #[.int .i64 0, .string x.temp, .string x.ka, .string x.kb, .int .i64 x.iff, .slice x.vp x.vo.length x.vc, .slice x.ep x.eo.length x.ec, .slice x.pp x.po.length x.pc, .int .u64 x.stamp, .int .i64 x.num] 41))) := hid (by
    have hb4 := (Below.refl w3.heap.size w3).alloc (Nat.le_refl _) (.cells #[.int .i64 0, .string x.temp, .string x.ka, .string x.kb, .int .i64 x.iff, .slice x.vp x.vo.length x.vc, .slice x.ep x.eo.length x.ec, .slice x.pp x.po.length x.pc, .int .u64 x.stamp, .int .i64 x.num] 41)
    have hlt : w.heap.size < w3.heap.size := (Array.getElem?_eq_some_iff.1 HBX.out).1
    exact ⟨HB3.out.trans (hb4.mono HB3.out.size), (hb4.block _ hlt).trans HBX.out, heap_alloc_new w3 _, hlt⟩)
  have HPT2 : Hid (PtSt a w3.heap.size kw (w3.alloc (.cells #[.int .i64 0, .string x.temp, .string x.ka, .string x.kb, .int .i64 x.iff, .slice x.vp x.vo.length x.vc, .slice x.ep x.eo.length x.ec, .slice x.pp x.po.length x.pc, .int .u64 x.stamp, .int .i64 x.num] 41))) := hid (HPT.out.on ((Below.refl w3.heap.size w3).alloc (Nat.le_refl _) _))
  go_wp2_with fail
  go_loopg [20] n (fun g vi wr => ∃ (i : Nat), vi = .int .i64 i ∧ i ≤ n ∧ n - i ≤ g ∧ Hid (LmSt w w3.heap.size x (leftE x ((shapeN kw).take i)) wr) ∧ Hid (PtSt a w3.heap.size kw wr) ∧ Hid (((shapeN kw).take i).all (fitPt x.en) = true))
  case atStart => exact ⟨0, rfl, by omega, by omega, HS, HPT2, hid rfl⟩
  case round =>
    obtain ⟨i, rfl, hi, hig, HL, HP, HA⟩ := hrel
    have hn5 : n ≤ 5 := by rw [HN.out]; exact shape_le kw
    by_cases hlt : i < n
    · have HLT := hid hlt
      have hltz : (i : Int) < (n : Int) := by omega
      have hiz : (0 : Int) ≤ (i : Int) := by omega
      obtain ⟨p, hp⟩ : ∃ p, (shapeN kw)[i]? = some p := ⟨_, List.getElem?_eq_getElem (by rw [← HN.out]; exact hlt)⟩
      obtain ⟨P, hPa, hPG, hPc⟩ := HP.out i p hp
      subst hPa
      obtain ⟨hp1, hp10⟩ := shape_part kw i p hp
      have HTK : Hid ((shapeN kw).take (i + 1) = (shapeN kw).take i ++ [p]) := hid (by
        obtain ⟨h1, h2⟩ := List.getElem?_eq_some_iff.1 hp
        rw [← h2]; exact List.take_succ_eq_append_getElem h1)
      have HMEM := hid (List.mem_of_getElem? hp)
      clear hp
      have hbx := HL.out.box
      have c0 : wr.cell? ⟨w.heap.size, 0, none⟩ = some (.int .i64 x.kind) := by rw [Lib.cell_of_heap hbx]; rfl
      have c1 : wr.cell? ⟨w.heap.size, 1, none⟩ = some (.string x.temp) := by rw [Lib.cell_of_heap hbx]; rfl
      have c2 : wr.cell? ⟨w.heap.size, 2, none⟩ = some (.string x.ka) := by rw [Lib.cell_of_heap hbx]; rfl
      have c3 : wr.cell? ⟨w.heap.size, 3, none⟩ = some (.string x.kb) := by rw [Lib.cell_of_heap hbx]; rfl
      have c4 : wr.cell? ⟨w.heap.size, 4, none⟩ = some (.int .i64 x.iff) := by rw [Lib.cell_of_heap hbx]; rfl
      have c5 : wr.cell? ⟨w.heap.size, 5, none⟩ = some (.slice x.vp x.vo.length x.vc) := by rw [Lib.cell_of_heap hbx]; rfl
      have c6 : wr.cell? ⟨w.heap.size, 6, none⟩ = some (.slice x.ep x.eo.length x.ec) := by rw [Lib.cell_of_heap hbx]; rfl
      have c7 : wr.cell? ⟨w.heap.size, 7, none⟩ = some (.slice x.pp x.po.length x.pc) := by rw [Lib.cell_of_heap hbx]; rfl
      have c8 : wr.cell? ⟨w.heap.size, 8, none⟩ = some (.int .u64 x.stamp) := by rw [Lib.cell_of_heap hbx]; rfl
      have c9 : wr.cell? ⟨w.heap.size, 9, none⟩ = some (.int .i64 x.num) := by rw [Lib.cell_of_heap hbx]; rfl
      clear hbx
      go_wp2_with fail
      refine (HFT.out wr p HL.out.low hp1 hp10).mono ?_
      rintro e w4 ⟨rfl, hb4⟩
      have HL4 := hid (HL.out.on hb4)
      have HP4 := hid (HP.out.on hb4)
      clear hb4 hPc HL HP c0 c1 c2 c3 c4 c5 c6 c7 c8 c9
      cases hft : fitPt x.en p with
      | false =>
        have HF : Hid ((shapeN kw).all (fitPt x.en) = false) := hid (by
          rw [List.all_eq_false]
          exact ⟨p, HMEM.out, by rw [hft]; simp⟩)
        go_wp2_with fail
        go_ret
        exact ⟨by rw [HM.out, HF.out]; rfl, HL4.out.low⟩
      | true =>
        have HA2 : Hid (((shapeN kw).take (i + 1)).all (fitPt x.en) = true) := hid (by
          rw [HTK.out, List.all_append, HA.out]; simp [hft])
        have HZ : Hid (leftE x ((shapeN kw).take (i + 1)) = wout (leftE x ((shapeN kw).take i)) p) := hid (by rw [HTK.out]; exact leftE_snoc _ _ _)
        have HLY := hid HL4.out.left
        have HWO := hid fun W => without_any (leftE x ((shapeN kw).take i)) p W hp1 hp10
        generalize leftE x ((shapeN kw).take i) = y at *
        generalize wout y p = z at *
        unfold aggEx at HWO
        simp only [encEx, Ex.vs, Ex.es, Ex.ps] at HWO HLY
        have hby := HLY.out
        have d0 : w4.cell? ⟨w3.heap.size, 0, none⟩ = some (.int .i64 y.kind) := by rw [Lib.cell_of_heap hby]; rfl
        have d1 : w4.cell? ⟨w3.heap.size, 1, none⟩ = some (.string y.temp) := by rw [Lib.cell_of_heap hby]; rfl
        have d2 : w4.cell? ⟨w3.heap.size, 2, none⟩ = some (.string y.ka) := by rw [Lib.cell_of_heap hby]; rfl
        have d3 : w4.cell? ⟨w3.heap.size, 3, none⟩ = some (.string y.kb) := by rw [Lib.cell_of_heap hby]; rfl
        have d4 : w4.cell? ⟨w3.heap.size, 4, none⟩ = some (.int .i64 y.iff) := by rw [Lib.cell_of_heap hby]; rfl
        have d5 : w4.cell? ⟨w3.heap.size, 5, none⟩ = some (.slice y.vp y.vo.length y.vc) := by rw [Lib.cell_of_heap hby]; rfl
        have d6 : w4.cell? ⟨w3.heap.size, 6, none⟩ = some (.slice y.ep y.eo.length y.ec) := by rw [Lib.cell_of_heap hby]; rfl
        have d7 : w4.cell? ⟨w3.heap.size, 7, none⟩ = some (.slice y.pp y.po.length y.pc) := by rw [Lib.cell_of_heap hby]; rfl
        have d8 : w4.cell? ⟨w3.heap.size, 8, none⟩ = some (.int .u64 y.stamp) := by rw [Lib.cell_of_heap hby]; rfl
        have d9 : w4.cell? ⟨w3.heap.size, 9, none⟩ = some (.int .i64 y.num) := by rw [Lib.cell_of_heap hby]; rfl
        clear hby
        go_wp2_with fail
        refine (HWO.out w4).mono ?_
        rintro e w5 ⟨rfl, hb5⟩
        have HL5 := hid (HL4.out.on hb5)
        have HP5 := hid (HP4.out.on hb5)
        have hb6 : w5.heap[w3.heap.size]? = some (.cells #[.int .i64 y.kind, .string y.temp, .string y.ka, .string y.kb, .int .i64 y.iff, .slice y.vp y.vo.length y.vc, .slice y.ep y.eo.length y.ec, .slice y.pp y.po.length y.pc, .int .u64 y.stamp, .int .i64 y.num] 41 (0, 0)) := (hb5.block _ HL4.out.lt).trans HLY.out
        clear hb5 d0 d1 d2 d3 d4 d5 d6 d7 d8 d9
        obtain ⟨WZ, hWZ⟩ : ∃ WZ, ((((((((((w5.setCell ⟨w3.heap.size, 0, none⟩ (.int .i64 z.kind)).setCell ⟨w3.heap.size, 1, none⟩ (.string z.temp)).setCell ⟨w3.heap.size, 2, none⟩ (.string z.ka)).setCell ⟨w3.heap.size, 3, none⟩ (.string z.kb)).setCell ⟨w3.heap.size, 4, none⟩ (.int .i64 z.iff)).setCell ⟨w3.heap.size, 5, none⟩ (.slice z.vp z.vo.length z.vc)).setCell ⟨w3.heap.size, 6, none⟩ (.slice z.ep z.eo.length z.ec)).setCell ⟨w3.heap.size, 7, none⟩ (.slice z.pp z.po.length z.pc)).setCell ⟨w3.heap.size, 8, none⟩ (.int .u64 z.stamp)).setCell ⟨w3.heap.size, 9, none⟩ (.int .i64 z.num)) = WZ := ⟨_, rfl⟩
        obtain ⟨bz, fz⟩ := out_ten hb6 _ _ _ _ _ _ _ _ _ _ hWZ
        have HL6 : Hid (LmSt w w3.heap.size x z WZ) := hid (HL5.out.turn fz bz)
        have HP6 := hid (HP5.out.turn fz)
        have d0 : w5.cell? ⟨w3.heap.size, 0, none⟩ = some (.int .i64 y.kind) := by rw [Lib.cell_of_heap hb6]; rfl
        have d1 : w5.cell? ⟨w3.heap.size, 1, none⟩ = some (.string y.temp) := by rw [Lib.cell_of_heap hb6]; rfl
        have d2 : w5.cell? ⟨w3.heap.size, 2, none⟩ = some (.string y.ka) := by rw [Lib.cell_of_heap hb6]; rfl
        have d3 : w5.cell? ⟨w3.heap.size, 3, none⟩ = some (.string y.kb) := by rw [Lib.cell_of_heap hb6]; rfl
        have d4 : w5.cell? ⟨w3.heap.size, 4, none⟩ = some (.int .i64 y.iff) := by rw [Lib.cell_of_heap hb6]; rfl
        have d5 : w5.cell? ⟨w3.heap.size, 5, none⟩ = some (.slice y.vp y.vo.length y.vc) := by rw [Lib.cell_of_heap hb6]; rfl
        have d6 : w5.cell? ⟨w3.heap.size, 6, none⟩ = some (.slice y.ep y.eo.length y.ec) := by rw [Lib.cell_of_heap hb6]; rfl
        have d7 : w5.cell? ⟨w3.heap.size, 7, none⟩ = some (.slice y.pp y.po.length y.pc) := by rw [Lib.cell_of_heap hb6]; rfl
        have d8 : w5.cell? ⟨w3.heap.size, 8, none⟩ = some (.int .u64 y.stamp) := by rw [Lib.cell_of_heap hb6]; rfl
        have d9 : w5.cell? ⟨w3.heap.size, 9, none⟩ = some (.int .i64 y.num) := by rw [Lib.cell_of_heap hb6]; rfl
        have f0 : w5.frozen? ⟨w3.heap.size, 0, none⟩ = false := Lib.frozen_of_heap hb6 0
        have f1 : w5.frozen? ⟨w3.heap.size, 1, none⟩ = false := Lib.frozen_of_heap hb6 1
        have f2 : w5.frozen? ⟨w3.heap.size, 2, none⟩ = false := Lib.frozen_of_heap hb6 2
        have f3 : w5.frozen? ⟨w3.heap.size, 3, none⟩ = false := Lib.frozen_of_heap hb6 3
        have f4 : w5.frozen? ⟨w3.heap.size, 4, none⟩ = false := Lib.frozen_of_heap hb6 4
        have f5 : w5.frozen? ⟨w3.heap.size, 5, none⟩ = false := Lib.frozen_of_heap hb6 5
        have f6 : w5.frozen? ⟨w3.heap.size, 6, none⟩ = false := Lib.frozen_of_heap hb6 6
        have f7 : w5.frozen? ⟨w3.heap.size, 7, none⟩ = false := Lib.frozen_of_heap hb6 7
        have f8 : w5.frozen? ⟨w3.heap.size, 8, none⟩ = false := Lib.frozen_of_heap hb6 8
        have f9 : w5.frozen? ⟨w3.heap.size, 9, none⟩ = false := Lib.frozen_of_heap hb6 9
        clear bz fz hb6
        go_wp2_with fail
        try rw [hWZ]
        go_roundg (n - (i + 1))
        case measure => omega
        exact ⟨i + 1, by go_num, HLT.out, Nat.le_refl _, by rw [HZ.out]; exact HL6, HP6, HA2⟩
    · have hltz : ¬ (i : Int) < (n : Int) := by omega
      have HTA : Hid ((shapeN kw).take i = shapeN kw) := hid (List.take_of_length_le (by rw [← HN.out]; omega))
      have HA2 : Hid ((shapeN kw).all (fitPt x.en) = true) := hid (by have := HA.out; rw [HTA.out] at this; exact this)
      have HL2 : Hid (LmSt w w3.heap.size x (leftE x (shapeN kw)) wr) := hid (by have := HL.out; rw [HTA.out] at this; exact this)
      have HSM := hid (opsame_any (leftE x (shapeN kw)) (zeroEx 0) wr ((leftE_in HX.out _).on HL2.out.low) (zero_in wr))
      have HLY := hid HL2.out.left
      generalize leftE x (shapeN kw) = y at *
      unfold aggEx at HSM
      simp only [encEx, Ex.vs, Ex.es, Ex.ps] at HSM HLY
      have hby := HLY.out
      have d0 : wr.cell? ⟨w3.heap.size, 0, none⟩ = some (.int .i64 y.kind) := by rw [Lib.cell_of_heap hby]; rfl
      have d1 : wr.cell? ⟨w3.heap.size, 1, none⟩ = some (.string y.temp) := by rw [Lib.cell_of_heap hby]; rfl
      have d2 : wr.cell? ⟨w3.heap.size, 2, none⟩ = some (.string y.ka) := by rw [Lib.cell_of_heap hby]; rfl
      have d3 : wr.cell? ⟨w3.heap.size, 3, none⟩ = some (.string y.kb) := by rw [Lib.cell_of_heap hby]; rfl
      have d4 : wr.cell? ⟨w3.heap.size, 4, none⟩ = some (.int .i64 y.iff) := by rw [Lib.cell_of_heap hby]; rfl
      have d5 : wr.cell? ⟨w3.heap.size, 5, none⟩ = some (.slice y.vp y.vo.length y.vc) := by rw [Lib.cell_of_heap hby]; rfl
      have d6 : wr.cell? ⟨w3.heap.size, 6, none⟩ = some (.slice y.ep y.eo.length y.ec) := by rw [Lib.cell_of_heap hby]; rfl
      have d7 : wr.cell? ⟨w3.heap.size, 7, none⟩ = some (.slice y.pp y.po.length y.pc) := by rw [Lib.cell_of_heap hby]; rfl
      have d8 : wr.cell? ⟨w3.heap.size, 8, none⟩ = some (.int .u64 y.stamp) := by rw [Lib.cell_of_heap hby]; rfl
      have d9 : wr.cell? ⟨w3.heap.size, 9, none⟩ = some (.int .i64 y.num) := by rw [Lib.cell_of_heap hby]; rfl
      clear hby HL HA
      go_wp2_with fail
      refine HSM.out.mono ?_
      rintro e w7 ⟨rfl, hb7⟩
      have HB7 := hid (HL2.out.low.trans (hb7.mono HL2.out.low.size))
      clear hb7
      go_wp2_with fail
      go_ret
      exact ⟨by rw [HM.out, HA2.out]; rfl, HB7.out⟩
end Go.Proofs.YtpdccbeeoapplaaGreatDoor

namespace Go.Proofs.YtpdccbeeoapplaaGreatDoor
open Go.RowKit Go.Lib
structure RqIn (W : World) (v : Value) (d : List Ex) : Prop where
  row : KEx.Is W v d
  each : ∀ x ∈ d, ExIn W x
  len : d.length ≤ 4294967000
theorem RqIn.on {W V : World} {v : Value} {d : List Ex} (h : RqIn W v d) (hb : Below W.heap.size W V) : RqIn V v d :=
  ⟨Kind.is_kept h.row hb, fun x hx => (h.each x hx).on hb, h.len⟩
theorem row_cellsQ {W : World} {b off : Nat} {d : List Ex} (h : KEx.At W b off d) (i : Nat) (y : Ex) (hy : d[i]? = some y) :
    W.cell? ⟨b, off + i * 10 + 0, none⟩ = some (.int .i64 y.kind) ∧ W.cell? ⟨b, off + i * 10 + 1, none⟩ = some (.string y.temp) ∧ W.cell? ⟨b, off + i * 10 + 2, none⟩ = some (.string y.ka) ∧ W.cell? ⟨b, off + i * 10 + 3, none⟩ = some (.string y.kb) ∧ W.cell? ⟨b, off + i * 10 + 4, none⟩ = some (.int .i64 y.iff) ∧ W.cell? ⟨b, off + i * 10 + 5, none⟩ = some (.slice y.vp y.vo.length y.vc) ∧ W.cell? ⟨b, off + i * 10 + 6, none⟩ = some (.slice y.ep y.eo.length y.ec) ∧ W.cell? ⟨b, off + i * 10 + 7, none⟩ = some (.slice y.pp y.po.length y.pc) ∧ W.cell? ⟨b, off + i * 10 + 8, none⟩ = some (.int .u64 y.stamp) ∧ W.cell? ⟨b, off + i * 10 + 9, none⟩ = some (.int .i64 y.num) := by
  obtain ⟨hi, rfl⟩ := List.getElem?_eq_some_iff.1 hy
  exact ⟨h i hi 0 _ rfl, h i hi 1 _ rfl, h i hi 2 _ rfl, h i hi 3 _ rfl, h i hi 4 _ rfl, h i hi 5 _ rfl, h i hi 6 _ rfl, h i hi 7 _ rfl, h i hi 8 _ rfl, h i hi 9 _ rfl⟩
def mayRO (d : List Ex) : Bool := decide (0 < d.length) && decide (d.length ≤ 16) && d.all mayO
set_option maxHeartbeats 8000000 in
set_option maxRecDepth 100000 in
theorem opMay_any (once : Bool) (v : Value) (d : List Ex) (w : World) (hd : RqIn w v d) :
    Calls Tryz.prog 12 #[.agg #[.bool once, v]] w fun e w' => e = .returned (.bool (mayRO d)) ∧ Below w.heap.size w w' := by
  have HD := hid hd
  obtain ⟨a, cap, rfl, hrow⟩ := hd.row
  have hlen := hd.len
  have HR := hid hrow
  have hal : Below w.heap.size w (w.alloc (.cells #[.bool once, .slice a d.length cap] 24)) := (Below.refl _ _).alloc (Nat.le_refl _) _
  have HAL := hid hal
  clear hd hrow hal
  by_cases h0 : d.length < 1
  case pos =>
    have HF : Hid (mayRO d = false) := hid (by unfold mayRO; rw [decide_eq_false (by omega : ¬ 0 < d.length)]; rfl)
    have h0z : (d.length : Int) < 1 := by omega
    go_enter Tryz.func12, Tryz.ntmps12
    go_wp2_with fail
    go_ret
    exact ⟨by rw [HF.out]; rfl, HAL.out⟩
  have h0z : ¬ (d.length : Int) < 1 := by omega
  by_cases h16 : 16 < d.length
  case pos =>
    have HF : Hid (mayRO d = false) := hid (by unfold mayRO; rw [decide_eq_false (by omega : ¬ d.length ≤ 16)]; simp)
    have h16z : (16 : Int) < (d.length : Int) := by omega
    go_enter Tryz.func12, Tryz.ntmps12
    go_wp2_with fail
    go_ret
    exact ⟨by rw [HF.out]; rfl, HAL.out⟩
  have h16z : ¬ (16 : Int) < (d.length : Int) := by omega
  have HM : Hid (mayRO d = d.all mayO) := hid (by unfold mayRO; rw [decide_eq_true (by omega : 0 < d.length), decide_eq_true (by omega : d.length ≤ 16)]; rfl)
  obtain ⟨b, off, rfl, hat⟩ : ∃ b off, a = some ⟨b, off, none⟩ ∧ KEx.At w b off d := by
    rcases HR.out with h | ⟨b, off, h1, h2⟩
    · rw [h] at h0; simp at h0
    · exact ⟨b, off, h1, h2⟩
  have HAT := hid hat
  clear hat HR
  go_enter Tryz.func12, Tryz.ntmps12
  go_wp2_with fail
  go_loopg [18] d.length (fun g vi wr => ∃ (i : Nat), vi = .int .i64 i ∧ i ≤ d.length ∧ d.length - i ≤ g ∧ Hid (Below w.heap.size w wr) ∧ Hid ((d.take i).all mayO = true))
  case atStart => exact ⟨0, rfl, by omega, by omega, HAL, hid rfl⟩
  case round =>
    obtain ⟨i, rfl, hi, hig, HB, HA⟩ := hrel
    by_cases hlt : i < d.length
    · have HLT := hid hlt
      have hltz : (i : Int) < (d.length : Int) := by omega
      have hiz : (0 : Int) ≤ (i : Int) := by omega
      obtain ⟨y, hy⟩ : ∃ y, d[i]? = some y := ⟨_, List.getElem?_eq_getElem hlt⟩
      obtain ⟨c0, c1, c2, c3, c4, c5, c6, c7, c8, c9⟩ := row_cellsQ (Kind.at_kept HAT.out HB.out) i y hy
      simp only [Nat.add_zero] at c0
      have hmem := List.mem_of_getElem? hy
      have HTK : Hid (d.take (i + 1) = d.take i ++ [y]) := hid (by
        obtain ⟨h1, h2⟩ := List.getElem?_eq_some_iff.1 hy
        rw [← h2]; exact List.take_succ_eq_append_getElem h1)
      have HMEM := hid hmem
      have HMY : Hid (∀ W, Below w.heap.size w W → Calls Tryz.prog 23 #[.agg #[.int .i64 y.kind, .string y.temp, .string y.ka, .string y.kb, .int .i64 y.iff, .slice y.vp y.vo.length y.vc, .slice y.ep y.eo.length y.ec, .slice y.pp y.po.length y.pc, .int .u64 y.stamp, .int .i64 y.num]] W fun e w' => e = .returned (.bool (mayO y)) ∧ Below W.heap.size W w') := hid fun W h => opmay1_any y W ((HD.out.each y HMEM.out).on h)
      have HB2 : Hid (Below w.heap.size w (wr.alloc (.cells #[.int .i64 y.kind, .string y.temp, .string y.ka, .string y.kb, .int .i64 y.iff, .slice y.vp y.vo.length y.vc, .slice y.ep y.eo.length y.ec, .slice y.pp y.po.length y.pc, .int .u64 y.stamp, .int .i64 y.num] 41))) := hid (HB.out.alloc HB.out.size _)
      clear hy hmem
      go_wp2_with fail
      refine (HMY.out _ HB2.out).mono ?_
      rintro e w4 ⟨rfl, hb4⟩
      have HB4 := hid (HB2.out.trans (hb4.mono HB2.out.size))
      clear hb4 c0 c1 c2 c3 c4 c5 c6 c7 c8 c9
      cases hm : mayO y with
      | false =>
        have HF : Hid (d.all mayO = false) := hid (by
          rw [List.all_eq_false]
          exact ⟨y, HMEM.out, by rw [hm]; simp⟩)
        go_wp2_with fail
        go_ret
        exact ⟨by rw [HM.out, HF.out]; rfl, HB4.out⟩
      | true =>
        have HA2 : Hid ((d.take (i + 1)).all mayO = true) := hid (by rw [HTK.out, List.all_append, HA.out]; simp [hm])
        go_wp2_with fail
        go_roundg (d.length - (i + 1))
        case measure => omega
        exact ⟨i + 1, by go_num, HLT.out, Nat.le_refl _, HB4, HA2⟩
    · have hltz : ¬ (i : Int) < (d.length : Int) := by omega
      have HF : Hid (d.all mayO = true) := hid (by have := HA.out; rw [List.take_of_length_le (by omega)] at this; exact this)
      go_wp2_with fail
      go_ret
      exact ⟨by rw [HM.out, HF.out]; rfl, HB.out⟩
end Go.Proofs.YtpdccbeeoapplaaGreatDoor

namespace Go.Proofs.YtpdccbeeoapplaaGreatDoor
open Go.RowKit
structure RowSt {α : Type} (K : Kind α) (N : Nat) (W : World) (v : Value) (l : List α) (w : World) : Prop where
  own : K.Own N w v l
  bel : Below N W w
  base : N ≤ w.heap.size
theorem below_grown {N : Nat} {W w w' : World} {ob : Option Nat} (hb : Below N W w) (hg : w.grownBy w' ob) (ho : ∀ k, ob = some k → N ≤ k) (hN : N ≤ w.heap.size) : Below N W w' :=
  hb.trans ⟨hg.os, hg.tape, hg.output, hg.size, fun k hk => hg.block k (by omega) fun e => by have := ho k e.symm; omega⟩
section
variable {α : Type} {K : Kind α} {N : Nat} {W : World} {v : Value} {l : List α} {w : World}
theorem RowSt.nil (K : Kind α) (hb : Below N W w) (hN : N ≤ w.heap.size) : RowSt K N W (.slice none 0 0) [] w := ⟨Kind.own_nil _ _ _, hb, hN⟩
theorem RowSt.on {w' : World} (h : RowSt K N W v l w) (hb : Below w.heap.size w w') : RowSt K N W v l w' := ⟨Kind.own_on h.own hb, h.bel.trans (hb.mono h.base), Nat.le_trans h.base hb.size⟩
theorem RowSt.push {g cap : Nat} {w' : World} {x : α} (h : RowSt K N W v l w) (ho : w'.ownsRow N K.T K.k (.slice (some ⟨g, 0, none⟩) (l.length + 1) cap) (l.length + 1) (K.cells l ++ K.cells [x])) (hg : w.grownBy w' v.ownBlock) : RowSt K N W (.slice (some ⟨g, 0, none⟩) (l.length + 1) cap) (l ++ [x]) w' :=
  ⟨Kind.own_snoc ho rfl rfl, below_grown h.bel hg (fun k hk => (World.ownsRow.lt h.own k hk).1) h.base, Nat.le_trans h.base hg.size⟩
end
theorem news_box {α : Type} (K : Kind α) {w : World} {B : Nat} {x : α} {t : TypeId} {fz : Nat × Nat} (h : w.heap[B]? = some (.cells (K.enc x).toArray t fz)) : ∀ j u, (K.cells [x])[j]? = some u → w.cell? ((⟨B, 0, none⟩ : Addr).add j) = some u := fun j u hu => by
  rw [K.cells_one] at hu
  exact World.news_of_block h j u (by simpa using hu)
section
variable {P : Program} {α : Type} {w : World} {ops : Array Oper} {rest : List Oper} {o : Oper} {a : Act} {Q : Exit → Act → World → Prop}
theorem wpList_push (K : Kind α) (hgd : o.guard = none) (s x : Operand) (t : TypeId) (ho : o.op = .call { callee := .builtin .append, args := #[s, x], argTypes := #[t, t] })
    (i : TypeInfo) (z : Value) (bytes : Nat) (ht : P.underlying t = some (.slice K.T)) (hi : P.info? K.T = some i) (hz : i.zero = some z) (hsize : i.size = K.k) (hby : i.bytes = bytes) (hzs : z.cells.size = K.k)
    (N : Nat) (W : World) (v : Value) (l : List α) (hs : a.eval s = v) (hst : RowSt K N W v l w) (y : α) (B m c : Nat) (hm : m = 1) (hx : a.eval x = .slice (some ⟨B, 0, none⟩) m c) (te : TypeId) (fz : Nat × Nat) (hB : w.heap[B]? = some (.cells (K.enc y).toArray te fz))
    (hlen : l.length + 1 ≤ maxLen) (hbytes : (l.length + 1) * bytes ≤ 140737488355328)
    (h : ∀ g cap w', RowSt K N W (.slice (some ⟨g, 0, none⟩) (l.length + 1) cap) (l ++ [y]) w' → w.grownBy w' v.ownBlock → (v.ownBlock = some g ∨ g = w.heap.size) → wpList P ops Q rest (a.put o.dst (.slice (some ⟨g, 0, none⟩) (l.length + 1) cap)) w') : wpList P ops Q (o :: rest) a w := by
  subst hm
  refine wpList_append_lies _ hgd s x t ho N K.T i z K.k bytes ht hi hz hsize hby hzs K.pos v l.length (K.cells l) hs hst.own ⟨B, 0, none⟩ 1 c (K.cells [y]) hx ?_ (news_box K hB) (K.cells_ones _) (by decide) hlen hbytes hst.base _ rfl ?_
  · rw [K.cells_len]; rfl
  · exact fun g cap w' h1 h2 h3 _ => h g cap w' (hst.push h1 h2) h2 h3
end
end Go.Proofs.YtpdccbeeoapplaaGreatDoor

namespace Go.Proofs.YtpdccbeeoapplaaGreatDoor
open Go.RowKit Go.Lib
theorem fit_same16 {o d : List Fx} (h : o.map Fx.fld = d.map Fx.fld) (hf : FitX d) : FitX o := by
  refine ⟨by have := congrArg List.length h; simp at this; have h4 := hf.1; omega, fun x hx => ?_⟩
  have : x.fld ∈ o.map Fx.fld := List.mem_map_of_mem hx
  rw [h] at this
  obtain ⟨y, hy, e⟩ := List.mem_map.1 this
  rw [← e]; exact hf.2 y hy
theorem shapeX {n : Nat} {w : World} {v : Value} {d : List Fx} (h : OwnXs n w v d) : ∃ p cap, v = .slice p d.length cap := by
  rcases h.1.2 with ⟨hv, h0⟩ | ⟨g, cap, cur, hv, _⟩
  · exact ⟨none, 0, by rw [hv, h0]⟩
  · exact ⟨_, _, hv⟩
theorem OwnQ.frT {n0 g : Nat} {x : Ex} {w W : World} {c : Array Value} {T : TypeId} {fr : Nat × Nat} (h : OwnQ n0 x w) (hO : w.heap[g]? = some (.cells c T fr)) (h1 : 47 ≠ T) (h2 : 9 ≠ T) (h3 : KE.T ≠ T) (h4 : KM.T ≠ T) (f : Fr (fun b => b = g) w W) : OwnQ n0 x W :=
  ⟨⟨f.row h.val.1 (row_box h.val.1 hO h1), fun y hy => f.row (h.val.2 y hy) (row_box (h.val.2 y hy) hO h2)⟩, h.fit,
    f.row (show w.ownsRow n0 KE.T KE.k x.es x.eo.length (KE.cells x.eo) from h.eds) (row_box (show w.ownsRow n0 KE.T KE.k x.es x.eo.length (KE.cells x.eo) from h.eds) hO h3), h.efit,
    f.row (show w.ownsRow n0 KM.T KM.k x.ps x.po.length (KM.cells x.po) from h.prd) (row_box (show w.ownsRow n0 KM.T KM.k x.ps x.po.length (KM.cells x.po) from h.prd) hO h4), h.pfit, h.rng⟩
def CpPost (o : Bool) (d : List Ex) (w : World) (e : Ending) (w' : World) : Prop :=
  ∃ (pv : Option Addr) (d' : List Ex) (cv : Nat), e = .returned (.agg #[.bool o, .slice pv d'.length cv]) ∧ d'.map Ex.en = d.map Ex.en ∧ KEx.Own w.heap.size w' (.slice pv d'.length cv) d' ∧ (∀ x ∈ d', OwnQ w.heap.size x w') ∧ Below w.heap.size w w'
set_option maxHeartbeats 8000000 in
set_option maxRecDepth 100000 in
theorem rRequest16_any (o : Bool) (a : Option Addr) (cap : Nat) (d : List Ex) (w : World) (hd : RqIn w (.slice a d.length cap) d) (hc : ∀ x ∈ d, CopyX x.vo ∧ x.eo.length ≤ 1048576 ∧ x.po.length ≤ 1048576) (hf : d.length ≤ 1048576) :
    Calls Tryz.prog 18 #[.agg #[.bool o, .slice a d.length cap]] w (CpPost o d w) := by
  obtain ⟨i0, hi, hz0, hz1, hz2⟩ := info_parts Tryz.infoEnt
  obtain ⟨j0, hj0, hy0, hy1, hy2⟩ := info_parts Tryz.infoEd
  obtain ⟨m0, hm0, hx0, hx1, hx2⟩ := info_parts Tryz.infoTrm
  have HI := hid hi
  have HJ := hid hj0
  have HM := hid hm0
  have HD := hid hd
  have HCP := hid hc
  obtain ⟨a', cap', hq, hrow⟩ := hd.row
  cases hq
  have HR := hid hrow
  have hb0 : Below w.heap.size w ((w.alloc (.cells #[.bool o, .slice a d.length cap] 24)).alloc (.cells #[.bool false, .slice none 0 0] 24)) := ((Below.refl _ _).alloc (Nat.le_refl _) _).alloc (by simp) _
  have HB0 := hid hb0
  have HQ0 : Hid (((w.alloc (.cells #[.bool o, .slice a d.length cap] 24)).alloc (.cells #[.bool false, .slice none 0 0] 24)).heap[w.heap.size]? = some (.cells #[.bool o, .slice a d.length cap] 24 (0, 0))) := hid ((Below.heap_alloc _ _ _ (by simp)).trans (heap_alloc_new w _))
  have HP0 : Hid (((w.alloc (.cells #[.bool o, .slice a d.length cap] 24)).alloc (.cells #[.bool false, .slice none 0 0] 24)).heap[w.heap.size + 1]? = some (.cells #[.bool false, .slice none 0 0] 24 (0, 0))) := hid (by have := heap_alloc_new (w.alloc (.cells #[.bool o, .slice a d.length cap] 24)) (.cells #[.bool false, .slice none 0 0] 24); simpa using this)
  clear hd hc hrow hi hj0 hm0 hb0
  go_enter Tryz.func18, Tryz.ntmps18
  go_wp2_with fail
  go_loopg [3, 4] d.length (fun g vl vi wr => ∃ (i : Nat) (p : Option Addr) (c : Nat) (out : List Ex), vi = .int .i64 i ∧ vl = .slice p out.length c ∧ i ≤ d.length ∧ d.length - i ≤ g ∧ Hid (out.length = i) ∧ Hid (RowSt KEx w.heap.size w (.slice p out.length c) out wr) ∧ Hid (out.map Ex.en = (d.take i).map Ex.en) ∧ Hid (∀ x ∈ out, OwnQ w.heap.size x wr) ∧ Hid (wr.heap[w.heap.size]? = some (.cells #[.bool o, .slice a d.length cap] 24 (0, 0))) ∧ Hid (wr.heap[w.heap.size + 1]? = some (.cells #[.bool false, .slice none 0 0] 24 (0, 0))))
  case atStart => exact ⟨0, none, 0, [], rfl, rfl, by omega, by omega, hid rfl, hid (RowSt.nil KEx HB0.out HB0.out.size), hid rfl, hid (fun x hx => by simp at hx), HQ0, HP0⟩
  case round =>
    obtain ⟨i, p, c, out, rfl, rfl, hi, hig, HOL, HS, HE, HO, HQ, HP⟩ := hrel
    have hol : out.length ≤ 1048576 := by have := HOL.out; omega
    have r2 : wr.cell? ⟨w.heap.size, 1, none⟩ = some (.slice a d.length cap) := by rw [Lib.cell_of_heap HQ.out]; rfl
    by_cases hlt : i < d.length
    · have hltz : (i : Int) < (d.length : Int) := by omega
      have hiz : (0 : Int) ≤ (i : Int) := by omega
      obtain ⟨b, off, rfl, hat⟩ : ∃ b off, a = some ⟨b, off, none⟩ ∧ KEx.At w b off d := by
        rcases HR.out with h | ⟨b, off, h1, h2⟩
        · rw [h] at hlt; simp at hlt
        · exact ⟨b, off, h1, h2⟩
      obtain ⟨y, hy⟩ : ∃ y, d[i]? = some y := ⟨_, List.getElem?_eq_getElem hlt⟩
      obtain ⟨c0, c1, c2, c3, c4, c5, c6, c7, c8, c9⟩ := row_cellsQ (Kind.at_kept hat HS.out.bel) i y hy
      simp only [Nat.add_zero] at c0
      have hmem := List.mem_of_getElem? hy
      have HY := hid (HD.out.each y hmem)
      obtain ⟨hcx, hce, hcm⟩ := HCP.out y hmem
      have HTK : Hid ((d.take (i + 1)).map Ex.en = (d.take i).map Ex.en ++ [y.en]) := hid (by
        obtain ⟨h1, h2⟩ := List.getElem?_eq_some_iff.1 hy
        rw [← h2, List.take_succ_eq_append_getElem h1, List.map_append]; rfl)
      obtain ⟨G, hG⟩ : ∃ G, wr.heap.size = G := ⟨_, rfl⟩
      obtain ⟨W1, hW1⟩ : ∃ W1, wr.alloc (.cells #[.int .i64 y.kind, .string y.temp, .string y.ka, .string y.kb, .int .i64 y.iff, .slice y.vp y.vo.length y.vc, .slice y.ep y.eo.length y.ec, .slice y.pp y.po.length y.pc, .int .u64 y.stamp, .int .i64 y.num] 41) = W1 := ⟨_, rfl⟩
      have hb1 : Below wr.heap.size wr W1 := by rw [← hW1]; exact (Below.refl _ _).alloc (Nat.le_refl _) _
      have HX1 : Hid (W1.heap[G]? = some (.cells #[.int .i64 y.kind, .string y.temp, .string y.ka, .string y.kb, .int .i64 y.iff, .slice y.vp y.vo.length y.vc, .slice y.ep y.eo.length y.ec, .slice y.pp y.po.length y.pc, .int .u64 y.stamp, .int .i64 y.num] 41 (0, 0))) := hid (by rw [← hW1, ← hG]; exact heap_alloc_new wr _)
      have HB1 := hid hb1
      have HF := hid (fields_any (.slice y.vp y.vo.length y.vc) y.vo W1 ((HY.out.on (HS.out.bel.trans (hb1.mono HS.out.base))).val) HY.out.fit hcx)
      have s0 : W1.cell? ⟨G, 5, none⟩ = some (.slice y.vp y.vo.length y.vc) := by rw [Lib.cell_of_heap HX1.out]; rfl
      clear hat hy hmem hcx hb1
      go_wp2_with fail
      try rw [hW1]
      clear hW1 c0 c1 c2 c3 c4 c5 c6 c7 c8 c9
      refine HF.out.mono ?_
      rintro e w2 ⟨u, fo, rfl, hoj, hfl, hb2⟩
      obtain ⟨up, uc, rfl⟩ := shapeX hoj.1
      have hG1 : G < W1.heap.size := (Array.getElem?_eq_some_iff.1 HX1.out).1
      have HX2 : Hid (w2.heap[G]? = some (.cells #[.int .i64 y.kind, .string y.temp, .string y.ka, .string y.kb, .int .i64 y.iff, .slice y.vp y.vo.length y.vc, .slice y.ep y.eo.length y.ec, .slice y.pp y.po.length y.pc, .int .u64 y.stamp, .int .i64 y.num] 41 (0, 0))) := hid ((hb2.block G hG1).trans HX1.out)
      have f5 : w2.frozen? ⟨G, 5, none⟩ = false := Lib.frozen_of_heap HX2.out 5
      have s5 : w2.cell? ⟨G, 5, none⟩ = some (.slice y.vp y.vo.length y.vc) := by rw [Lib.cell_of_heap HX2.out]; rfl
      obtain ⟨W3, hW3⟩ : ∃ W3, w2.setCell ⟨G, 5, none⟩ (.slice up fo.length uc) = W3 := ⟨_, rfl⟩
      have hfr3 : Fr (fun k => k = G) w2 W3 := by rw [← hW3]; exact fr_setE w2 G 5 _
      have HX3 : Hid (W3.heap[G]? = some (.cells #[.int .i64 y.kind, .string y.temp, .string y.ka, .string y.kb, .int .i64 y.iff, .slice up fo.length uc, .slice y.ep y.eo.length y.ec, .slice y.pp y.po.length y.pc, .int .u64 y.stamp, .int .i64 y.num] 41 (0, 0))) := hid (by rw [← hW3]; exact heap_setCell_same _ G 5 _ _ _ HX2.out)
      have hown1 : OwnQ w.heap.size ⟨y.kind, y.temp, y.ka, y.kb, y.iff, up, uc, fo, none, 0, [], none, 0, [], y.stamp, y.num⟩ w2 :=
        ⟨⟨own_weak hoj.1.1 (by have := HS.out.base; have := HB1.out.size; omega), fun x hx => own_weak (hoj.1.2 x hx) (by have := HS.out.base; have := HB1.out.size; omega)⟩, fit_same16 hfl HY.out.fit, Kind.own_nil _ _ _, (show FitE [] from fitE_may (by decide)), Kind.own_nil _ _ _, (show FitM [] from fitM_may (by decide)), ⟨HY.out.temp, HY.out.ka, HY.out.kb, HY.out.k0, HY.out.k1, HY.out.i0, HY.out.i1, HY.out.t0, HY.out.t1, HY.out.n0, HY.out.n1⟩⟩
      have HOW3 := hid (hown1.fr HX2.out hfr3)
      have HB3 : Hid (Below wr.heap.size wr W3) := hid ((HB1.out.trans (hb2.mono HB1.out.size)).trans (hfr3.below (by have := HB1.out.size; have := hb2.size; omega) fun k hk => by omega))
      have HBXW3 : Hid (∀ V, Below W3.heap.size W3 V → V.heap[G]? = some (.cells #[.int .i64 y.kind, .string y.temp, .string y.ka, .string y.kb, .int .i64 y.iff, .slice up fo.length uc, .slice y.ep y.eo.length y.ec, .slice y.pp y.po.length y.pc, .int .u64 y.stamp, .int .i64 y.num] 41 (0, 0))) := hid fun V hV => (hV.block G (Array.getElem?_eq_some_iff.1 HX3.out).1).trans HX3.out
      have HBWW3 : Hid (∀ V, Below W3.heap.size W3 V → Below w.heap.size w V) := hid fun V hV => (HS.out.bel.trans (HB3.out.mono HS.out.base)).trans (hV.mono (by have := HS.out.base; have := HB3.out.size; omega))
      have HFL := hid hfl
      have HRSO : Hid (∀ V, Below G wr V → RowSt KEx w.heap.size w (.slice p out.length c) out V ∧ (∀ x ∈ out, OwnQ w.heap.size x V) ∧ V.heap[w.heap.size]? = some (.cells #[.bool o, .slice (some ⟨b, off, none⟩) d.length cap] 24 (0, 0)) ∧ V.heap[w.heap.size + 1]? = some (.cells #[.bool false, .slice none 0 0] 24 (0, 0))) := hid fun V hV => by
        rw [← hG] at hV
        exact ⟨HS.out.on hV, fun x hx => (HO.out x hx).on hV, (hV.block _ (Array.getElem?_eq_some_iff.1 HQ.out).1).trans HQ.out, (hV.block _ (Array.getElem?_eq_some_iff.1 HP.out).1).trans HP.out⟩
      have HBG : Hid (∀ V, Below W3.heap.size W3 V → Below G wr V) := hid fun V hV => by
        rw [← hG]
        exact HB3.out.trans (hV.mono HB3.out.size)
      have hbase := HS.out.base
      have hsz3 := HB3.out.size
      have hwG : w.heap.size ≤ G := by omega
      have hG3 : w.heap.size ≤ W3.heap.size := by omega
      clear hoj hfl hb2 hown1 hfr3
      go_wp2_with fail
      try rw [hW3]
      clear hW3 f5 s5
      go_loopg [6, 7] y.eo.length (fun g vr vj ws => ∃ (j : Nat) (p : Option Addr) (c : Nat), vj = .int .i64 j ∧ vr = .slice p (y.eo.take j).length c ∧ j ≤ y.eo.length ∧ y.eo.length - j ≤ g ∧ Hid (RowSt KE W3.heap.size W3 (.slice p (y.eo.take j).length c) (y.eo.take j) ws))
      case atStart => exact ⟨0, none, 0, rfl, rfl, by omega, by omega, hid (by simpa using RowSt.nil KE (Below.refl _ _) (Nat.le_refl _))⟩
      case round =>
        obtain ⟨j, p, c, rfl, rfl, hj, hjg, HS⟩ := hrel
        have hbx := HBXW3.out _ HS.out.bel
        have t6 : wr.cell? ⟨G, 6, none⟩ = some (.slice y.ep y.eo.length y.ec) := by rw [Lib.cell_of_heap hbx]; rfl
        clear hbx
        by_cases hlt : j < y.eo.length
        · have hltz : (j : Int) < (y.eo.length : Int) := by omega
          have hjz : (0 : Int) ≤ (j : Int) := by omega
          obtain ⟨b2, off2, hpe, hat2⟩ : ∃ b2 off2, y.ep = some ⟨b2, off2, none⟩ ∧ KE.At w b2 off2 y.eo := by
            obtain ⟨p', c', he, hh⟩ := HY.out.eds
            have he' : (Value.slice y.ep y.eo.length y.ec) = .slice p' y.eo.length c' := he
            injection he' with h1 h2 h3
            subst h1
            rcases hh with h | ⟨b, o', h1, h2⟩
            · rw [h] at hlt; simp at hlt
            · exact ⟨b, o', h1, h2⟩
          rw [hpe] at t6
          obtain ⟨g0, g1, g2⟩ := ke_cells (Kind.at_kept hat2 (HBWW3.out _ HS.out.bel)) j hlt
          obtain ⟨e, he⟩ : ∃ e, y.eo[j] = e := ⟨_, rfl⟩
          rw [he] at g0 g1 g2
          have HTK : Hid (y.eo.take (j + 1) = y.eo.take j ++ [e]) := hid (by rw [← he]; exact List.take_succ_eq_append_getElem hlt)
          have hlj : (y.eo.take j).length = j := by rw [List.length_take]; omega
          obtain ⟨e0, e1, e2⟩ := e
          clear he hat2 hpe
          have HN1 : Hid ((wr.alloc (.cells (KE.enc (e0, e1, e2)).toArray 49)).heap[wr.heap.size]? = some (.cells (KE.enc (e0, e1, e2)).toArray 49 (0, 0))) := hid (heap_alloc_new wr _)
          have HO1 := hid (HS.out.on ((Below.refl wr.heap.size wr).alloc (Nat.le_refl _) (.cells (KE.enc (e0, e1, e2)).toArray 49)))
          rw [hlj] at HO1 ⊢
          go_wp2_with (at_builtin; refine wpList_push KE rfl _ _ 37 rfl j0 _ 40 Tryz.underlying37 HJ.out hy0 hy1 hy2 rfl W3.heap.size W3 _ (y.eo.take j) rfl HO1.out (e0, e1, e2) _ _ _ rfl rfl _ _ HN1.out (by rw [hlj]; unfold maxLen; omega) (by rw [hlj]; omega) ?_
                       intro g3 c3 w3 hst3 _ _
                       have HS3 := hid hst3
                       clear hst3)
          go_roundg (y.eo.length - (j + 1))
          case measure => omega
          exact ⟨j + 1, some ⟨g3, 0, none⟩, c3, by go_num, by rw [HTK.out, List.length_append, hlj]; rfl, by omega, by omega, by rw [HTK.out, List.length_append]; exact HS3⟩
        · have hltz : ¬ (j : Int) < (y.eo.length : Int) := by omega
          obtain rfl : j = y.eo.length := by omega
          rw [List.take_length] at HS ⊢
          obtain ⟨pe, hnp⟩ : ∃ q, p = q := ⟨_, rfl⟩
          obtain ⟨ce, hnc⟩ : ∃ q, c = q := ⟨_, rfl⟩
          rw [hnp, hnc] at HS ⊢
          clear hnp hnc
          obtain ⟨W4, hW4⟩ : ∃ W4, wr = W4 := ⟨_, rfl⟩
          rw [hW4] at HS t6 ⊢
          have HSE := HS
          have HX4 : Hid (W4.heap[G]? = some (.cells #[.int .i64 y.kind, .string y.temp, .string y.ka, .string y.kb, .int .i64 y.iff, .slice up fo.length uc, .slice y.ep y.eo.length y.ec, .slice y.pp y.po.length y.pc, .int .u64 y.stamp, .int .i64 y.num] 41 (0, 0))) := hid (HBXW3.out _ HSE.out.bel)
          have HBXW4 : Hid (∀ V, Below W4.heap.size W4 V → V.heap[G]? = some (.cells #[.int .i64 y.kind, .string y.temp, .string y.ka, .string y.kb, .int .i64 y.iff, .slice up fo.length uc, .slice y.ep y.eo.length y.ec, .slice y.pp y.po.length y.pc, .int .u64 y.stamp, .int .i64 y.num] 41 (0, 0))) := hid fun V hV => (hV.block G (Array.getElem?_eq_some_iff.1 HX4.out).1).trans HX4.out
          have HBWW4 : Hid (∀ V, Below W4.heap.size W4 V → Below w.heap.size w V) := hid fun V hV => HBWW3.out V (HSE.out.bel.trans (hV.mono HSE.out.base))
          have hsz4 := HSE.out.base
          clear HS hW4
          go_wp2_with fail
          clear t6
          go_loopg [8, 9] y.po.length (fun g vr vj ws => ∃ (j : Nat) (p : Option Addr) (c : Nat), vj = .int .i64 j ∧ vr = .slice p (y.po.take j).length c ∧ j ≤ y.po.length ∧ y.po.length - j ≤ g ∧ Hid (RowSt KM W4.heap.size W4 (.slice p (y.po.take j).length c) (y.po.take j) ws))
          case atStart => exact ⟨0, none, 0, rfl, rfl, by omega, by omega, hid (by simpa using RowSt.nil KM (Below.refl _ _) (Nat.le_refl _))⟩
          case round =>
            obtain ⟨j, p, c, rfl, rfl, hj, hjg, HS⟩ := hrel
            have hbx := HBXW4.out _ HS.out.bel
            have t6 : wr.cell? ⟨G, 7, none⟩ = some (.slice y.pp y.po.length y.pc) := by rw [Lib.cell_of_heap hbx]; rfl
            clear hbx
            by_cases hlt : j < y.po.length
            · have hltz : (j : Int) < (y.po.length : Int) := by omega
              have hjz : (0 : Int) ≤ (j : Int) := by omega
              obtain ⟨b2, off2, hpe, hat2⟩ : ∃ b2 off2, y.pp = some ⟨b2, off2, none⟩ ∧ KM.At w b2 off2 y.po := by
                obtain ⟨p', c', he, hh⟩ := HY.out.prd
                have he' : (Value.slice y.pp y.po.length y.pc) = .slice p' y.po.length c' := he
                injection he' with h1 h2 h3
                subst h1
                rcases hh with h | ⟨b, o', h1, h2⟩
                · rw [h] at hlt; simp at hlt
                · exact ⟨b, o', h1, h2⟩
              rw [hpe] at t6
              obtain ⟨g0, g1, g2⟩ := km_cells (Kind.at_kept hat2 (HBWW4.out _ HS.out.bel)) j hlt
              obtain ⟨e, he⟩ : ∃ e, y.po[j] = e := ⟨_, rfl⟩
              rw [he] at g0 g1 g2
              have HTK : Hid (y.po.take (j + 1) = y.po.take j ++ [e]) := hid (by rw [← he]; exact List.take_succ_eq_append_getElem hlt)
              have hlj : (y.po.take j).length = j := by rw [List.length_take]; omega
              obtain ⟨e0, e1, e2⟩ := e
              clear he hat2 hpe
              have HN1 : Hid ((wr.alloc (.cells (KM.enc (e0, e1, e2)).toArray 51)).heap[wr.heap.size]? = some (.cells (KM.enc (e0, e1, e2)).toArray 51 (0, 0))) := hid (heap_alloc_new wr _)
              have HO1 := hid (HS.out.on ((Below.refl wr.heap.size wr).alloc (Nat.le_refl _) (.cells (KM.enc (e0, e1, e2)).toArray 51)))
              rw [hlj] at HO1 ⊢
              go_wp2_with (at_builtin; refine wpList_push KM rfl _ _ 38 rfl m0 _ 40 Tryz.underlying38 HM.out hx0 hx1 hx2 rfl W4.heap.size W4 _ (y.po.take j) rfl HO1.out (e0, e1, e2) _ _ _ rfl rfl _ _ HN1.out (by rw [hlj]; unfold maxLen; omega) (by rw [hlj]; omega) ?_
                           intro g3 c3 w3 hst3 _ _
                           have HS3 := hid hst3
                           clear hst3)
              go_roundg (y.po.length - (j + 1))
              case measure => omega
              exact ⟨j + 1, some ⟨g3, 0, none⟩, c3, by go_num, by rw [HTK.out, List.length_append, hlj]; rfl, by omega, by omega, by rw [HTK.out, List.length_append]; exact HS3⟩
            · have hltz : ¬ (j : Int) < (y.po.length : Int) := by omega
              obtain rfl : j = y.po.length := by omega
              rw [List.take_length] at HS ⊢
              obtain ⟨pm, hnp⟩ : ∃ q, p = q := ⟨_, rfl⟩
              obtain ⟨cm, hnc⟩ : ∃ q, c = q := ⟨_, rfl⟩
              rw [hnp, hnc] at HS ⊢
              clear hnp hnc
              obtain ⟨W5, hW5⟩ : ∃ W5, wr = W5 := ⟨_, rfl⟩
              rw [hW5] at HS ⊢
              have HST := HS
              clear HS hW5 t6
              have b35 : Below W3.heap.size W3 W5 := HSE.out.bel.trans (HST.out.bel.mono HSE.out.base)
              have hx5 := HBXW3.out _ b35
              have HX5 := hid hx5
              have g5 : ∀ k, W5.frozen? ⟨G, k, none⟩ = false := fun k => Lib.frozen_of_heap HX5.out k
              have f6 := g5 6
              have f7 := g5 7
              have s6 : W5.cell? ⟨G, 6, none⟩ = some (.slice y.ep y.eo.length y.ec) := by rw [Lib.cell_of_heap HX5.out]; rfl
              have s7 : W5.cell? ⟨G, 7, none⟩ = some (.slice y.pp y.po.length y.pc) := by rw [Lib.cell_of_heap HX5.out]; rfl
              obtain ⟨z, hz⟩ : ∃ z : Ex, z = ⟨y.kind, y.temp, y.ka, y.kb, y.iff, up, uc, fo, pe, ce, y.eo, pm, cm, y.po, y.stamp, y.num⟩ := ⟨_, rfl⟩
              have hown5 : OwnQ w.heap.size z W5 := by
                rw [hz]
                have h3 := HOW3.out.on b35
                exact ⟨h3.val, h3.fit, Kind.own_weak (Kind.own_on HSE.out.own HST.out.bel) hG3, HY.out.efit, Kind.own_weak HST.out.own (by omega), HY.out.pfit, ⟨h3.rng.temp, h3.rng.ka, h3.rng.kb, h3.rng.k0, h3.rng.k1, h3.rng.i0, h3.rng.i1, h3.rng.t0, h3.rng.t1, h3.rng.n0, h3.rng.n1⟩⟩
              obtain ⟨W6, hW6⟩ : ∃ W6, (W5.setCell ⟨G, 6, none⟩ (.slice pe y.eo.length ce)).setCell ⟨G, 7, none⟩ (.slice pm y.po.length cm) = W6 := ⟨_, rfl⟩
              have hfr6 : Fr (fun k => k = G) W5 W6 := by rw [← hW6]; exact (fr_setE W5 G 6 _).then (fr_setE _ G 7 _) fun k hk => Or.inl hk
              have HX6 : Hid (W6.heap[G]? = some (.cells #[.int .i64 y.kind, .string y.temp, .string y.ka, .string y.kb, .int .i64 y.iff, .slice up fo.length uc, .slice pe y.eo.length ce, .slice pm y.po.length cm, .int .u64 y.stamp, .int .i64 y.num] 41 (0, 0))) := hid (by
                rw [← hW6]
                exact heap_setCell_same _ G 7 _ _ _ (heap_setCell_same _ G 6 _ _ _ HX5.out))
              have HOW6 := hid (hown5.fr HX5.out hfr6)
              have hb6 : Below G _ W6 := (HBG.out _ b35).trans (hfr6.below (by have := b35.size; omega) fun k hk => by omega)
              have HR6 := hid (HRSO.out _ hb6)
              obtain ⟨d0, d1, d2, d3, d4, d5, d6, d7, d8, d9⟩ : W6.cell? ⟨G, 0, none⟩ = some (.int .i64 y.kind) ∧ W6.cell? ⟨G, 1, none⟩ = some (.string y.temp) ∧ W6.cell? ⟨G, 2, none⟩ = some (.string y.ka) ∧ W6.cell? ⟨G, 3, none⟩ = some (.string y.kb) ∧ W6.cell? ⟨G, 4, none⟩ = some (.int .i64 y.iff) ∧ W6.cell? ⟨G, 5, none⟩ = some (.slice up fo.length uc) ∧ W6.cell? ⟨G, 6, none⟩ = some (.slice pe y.eo.length ce) ∧ W6.cell? ⟨G, 7, none⟩ = some (.slice pm y.po.length cm) ∧ W6.cell? ⟨G, 8, none⟩ = some (.int .u64 y.stamp) ∧ W6.cell? ⟨G, 9, none⟩ = some (.int .i64 y.num) := by
                refine ⟨?_, ?_, ?_, ?_, ?_, ?_, ?_, ?_, ?_, ?_⟩ <;> (rw [Lib.cell_of_heap HX6.out]; rfl)
              have hzen : z.en = y.en := by
                rw [hz]
                show (⟨y.kind, y.temp, y.ka, y.kb, y.iff, fo.map Fx.fld, y.eo, y.po, y.stamp, y.num⟩ : En) = y.en
                rw [HFL.out]; rfl
              have HZE := hid hzen
              have henc : (KEx.enc z).toArray = #[.int .i64 y.kind, .string y.temp, .string y.ka, .string y.kb, .int .i64 y.iff, .slice up fo.length uc, .slice pe y.eo.length ce, .slice pm y.po.length cm, .int .u64 y.stamp, .int .i64 y.num] := by rw [hz]; rfl
              have HN7 : Hid ((W6.alloc (.cells #[.int .i64 y.kind, .string y.temp, .string y.ka, .string y.kb, .int .i64 y.iff, .slice up fo.length uc, .slice pe y.eo.length ce, .slice pm y.po.length cm, .int .u64 y.stamp, .int .i64 y.num] 41)).heap[W6.heap.size]? = some (.cells (KEx.enc z).toArray 41 (0, 0))) := hid (by rw [henc]; exact heap_alloc_new W6 _)
              have hb7 : Below W6.heap.size W6 (W6.alloc (.cells #[.int .i64 y.kind, .string y.temp, .string y.ka, .string y.kb, .int .i64 y.iff, .slice up fo.length uc, .slice pe y.eo.length ce, .slice pm y.po.length cm, .int .u64 y.stamp, .int .i64 y.num] 41)) := (Below.refl _ _).alloc (Nat.le_refl _) _
              have HR7 := hid (HR6.out.1.on hb7)
              have HO7 : Hid (∀ x ∈ out ++ [z], OwnQ w.heap.size x (W6.alloc (.cells #[.int .i64 y.kind, .string y.temp, .string y.ka, .string y.kb, .int .i64 y.iff, .slice up fo.length uc, .slice pe y.eo.length ce, .slice pm y.po.length cm, .int .u64 y.stamp, .int .i64 y.num] 41))) := hid fun x hx => by
                rcases List.mem_append.1 hx with h | h
                · exact (HR6.out.2.1 x h).on hb7
                · rw [List.mem_singleton] at h
                  subst h
                  exact HOW6.out.on hb7
              have HQ7 : Hid ((W6.alloc (.cells #[.int .i64 y.kind, .string y.temp, .string y.ka, .string y.kb, .int .i64 y.iff, .slice up fo.length uc, .slice pe y.eo.length ce, .slice pm y.po.length cm, .int .u64 y.stamp, .int .i64 y.num] 41)).heap[w.heap.size]? = some (.cells #[.bool o, .slice (some ⟨b, off, none⟩) d.length cap] 24 (0, 0))) := hid ((hb7.block _ (Array.getElem?_eq_some_iff.1 HR6.out.2.2.1).1).trans HR6.out.2.2.1)
              have HP7 : Hid ((W6.alloc (.cells #[.int .i64 y.kind, .string y.temp, .string y.ka, .string y.kb, .int .i64 y.iff, .slice up fo.length uc, .slice pe y.eo.length ce, .slice pm y.po.length cm, .int .u64 y.stamp, .int .i64 y.num] 41)).heap[w.heap.size + 1]? = some (.cells #[.bool false, .slice none 0 0] 24 (0, 0))) := hid ((hb7.block _ (Array.getElem?_eq_some_iff.1 HR6.out.2.2.2).1).trans HR6.out.2.2.2)
              clear hx5 g5 hown5 hfr6 hb6 hzen henc hb7 b35 hz
              go_upto_region 18 with fail
              try rw [hW6]
              clear hW6 f6 f7 s6 s7
              go_wp2_with (at_builtin; refine wpList_push KEx rfl _ _ 22 rfl i0 _ 152 Tryz.underlying22 HI.out hz0 hz1 hz2 rfl w.heap.size w _ out rfl HR7.out z _ _ _ rfl rfl _ _ HN7.out (by unfold maxLen; omega) (by omega) ?_
                           intro g3 c3 w3 hst3 hg3 _
                           have HS8 := hid hst3
                           have HG8 := hid hg3
                           clear hst3 hg3)
              go_roundg (d.length - (i + 1))
              case measure => omega
              refine ⟨i + 1, some ⟨g3, 0, none⟩, c3, out ++ [z], by go_num, by rw [List.length_append]; rfl, by omega, by omega, hid (by rw [List.length_append, HOL.out]; rfl), by rw [List.length_append]; exact HS8, hid ?_, hid fun x hx => (HO7.out x hx).grown HR7.out.own HG8.out, hid (box2_kept HQ7.out HG8.out HR7.out.own (by decide)), hid (box2_kept HP7.out HG8.out HR7.out.own (by decide))⟩
              rw [HTK.out, List.map_append, HE.out, List.map_cons, List.map_nil, HZE.out]
    · have hltz : ¬ (i : Int) < (d.length : Int) := by omega
      have HE2 : Hid (out.map Ex.en = d.map Ex.en) := hid (by have := HE.out; rw [List.take_of_length_le (by omega)] at this; exact this)
      have r1 : wr.cell? ⟨w.heap.size, 0, none⟩ = some (.bool o) := by rw [Lib.cell_of_heap HQ.out]; rfl
      obtain ⟨x0, x1, x2, x3⟩ := two_facts HP.out
      obtain ⟨W6, hW6⟩ : ∃ W6, (wr.setCell ⟨w.heap.size + 1, 0, none⟩ (.bool o)).setCell ⟨w.heap.size + 1, 1, none⟩ (.slice p out.length c) = W6 := ⟨_, rfl⟩
      have hfr6 : Fr (fun k => k = w.heap.size + 1) wr W6 := by rw [← hW6]; exact (fr_setE wr _ 0 _).then (fr_setE _ _ 1 _) fun k hk => Or.inl hk
      have HX6 : Hid (W6.heap[w.heap.size + 1]? = some (.cells #[.bool o, .slice p out.length c] 24 (0, 0))) := hid (by
        rw [← hW6]
        exact heap_setCell_same _ _ 1 _ _ _ (heap_setCell_same _ _ 0 _ _ _ HP.out))
      have HF6 : Hid (CpPost o d w (.returned (.agg #[.bool o, .slice p out.length c])) W6) := hid ⟨p, out, c, rfl, HE2.out, hfr6.row (show wr.ownsRow w.heap.size KEx.T KEx.k (.slice p out.length c) out.length (KEx.cells out) from HS.out.own) (row_box (show wr.ownsRow w.heap.size KEx.T KEx.k (.slice p out.length c) out.length (KEx.cells out) from HS.out.own) HP.out (by decide)), fun x hx => (HO.out x hx).frT HP.out (by decide) (by decide) (by decide) (by decide) hfr6, HS.out.bel.trans (hfr6.below HS.out.base fun k hk => by omega)⟩
      obtain ⟨v0, v1, _, _⟩ := two_facts HX6.out
      go_wp2_with fail
      try rw [hW6]
      clear hW6 hfr6
      exact bodyPost_ret (v := .agg #[.bool o, .slice p out.length c]) (by simp [results, Tryz.results18, go_sem, v0, v1]) rfl HF6.out
end Go.Proofs.YtpdccbeeoapplaaGreatDoor

namespace Go.Proofs.YtpdccbeeoapplaaGreatDoor
open Go.RowKit Go.Lib
theorem all_same {d d' : List Ex} (hl : d.length = d'.length) (h : ∀ (i : Nat) (x y : Ex), d[i]? = some x → d'[i]? = some y → x.en = y.en) : d.map Ex.en = d'.map Ex.en := by
  apply List.ext_getElem?
  intro i
  rw [List.getElem?_map, List.getElem?_map]
  cases hx : d[i]? with
  | none =>
    have : d'[i]? = none := by rw [List.getElem?_eq_none_iff] at hx ⊢; omega
    rw [this]
  | some x =>
    obtain ⟨hi, _⟩ := List.getElem?_eq_some_iff.1 hx
    have hy : d'[i]? = some d'[i] := List.getElem?_eq_getElem (by omega)
    rw [hy, Option.map_some, Option.map_some, h i x _ hx hy]
set_option maxHeartbeats 8000000 in
set_option maxRecDepth 100000 in
theorem opeqf_any (v v' : Value) (d d' : List Ex) (w : World) (hd : RqIn w v d) (hd' : RqIn w v' d') :
    Calls Tryz.prog 27 #[v, v', .func (.func 28) #[] #[]] w fun e w' => e = .returned (.bool (decide (d.map Ex.en = d'.map Ex.en))) ∧ Below w.heap.size w w' := by
  have HD := hid hd
  have HD' := hid hd'
  obtain ⟨a, cap, rfl, hrow⟩ := hd.row
  obtain ⟨a', cap', rfl, hrow'⟩ := hd'.row
  have hlen := hd.len
  have hlen' := hd'.len
  have HR := hid hrow
  have HR' := hid hrow'
  clear hd hd' hrow hrow'
  by_cases hl : d.length = d'.length
  case neg =>
    have hne : ((d.length : Int) != (d'.length : Int)) = true := by rw [bne_iff_ne]; omega
    have HF : Hid (decide (d.map Ex.en = d'.map Ex.en) = false) := hid (decide_eq_false fun q => hl (by have := congrArg List.length q; simpa using this))
    clear hl
    go_enter Tryz.func27, Tryz.ntmps27
    go_wp2_with fail
    go_ret
    exact ⟨by rw [HF.out]; rfl, Below.refl _ _⟩
  have hne : ((d.length : Int) != (d'.length : Int)) = false := by simp; omega
  have HL := hid hl
  clear hl
  go_enter Tryz.func27, Tryz.ntmps27
  go_wp2_with fail
  go_loopg [17] d.length (fun g vi wr => ∃ (i : Nat), vi = .int .i64 i ∧ i ≤ d.length ∧ d.length - i ≤ g ∧ Hid (Below w.heap.size w wr) ∧ Hid (∀ (j : Nat) (x y : Ex), j < i → d[j]? = some x → d'[j]? = some y → x.en = y.en))
  case atStart => exact ⟨0, rfl, by omega, by omega, hid (Below.refl _ _), hid fun j x y h => by omega⟩
  case round =>
    obtain ⟨i, rfl, hi, hig, HB, HA⟩ := hrel
    by_cases hlt : i < d.length
    · have HLT := hid hlt
      have hltz : (i : Int) < (d.length : Int) := by omega
      have hlt2 : i < d'.length := by have := HL.out; omega
      have hltz2 : (i : Int) < (d'.length : Int) := by omega
      have hiz : (0 : Int) ≤ (i : Int) := by omega
      obtain ⟨b, off, rfl, hat⟩ : ∃ b off, a = some ⟨b, off, none⟩ ∧ KEx.At w b off d := by
        rcases HR.out with h | ⟨b, off, h1, h2⟩
        · rw [h] at hlt; simp at hlt
        · exact ⟨b, off, h1, h2⟩
      obtain ⟨b', off', rfl, hat'⟩ : ∃ b off, a' = some ⟨b, off, none⟩ ∧ KEx.At w b off d' := by
        rcases HR'.out with h | ⟨b, off, h1, h2⟩
        · rw [h] at hlt2; simp at hlt2
        · exact ⟨b, off, h1, h2⟩
      obtain ⟨x, hx⟩ : ∃ x, d[i]? = some x := ⟨_, List.getElem?_eq_getElem hlt⟩
      obtain ⟨y, hy⟩ : ∃ y, d'[i]? = some y := ⟨_, List.getElem?_eq_getElem hlt2⟩
      obtain ⟨c0, c1, c2, c3, c4, c5, c6, c7, c8, c9⟩ := row_cellsQ (Kind.at_kept hat HB.out) i x hx
      have HB2 : Hid (Below w.heap.size w (wr.alloc (.cells #[.int .i64 x.kind, .string x.temp, .string x.ka, .string x.kb, .int .i64 x.iff, .slice x.vp x.vo.length x.vc, .slice x.ep x.eo.length x.ec, .slice x.pp x.po.length x.pc, .int .u64 x.stamp, .int .i64 x.num] 41))) := hid (HB.out.alloc HB.out.size _)
      obtain ⟨f0, f1, f2, f3, f4, f5, f6, f7, f8, f9⟩ := row_cellsQ (Kind.at_kept hat' HB2.out) i y hy
      simp only [Nat.add_zero] at c0 f0
      have HB3 : Hid (Below w.heap.size w ((wr.alloc (.cells #[.int .i64 x.kind, .string x.temp, .string x.ka, .string x.kb, .int .i64 x.iff, .slice x.vp x.vo.length x.vc, .slice x.ep x.eo.length x.ec, .slice x.pp x.po.length x.pc, .int .u64 x.stamp, .int .i64 x.num] 41)).alloc (.cells #[.int .i64 y.kind, .string y.temp, .string y.ka, .string y.kb, .int .i64 y.iff, .slice y.vp y.vo.length y.vc, .slice y.ep y.eo.length y.ec, .slice y.pp y.po.length y.pc, .int .u64 y.stamp, .int .i64 y.num] 41))) := hid (HB2.out.alloc HB2.out.size _)
      have HSM : Hid (∀ W, Below w.heap.size w W → Calls Tryz.prog 28 #[.agg #[.int .i64 x.kind, .string x.temp, .string x.ka, .string x.kb, .int .i64 x.iff, .slice x.vp x.vo.length x.vc, .slice x.ep x.eo.length x.ec, .slice x.pp x.po.length x.pc, .int .u64 x.stamp, .int .i64 x.num], .agg #[.int .i64 y.kind, .string y.temp, .string y.ka, .string y.kb, .int .i64 y.iff, .slice y.vp y.vo.length y.vc, .slice y.ep y.eo.length y.ec, .slice y.pp y.po.length y.pc, .int .u64 y.stamp, .int .i64 y.num]] W fun e w' => e = .returned (.bool (decide (x.en = y.en))) ∧ Below W.heap.size W w') := hid fun W h => opsame_any x y W ((HD.out.each x (List.mem_of_getElem? hx)).on h) ((HD'.out.each y (List.mem_of_getElem? hy)).on h)
      have HX := hid hx
      have HY := hid hy
      clear hat hat' hx hy
      go_wp2_with fail
      refine (HSM.out _ HB3.out).mono ?_
      rintro e w4 ⟨rfl, hb4⟩
      have HB4 := hid (HB3.out.trans (hb4.mono HB3.out.size))
      clear hb4 c0 c1 c2 c3 c4 c5 c6 c7 c8 c9 f0 f1 f2 f3 f4 f5 f6 f7 f8 f9
      by_cases hs : x.en = y.en
      · have HA2 : Hid (∀ (j : Nat) (x y : Ex), j < i + 1 → d[j]? = some x → d'[j]? = some y → x.en = y.en) := hid fun j x' y' hj h1 h2 => by
          by_cases q : j = i
          · subst q
            rw [HX.out] at h1; rw [HY.out] at h2
            cases h1; cases h2; exact hs
          · exact HA.out j x' y' (by omega) h1 h2
        have hd := decide_eq_true hs
        rw [hd]
        clear hs
        go_wp2_with fail
        go_roundg (d.length - (i + 1))
        case measure => omega
        exact ⟨i + 1, by go_num, HLT.out, Nat.le_refl _, HB4, HA2⟩
      · have HF : Hid (decide (d.map Ex.en = d'.map Ex.en) = false) := hid (decide_eq_false fun q => hs (by
          have h := congrArg (·[i]?) q
          simp only [List.getElem?_map, HX.out, HY.out, Option.map_some] at h
          exact Option.some.inj h))
        have hd := decide_eq_false hs
        rw [hd]
        clear hs
        go_wp2_with fail
        go_ret
        exact ⟨by rw [HF.out]; rfl, HB4.out⟩
    · have hltz : ¬ (i : Int) < (d.length : Int) := by omega
      have HF : Hid (decide (d.map Ex.en = d'.map Ex.en) = true) := hid (decide_eq_true (all_same HL.out fun j x y h1 h2 => HA.out j x y (by have := (List.getElem?_eq_some_iff.1 h1).1; omega) h1 h2))
      go_wp2_with fail
      go_ret
      exact ⟨by rw [HF.out]; rfl, HB.out⟩
set_option maxHeartbeats 4000000 in
theorem opEqual_any (o o' : Bool) (v v' : Value) (d d' : List Ex) (w : World) (hd : RqIn w v d) (hd' : RqIn w v' d') :
    Calls Tryz.prog 14 #[.agg #[.bool o, v], .agg #[.bool o', v']] w fun e w' => e = .returned (.bool (decide (o = o' ∧ d.map Ex.en = d'.map Ex.en))) ∧ Below w.heap.size w w' := by
  obtain ⟨a, cap, rfl, _⟩ := hd.row
  obtain ⟨a', cap', rfl, _⟩ := hd'.row
  have HB : Hid (Below w.heap.size w ((w.alloc (.cells #[.bool o, .slice a d.length cap] 24)).alloc (.cells #[.bool o', .slice a' d'.length cap'] 24))) := hid (((Below.refl _ _).alloc (Nat.le_refl _) _).alloc (by simp) _)
  have HE := hid (opeqf_any _ _ d d' _ (hd.on HB.out) (hd'.on HB.out))
  clear hd hd'
  by_cases ho : o = o'
  · subst ho
    have hq : (o == o) = true := by cases o <;> rfl
    have HF : Hid (decide (o = o ∧ d.map Ex.en = d'.map Ex.en) = decide (d.map Ex.en = d'.map Ex.en)) := hid (by simp)
    go_enter Tryz.func14, Tryz.ntmps14
    go_wp2_with (go_at_call 27; refine HE.out.mono ?_; rintro e w1 ⟨rfl, hb1⟩; have HB1 := hid (HB.out.trans (hb1.mono HB.out.size)); clear hb1)
    go_ret
    exact ⟨by rw [HF.out]; rfl, HB1.out⟩
  · have hq : (o == o') = false := by cases o <;> cases o' <;> simp_all
    have HF : Hid (decide (o = o' ∧ d.map Ex.en = d'.map Ex.en) = false) := hid (decide_eq_false fun q => ho q.1)
    go_enter Tryz.func14, Tryz.ntmps14
    go_wp2_with fail
    go_ret
    exact ⟨by rw [HF.out]; rfl, HB.out⟩
theorem opWrites_any (x : Ex) (w : World) :
    Calls Tryz.prog 17 #[aggEx x] w fun e w' => e = .returned (.bool (decide (1 ≤ x.kind) && decide (x.kind ≤ 5))) ∧ Below w.heap.size w w' := by
  unfold aggEx
  simp only [encEx, Ex.vs, Ex.es, Ex.ps]
  have HB : Hid (Below w.heap.size w (w.alloc (.cells #[.int .i64 x.kind, .string x.temp, .string x.ka, .string x.kb, .int .i64 x.iff, .slice x.vp x.vo.length x.vc, .slice x.ep x.eo.length x.ec, .slice x.pp x.po.length x.pc, .int .u64 x.stamp, .int .i64 x.num] 41))) := hid ((Below.refl _ _).alloc (Nat.le_refl _) _)
  by_cases h0 : 1 ≤ x.kind
  · have H0 : Hid (decide (1 ≤ x.kind) = true) := hid (decide_eq_true h0)
    go_enter Tryz.func17, Tryz.ntmps17
    go_wp2_with fail
    go_ret
    exact ⟨by rw [H0.out]; rfl, HB.out⟩
  · have H0 : Hid (decide (1 ≤ x.kind) = false) := hid (decide_eq_false h0)
    go_enter Tryz.func17, Tryz.ntmps17
    go_wp2_with fail
    go_ret
    exact ⟨by rw [H0.out]; rfl, HB.out⟩
end Go.Proofs.YtpdccbeeoapplaaGreatDoor
