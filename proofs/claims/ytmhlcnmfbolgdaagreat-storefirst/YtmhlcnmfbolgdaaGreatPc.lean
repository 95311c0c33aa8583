/-
  Texts of this claim, one behind the other: Dpu Dcp Dpr Dky Dlv Dfs Pc5 Psv Dsc Dmk Dwk Dcy Dwi Dwd Sh2 Dea Dlg Ls0 Yt0 Wm0 Qm0 Vm0 Vm1 Vm2 Wr0 Wr1 Wr2 Psn Wr4 Krf Krk Rmay Wr3 Wr5 Wfo Wgp Gmp Ws1 Ws2 Yt1 Yr0 Yp0 Ys1 Yl1 Yl2 Yl3 Flt Two Yl4 Ys2 Yc1 Yc2 Mtw Pu2 Pbx Mr6 Yc3 Yr1 Mq0 Yq0.
-/
import Derived.Test.YtmhlcnmfbolgdaaGreatPb
import Derived.Test.YtmhlcnmfbolgdaaGreatPa
import Derived.Shelf.Abstract
import Derived.Shelf.RegionOpen
import Derived.OwnWalkIn
import Derived.TacticsInMore
import Derived.LoopNIn
import Derived.LoopIn
import Derived.Deep.RegionHeld3
import Derived.Deep.DeepAppendWide
import Derived.Shelf.SlGeneric
import Derived.Shelf.SlicesE.Clone
import Derived.Shelf.SlicesQ.IndexFunc
import Derived.Shelf.SlSortCmp.InsertionK
import Derived.Ground.NamesProg
import Derived.Shelf.Lays
import Derived.Ground.SlsfProg
import Derived.Shelf.SlLaysF0
import Derived.Test.YtmhlcnmfbolgdaaGreatProg
import Derived.Maps.OwnSet
import Derived.Maps.OwnOps
import Derived.Maps.Views
import Derived.Maps.RangeWalk
import Derived.Sort.MapsRangeIn
import Derived.DataShut
import Derived.Laws.MakeOwn
namespace Go.Proofs.YtmhlcnmfbolgdaaGreat
open Go.RowKit
def codeD (D : List RowD) (k : Ky) (stamp : Int) (live : Bool) (val : List Fld) : Int := if keyB k.1 k.2 = true then putC (ofD D k) stamp live val else 2
def numD (D : List RowD) (k : Ky) (stamp : Int) (live : Bool) (val : List Fld) : Int := if codeD D k stamp live val = 0 then (lastV (ofD D k)).num + 1 else 0
def putD (D : List RowD) (k : Ky) (stamp tick : Int) (live : Bool) (val : List Fld) : List RowD := if codeD D k stamp live val = 0 then setD k (putV (ofD D k) stamp tick live val) D else D
theorem putV_len (l : List Vr) (stamp tick : Int) (live : Bool) (val : List Fld) : (putV l stamp tick live val).length = l.length + 1 := by unfold putV; simp
theorem putV_ne (l : List Vr) (stamp tick : Int) (live : Bool) (val : List Fld) : putV l stamp tick live val ≠ [] := by unfold putV; simp
theorem putV_num (l : List Vr) (stamp tick : Int) (live : Bool) (val : List Fld) : (lastV (putV l stamp tick live val)).num = (lastV l).num + 1 := by unfold putV; rw [lastV_snoc]
theorem turn_put {n0 : Nat} {W wc w4 w5 : World} {g m n : Nat} {G : Ky → Cm} {D : List RowD} (h : DirM n0 W g m n G D) (hbc : Below W.heap.size W wc) (k : Ky) (c0 : Cm) (hk : keyB k.1 k.2 = true)
    (hc : (ofD D k ≠ [] ∧ c0 = G k) ∨ (ofD D k = [] ∧ ∀ b, c0.blk b → W.heap.size ≤ b)) {stamp tick : Int} {live : Bool} {val : List Fld} (ht : TurnC n0 wc c0.g c0.d c0.vs (putL (ofD D k) stamp tick live val) w4) (hcode : putC (ofD D k) stamp live val = 0)
    (f5 : Fr (fun b => b = m) w4 w5) (hm : MapD w5 m (n + 1) (fun y => if y = k then some c0.g else fOf G D y)) : TurnD n0 W g m G D (n + 1) (putD D k stamp tick live val) w5 := by
  have hl : putL (ofD D k) stamp tick live val = putV (ofD D k) stamp tick live val := if_pos hcode
  rw [hl] at ht
  have hok : OkV (putV (ofD D k) stamp tick live val) := by
    obtain ⟨d', vs', hp, hv, _⟩ := ht
    rw [← hv]
    exact hp.ok
  have hcd : codeD D k stamp live val = 0 := by unfold codeD; rw [if_pos hk]; exact hcode
  have hcnt := setD_count k (putV (ofD D k) stamp tick live val) h.ok
  rw [putV_len] at hcnt
  have hnum := h.num k
  have hfew := h.few
  obtain ⟨G', h1, h2, h3⟩ := dirM_set (h.on hbc) k c0 (hc.imp id fun ⟨a, b⟩ => ⟨a, fun x hx hn => by have := (h.blk x hn).2; have := b x hx; omega⟩) ht f5 hm (putV_ne _ _ _ _ _) hk hok (by rw [putV_num]; omega) (by omega) (by omega)
  have hs := hbc.size
  have hcb : ∀ b, c0.blk b → BlkD g m G D b ∨ W.heap.size ≤ b := fun b hb => by
    rcases hc with ⟨a, rfl⟩ | ⟨_, a⟩
    · exact Or.inl (Or.inr (Or.inr ⟨k, a, hb⟩))
    · exact Or.inr (a b hb)
  have hD : putD D k stamp tick live val = setD k (putV (ofD D k) stamp tick live val) D := if_pos hcd
  rw [hD]
  refine ⟨G', h1, fun b hb => ?_, Fr.then (Fr.of_below hbc) h3 fun b hb => ?_⟩
  · rcases h2 b hb with h | h | h
    · exact Or.inl h
    · exact hcb b h
    · exact Or.inr (by omega)
  · rcases hb with rfl | hb
    · exact Or.inl (Or.inr (Or.inl rfl))
    · exact hcb b hb
theorem turn_not {n0 : Nat} {W wc w4 : World} {g m n : Nat} {G : Ky → Cm} {D : List RowD} (h : DirM n0 W g m n G D) (hbc : Below W.heap.size W wc) (k : Ky) (c0 : Cm) (hk : keyB k.1 k.2 = true)
    (hc : (ofD D k ≠ [] ∧ c0 = G k) ∨ (ofD D k = [] ∧ ∀ b, c0.blk b → W.heap.size ≤ b)) {stamp tick : Int} {live : Bool} {val : List Fld} (ht : TurnC n0 wc c0.g c0.d c0.vs (putL (ofD D k) stamp tick live val) w4) (hcode : putC (ofD D k) stamp live val ≠ 0) : TurnD n0 W g m G D (n + 1) (putD D k stamp tick live val) w4 := by
  have hl : putL (ofD D k) stamp tick live val = ofD D k := if_neg hcode
  rw [hl] at ht
  have hcd : codeD D k stamp live val ≠ 0 := by unfold codeD; rw [if_pos hk]; exact hcode
  have hD : putD D k stamp tick live val = D := if_neg hcd
  rw [hD]
  have hs := hbc.size
  rcases hc with ⟨a, rfl⟩ | ⟨a, b⟩
  · have hok : OkV (ofD D k) := ofD_ok h.ok k
    have hcnt := setD_count k (ofD D k) h.ok
    have hnum := h.num k
    have hfew := h.few
    have hb4 : w4.heap[m]? = wc.heap[m]? := by
      obtain ⟨d', vs', _, _, _, f⟩ := ht
      exact f.block m (Nat.lt_of_lt_of_le h.map.lt hs) fun hb => (h.off k a m hb).2 rfl
    have hm : MapD w4 m (n + 1) (fun y => if y = k then some (G k).g else fOf G D y) := (((h.map.on (hbc.block m h.map.lt)).on hb4).mono (Nat.le_succ n)).congr fun y _ => by
      by_cases e : y = k
      · subst e; rw [if_pos rfl, fOf_some a]
      · rw [if_neg e]
    obtain ⟨G', h1, h2, h3⟩ := dirM_set (h.on hbc) k (G k) (Or.inl ⟨a, rfl⟩) ht (Fr.refl _ _) hm a hk hok (by omega) (by omega) (by omega)
    rw [setD_id h.ok a] at h1 h2
    refine ⟨G', h1, fun x hx => ?_, Fr.then (Fr.of_below hbc) h3 fun x hx => ?_⟩
    · rcases h2 x hx with h | h | h
      · exact Or.inl h
      · exact Or.inl (Or.inr (Or.inr ⟨k, a, h⟩))
      · exact Or.inr (by omega)
    · rcases hx with rfl | hx
      · exact Or.inl (Or.inr (Or.inl rfl))
      · exact Or.inl (Or.inr (Or.inr ⟨k, a, hx⟩))
  · obtain ⟨d', vs', _, _, _, f⟩ := ht
    exact TurnD.same h (hbc.trans (f.below hs b)) (Nat.le_succ n)
set_option maxHeartbeats 4000000 in
set_option maxRecDepth 100000 in
theorem dput_any {n0 : Nat} {W : World} {g m n : Nat} {G : Ky → Cm} {D : List RowD} (h : DirM n0 W g m n G D) (hn : n < 2400000000000) (hn0 : n0 ≤ W.heap.size) (k : Ky) (hk : FitK k) (stamp tick : Int) (live : Bool) (v : Value) (e : List Fx) (val : List Fld) (hv : IsXs W v e) (hf : FitX e) (hval : e.map Fx.fld = val) (h0 : 0 ≤ stamp) :
    Calls Tryz.prog 151 #[.pointer (some ⟨g, 0, none⟩), .agg #[.string k.1, .string k.2], .int .u64 stamp, .int .i64 tick, .bool live, v] W fun r w' =>
      r = .returned (.tuple #[.int .i64 (numD D k stamp live val), .int .i64 (codeD D k stamp live val)]) ∧ TurnD n0 W g m G D (n + 1) (putD D k stamp tick live val) w' := by
  obtain ⟨N, hN⟩ : ∃ N, W.heap.size = N := ⟨_, rfl⟩
  obtain ⟨W1, hW1⟩ : ∃ W1, W.alloc (.cells #[.string k.1, .string k.2] 39) = W1 := ⟨_, rfl⟩
  have hs1 : W1.heap.size = N + 1 := by rw [← hW1, ← hN]; simp
  have hb1 : Below N W W1 := by rw [← hW1, ← hN]; exact (Below.refl _ _).alloc (Nat.le_refl _) _
  have hk1 : W1.heap[N]? = some (.cells #[.string k.1, .string k.2] 39 (0, 0)) := by rw [← hW1, ← hN]; exact heap_alloc_new W _
  have KC : Hid (∀ w', Below W1.heap.size W1 w' → w'.cell? ⟨N, 0, none⟩ = some (.string k.1) ∧ w'.cell? ⟨N, 1, none⟩ = some (.string k.2)) := fun w' hb => by
    have := (hb.block N (by omega)).trans hk1
    exact ⟨by rw [Lib.cell_of_heap this]; rfl, by rw [Lib.cell_of_heap this]; rfl⟩
  have KB : Hid (∀ w', Below W1.heap.size W1 w' → Below W.heap.size W w') := fun w' hb => by rw [hN]; exact bel_then hb1 (by omega) hb
  have HK := hid (key_any k.1 k.2 W1 hk.1 hk.2)
  have HO : Hid (∀ w', Below W1.heap.size W1 w' → Calls Tryz.prog 175 #[.pointer (some ⟨g, 0, none⟩), .agg #[.string k.1, .string k.2]] w' fun e w2 => e = .returned (mkP (fOf G D k)) ∧ Below w'.heap.size w' w2) := fun w' hb => (h.on (KB.out w' hb)).of k hk
  have HH := hid h
  have HV := hid hv
  obtain ⟨c0, c1⟩ := KC.out W1 (Below.refl _ _)
  have hnum := h.num k
  cases hkb : keyB k.1 k.2 with
  | false =>
    have HC : Hid (codeD D k stamp live val = 2 ∧ numD D k stamp live val = 0 ∧ putD D k stamp tick live val = D) := by
      have e1 : codeD D k stamp live val = 2 := by unfold codeD; rw [hkb]; rfl
      refine ⟨e1, ?_, ?_⟩
      · unfold numD; rw [e1]; rfl
      · unfold putD; rw [e1]; rfl
    rw [HC.out.1, HC.out.2.1, HC.out.2.2]
    rw [hkb] at HK
    obtain ⟨ka, kb⟩ := k
    simp only at *
    clear hk1 hb1 h hk hv hkb
    go_enter Tryz.func151, Tryz.ntmps151
    go_wp2_with fail
    refine HK.out.mono ?_
    rintro e w2 ⟨rfl, hb2⟩
    have HB2 := hid (KB.out w2 hb2)
    clear hb2
    go_wp2_with fail
    go_ret2
    exact ⟨rfl, TurnD.same HH.out HB2.out (Nat.le_succ n)⟩
  | true =>
    rw [hkb] at HK
    have HCO : Hid (codeD D k stamp live val = putC (ofD D k) stamp live val) := by show _ = _; unfold codeD; rw [hkb]; rfl
    have HKB := hid hkb
    have hcell := h.cell
    have hgm : g < W.heap.size := cell_block hcell
    have hml := h.map.lt
    have KG : Hid (∀ w' : World, w'.heap[g]? = W.heap[g]? → w'.cell? ⟨g, 0, none⟩ = some (.map (some m))) := fun w' he => (World.cell?_of_block he).trans hcell
    by_cases hof : ofD D k = []
    · skip
      have HPU : Hid (∀ w' wc, Below W1.heap.size W1 w' → PrgC w'.heap.size wc w'.heap.size [] (.slice none 0 0) → Below w'.heap.size w' wc → Calls Tryz.prog 233 #[.pointer (some ⟨w'.heap.size, 0, none⟩), .int .u64 stamp, .int .i64 tick, .bool live, v] wc fun r w2 =>
          r = .returned (.tuple #[.int .i64 (putN (ofD D k) stamp live val), .int .i64 (putC (ofD D k) stamp live val)]) ∧ TurnC n0 wc w'.heap.size [] (.slice none 0 0) (putL (ofD D k) stamp tick live val) w2) := fun w' wc hb hp hbc => by
        have hb' := KB.out w' hb
        have hs' := hb'.size
        have := put_any (hp.weak (show n0 ≤ w'.heap.size by omega)) stamp tick live v e val ((HV.out.kept hb').kept hbc) hf hval h0 (by show (0 : Int) < _; omega)
        rw [hof]
        exact this
      have HOP : Hid (∀ w' : World, Below W1.heap.size W1 w' → ∀ b, BlkC w'.heap.size [] (.slice none 0 0) b → b = w'.heap.size ∧ N + 1 ≤ b) := fun w' hb b hx => by
        have hs' := hb.size
        rcases hx with rfl | hx | ⟨x, hx, _⟩
        · exact ⟨rfl, by omega⟩
        · cases hx
        · simp at hx
      rw [fOf_none hof] at HO
      simp only [mkP, Option.map_none] at HO
      obtain ⟨cd, hcd⟩ : ∃ cd, putC (ofD D k) stamp live val = cd := ⟨_, rfl⟩
      obtain ⟨pn, hpn⟩ : ∃ pn, putN (ofD D k) stamp live val = pn := ⟨_, rfl⟩
      rw [hcd, hpn] at HPU
      by_cases hz : cd = 0
      · have hcb : (cd != 0) = false := by rw [hz]; rfl
        have HC : Hid (codeD D k stamp live val = 0 ∧ numD D k stamp live val = pn) := by
          have e1 : codeD D k stamp live val = 0 := by rw [HCO.out, hcd, hz]
          refine ⟨e1, ?_⟩
          unfold numD
          rw [if_pos e1, ← hpn]
          unfold putN
          rw [hcd, hz, if_pos rfl]
        have HZ : Hid (putC (ofD D k) stamp live val = 0) := hcd.trans hz
        rw [HC.out.1, HC.out.2]
        obtain ⟨ka, kb⟩ := k
        simp only at *
        clear hk1 hb1 h hv hkb hcd hpn hcell
        go_enter Tryz.func151, Tryz.ntmps151
        go_wp2_with fail
        refine HK.out.mono ?_
        rintro e w2 ⟨rfl, hb2⟩
        obtain ⟨c0, c1⟩ := KC.out w2 hb2
        have HO2 := hid (HO.out w2 hb2)
        have HB2 := hid hb2
        clear hb2
        go_wp2_with fail
        refine HO2.out.mono ?_
        rintro e w3 ⟨rfl, hb3⟩
        have HB3 : Hid (Below W1.heap.size W1 w3) := bel_then HB2.out HB2.out.size hb3
        clear hb3 c0 c1
        have HN3 := hid (new_any w3)
        go_wp2_with fail
        refine HN3.out.mono ?_
        rintro e wc ⟨rfl, hpc, hbc⟩
        have HBC : Hid (Below W1.heap.size W1 wc) := bel_then HB3.out HB3.out.size hbc
        have HP3 := hid (HPU.out w3 wc HB3.out hpc hbc)
        have hs3 := HB3.out.size
        clear hpc hbc HN3
        go_wp2_with fail
        refine HP3.out.mono ?_
        rintro e w4 ⟨rfl, ht⟩
        have HT := hid ht
        obtain ⟨c0, c1⟩ := KC.out wc HBC.out
        have hfr : Fr (BlkC w3.heap.size [] (.slice none 0 0)) wc w4 := by obtain ⟨_, _, _, _, _, f⟩ := ht; exact f
        have hN4 : w4.heap[N]? = wc.heap[N]? := hfr.block N (by have := HBC.out.size; omega) (fun hb => by have := (HOP.out w3 HB3.out N hb).2; omega)
        have hg4 : w4.heap[g]? = W.heap[g]? := (hfr.block g (Nat.lt_of_lt_of_le hgm (KB.out _ HBC.out).size) (fun hb => by have := (HOP.out w3 HB3.out g hb).2; omega)).trans ((KB.out _ HBC.out).block g hgm)
        have hm4 : w4.heap[m]? = W.heap[m]? := (hfr.block m (Nat.lt_of_lt_of_le hml (KB.out _ HBC.out).size) (fun hb => by have := (HOP.out w3 HB3.out m hb).2; omega)).trans ((KB.out _ HBC.out).block m hml)
        have d0 : w4.cell? ⟨N, 0, none⟩ = some (.string ka) := (World.cell?_of_block hN4).trans c0
        have d1 : w4.cell? ⟨N, 1, none⟩ = some (.string kb) := (World.cell?_of_block hN4).trans c1
        have d2 := KG.out w4 hg4
        obtain ⟨w5, hrun, hM5, hg5⟩ := mapD_put (W := w4.drew) (HH.out.map.on hm4) (k := (ka, kb)) hk (by unfold maxLen; omega) w3.heap.size
        simp only [valK, mkP, Option.map_some] at hrun
        have HM5 := hid hM5
        have HG5 := hid hg5
        clear hM5 hg5 ht hfr hN4 hg4 hm4 c0 c1
        go_wp2_with fail
        refine wp_region_held_drew (S := fun w' => w'.cell? ⟨g, 0, none⟩ = some (.map (some m)) ∧ w'.cell? ⟨N, 0, none⟩ = some (.string ka) ∧ w'.cell? ⟨N, 1, none⟩ = some (.string kb)) (by kernel_rfl) ⟨d2, d0, d1⟩ (fun hHeld => ?_)
        refine take_val (i := 0) (.pointer (some ⟨g, 0, none⟩)) rfl (by kernel_rfl) (by kernel_rfl) (by kernel_rfl) (fun _ _ _ h => h) (by rfl) (fun w hSw => by go_simp) hHeld ?_
        simp only [Act.put, List.setIfInBounds_toArray, List.set_cons_zero, List.set_cons_succ]
        refine take_val (i := 1) (.pointer (some ⟨g, 0, none⟩)) rfl (by kernel_rfl) (by kernel_rfl) (by kernel_rfl) (fun _ _ _ h => h) (by rfl) (fun w hSw => by go_simp) hHeld ?_
        simp only [Act.put, List.setIfInBounds_toArray, List.set_cons_zero, List.set_cons_succ]
        refine take_val (i := 2) (.pointer (some ⟨g, 0, none⟩)) rfl (by kernel_rfl) (by kernel_rfl) (by kernel_rfl) (fun _ _ _ h => h) (by rfl) (fun w hSw => by go_simp) hHeld ?_
        simp only [Act.put, List.setIfInBounds_toArray, List.set_cons_zero, List.set_cons_succ]
        refine take_val (i := 3) (.map (some m)) rfl (by kernel_rfl) (by kernel_rfl) (by kernel_rfl) (fun _ _ _ h => h) (by rfl) (fun w hSw => by go_simp) hHeld ?_
        simp only [Act.put, List.setIfInBounds_toArray, List.set_cons_zero, List.set_cons_succ]
        refine take_val (i := 4) (.agg #[.string ka, .string kb]) rfl (by kernel_rfl) (by kernel_rfl) (by kernel_rfl) (fun _ _ _ h => h) (by rfl) (fun w hSw => by go_simp) hHeld ?_
        simp only [Act.put, List.setIfInBounds_toArray, List.set_cons_zero, List.set_cons_succ]
        refine take_val (i := 5) (.pointer (some ⟨w3.heap.size, 0, none⟩)) rfl (by kernel_rfl) (by kernel_rfl) (by kernel_rfl) (fun _ _ _ h => h) (by rfl) (fun w hSw => by go_simp) hHeld ?_
        simp only [Act.put, List.setIfInBounds_toArray, List.set_cons_zero, List.set_cons_succ]
        refine wpAnyH_ready (rs := [6]) (by kernel_rfl) (by simp) ?_
        refine AllReadyH.cons (at_drop0 rfl) (fun K hK => ?_) AllReadyH.nil
        rw [if_pos (by rfl)]
        go_simp
        have f5 : Fr (fun b => b = m) w4 w5 := by
          have q := Fr.of_grown (P := fun b => b = m) HG5.out fun k hk => by injection hk with hk; exact hk.symm
          exact ⟨q.os, q.tape, q.output, q.size, q.block⟩
        have q5 : w5.cell? ⟨g, 0, none⟩ = some (.map (some m)) ∧ w5.cell? ⟨N, 0, none⟩ = some (.string ka) ∧ w5.cell? ⟨N, 1, none⟩ = some (.string kb) :=
          ⟨f5.cell d2 HH.out.ne, f5.cell d0 (by show N ≠ m; omega), f5.cell d1 (by show N ≠ m; omega)⟩
        refine hK.out _ _ q5 (fun hHeld => ?_)
        clear hK K
        try simp only [Act.put, List.setIfInBounds_toArray, List.set_cons_zero, List.set_cons_succ]
        refine wpAnyH_done (by kernel_rfl) ?_ _
        go_wp2_with fail
        go_ret2
        exact ⟨rfl, turn_put HH.out (KB.out _ HBC.out) (ka, kb) ⟨w3.heap.size, [], .slice none 0 0⟩ HKB.out (Or.inr ⟨hof, fun b hb => by have := (HOP.out w3 HB3.out b hb).2; omega⟩) HT.out HZ.out f5 HM5.out⟩
      · have hcb : (cd != 0) = true := by simpa using hz
        have HC : Hid (codeD D k stamp live val = cd ∧ numD D k stamp live val = 0) := by
          have e1 : codeD D k stamp live val = cd := by rw [HCO.out, hcd]
          refine ⟨e1, ?_⟩
          unfold numD
          rw [e1, if_neg hz]
        have HZ : Hid (putC (ofD D k) stamp live val ≠ 0) := by show _ ≠ _; rw [hcd]; exact hz
        rw [HC.out.1, HC.out.2]
        obtain ⟨ka, kb⟩ := k
        simp only at *
        clear hk1 hb1 h hv hkb hcd hpn hcell hz
        go_enter Tryz.func151, Tryz.ntmps151
        go_wp2_with fail
        refine HK.out.mono ?_
        rintro e w2 ⟨rfl, hb2⟩
        obtain ⟨c0, c1⟩ := KC.out w2 hb2
        have HO2 := hid (HO.out w2 hb2)
        have HB2 := hid hb2
        clear hb2
        go_wp2_with fail
        refine HO2.out.mono ?_
        rintro e w3 ⟨rfl, hb3⟩
        have HB3 : Hid (Below W1.heap.size W1 w3) := bel_then HB2.out HB2.out.size hb3
        clear hb3 c0 c1
        have HN3 := hid (new_any w3)
        go_wp2_with fail
        refine HN3.out.mono ?_
        rintro e wc ⟨rfl, hpc, hbc⟩
        have HBC : Hid (Below W1.heap.size W1 wc) := bel_then HB3.out HB3.out.size hbc
        have HP3 := hid (HPU.out w3 wc HB3.out hpc hbc)
        have hs3 := HB3.out.size
        clear hpc hbc HN3
        go_wp2_with fail
        refine HP3.out.mono ?_
        rintro e w4 ⟨rfl, ht⟩
        have HT := hid ht
        clear ht
        go_wp2_with fail
        go_ret2
        exact ⟨rfl, turn_not HH.out (KB.out _ HBC.out) (ka, kb) ⟨w3.heap.size, [], .slice none 0 0⟩ HKB.out (Or.inr ⟨hof, fun b hb => by have := (HOP.out w3 HB3.out b hb).2; omega⟩) HT.out HZ.out⟩
    · skip
      have hpr := h.prg k hof
      have hoff := h.off k hof
      have HPU : Hid (∀ w', Below W1.heap.size W1 w' → Calls Tryz.prog 233 #[.pointer (some ⟨(G k).g, 0, none⟩), .int .u64 stamp, .int .i64 tick, .bool live, v] w' fun r w2 =>
          r = .returned (.tuple #[.int .i64 (putN (ofD D k) stamp live val), .int .i64 (putC (ofD D k) stamp live val)]) ∧ TurnC n0 w' (G k).g (G k).d (G k).vs (putL (ofD D k) stamp tick live val) w2) := fun w' hb => by
        have hb' := KB.out w' hb
        have := put_any (hpr.1.on hb') stamp tick live v e val (HV.out.kept hb') hf hval h0 (by rw [hpr.2]; omega)
        rwa [hpr.2] at this
      have HOP : Hid (∀ b, (G k).blk b → b ≠ g ∧ b ≠ m ∧ b < N) := fun b hb => ⟨(hoff b hb).1, (hoff b hb).2, by rw [← hN]; exact (hpr.1.blk b hb).2⟩
      rw [fOf_some hof] at HO
      simp only [mkP, Option.map_some] at HO
      clear hpr hoff
      obtain ⟨cd, hcd⟩ : ∃ cd, putC (ofD D k) stamp live val = cd := ⟨_, rfl⟩
      obtain ⟨pn, hpn⟩ : ∃ pn, putN (ofD D k) stamp live val = pn := ⟨_, rfl⟩
      rw [hcd, hpn] at HPU
      by_cases hz : cd = 0
      · have hcb : (cd != 0) = false := by rw [hz]; rfl
        have HC : Hid (codeD D k stamp live val = 0 ∧ numD D k stamp live val = pn) := by
          have e1 : codeD D k stamp live val = 0 := by rw [HCO.out, hcd, hz]
          refine ⟨e1, ?_⟩
          unfold numD
          rw [if_pos e1, ← hpn]
          unfold putN
          rw [hcd, hz, if_pos rfl]
        have HZ : Hid (putC (ofD D k) stamp live val = 0) := hcd.trans hz
        rw [HC.out.1, HC.out.2]
        obtain ⟨ka, kb⟩ := k
        simp only at *
        clear hk1 hb1 h hv hkb hcd hpn hcell
        go_enter Tryz.func151, Tryz.ntmps151
        go_wp2_with fail
        refine HK.out.mono ?_
        rintro e w2 ⟨rfl, hb2⟩
        obtain ⟨c0, c1⟩ := KC.out w2 hb2
        have HO2 := hid (HO.out w2 hb2)
        have HB2 := hid hb2
        clear hb2
        go_wp2_with fail
        refine HO2.out.mono ?_
        rintro e w3 ⟨rfl, hb3⟩
        have HB3 : Hid (Below W1.heap.size W1 w3) := bel_then HB2.out HB2.out.size hb3
        clear hb3 c0 c1
        have HP3 := hid (HPU.out w3 HB3.out)
        go_wp2_with fail
        refine HP3.out.mono ?_
        rintro e w4 ⟨rfl, ht⟩
        have HT := hid ht
        obtain ⟨c0, c1⟩ := KC.out w3 HB3.out
        have hfr : Fr (BlkC (G (ka, kb)).g (G (ka, kb)).d (G (ka, kb)).vs) w3 w4 := by obtain ⟨_, _, _, _, _, f⟩ := ht; exact f
        have hN4 : w4.heap[N]? = w3.heap[N]? := hfr.block N (by have := HB3.out.size; omega) (fun hb => by have := (HOP.out N hb).2.2; omega)
        have hg4 : w4.heap[g]? = W.heap[g]? := (hfr.block g (Nat.lt_of_lt_of_le hgm (KB.out _ HB3.out).size) (fun hb => (HOP.out g hb).1 rfl)).trans ((KB.out _ HB3.out).block g hgm)
        have hm4 : w4.heap[m]? = W.heap[m]? := (hfr.block m (Nat.lt_of_lt_of_le hml (KB.out _ HB3.out).size) (fun hb => (HOP.out m hb).2.1 rfl)).trans ((KB.out _ HB3.out).block m hml)
        have d0 : w4.cell? ⟨N, 0, none⟩ = some (.string ka) := (World.cell?_of_block hN4).trans c0
        have d1 : w4.cell? ⟨N, 1, none⟩ = some (.string kb) := (World.cell?_of_block hN4).trans c1
        have d2 := KG.out w4 hg4
        obtain ⟨w5, hrun, hM5, hg5⟩ := mapD_put (W := w4.drew) (HH.out.map.on hm4) (k := (ka, kb)) hk (by unfold maxLen; omega) (G (ka, kb)).g
        simp only [valK, mkP, Option.map_some] at hrun
        have HM5 := hid hM5
        have HG5 := hid hg5
        clear hM5 hg5 ht hfr hN4 hg4 hm4 c0 c1
        go_wp2_with fail
        refine wp_region_held_drew (S := fun w' => w'.cell? ⟨g, 0, none⟩ = some (.map (some m)) ∧ w'.cell? ⟨N, 0, none⟩ = some (.string ka) ∧ w'.cell? ⟨N, 1, none⟩ = some (.string kb)) (by kernel_rfl) ⟨d2, d0, d1⟩ (fun hHeld => ?_)
        refine take_val (i := 0) (.pointer (some ⟨g, 0, none⟩)) rfl (by kernel_rfl) (by kernel_rfl) (by kernel_rfl) (fun _ _ _ h => h) (by rfl) (fun w hSw => by go_simp) hHeld ?_
        simp only [Act.put, List.setIfInBounds_toArray, List.set_cons_zero, List.set_cons_succ]
        refine take_val (i := 1) (.pointer (some ⟨g, 0, none⟩)) rfl (by kernel_rfl) (by kernel_rfl) (by kernel_rfl) (fun _ _ _ h => h) (by rfl) (fun w hSw => by go_simp) hHeld ?_
        simp only [Act.put, List.setIfInBounds_toArray, List.set_cons_zero, List.set_cons_succ]
        refine take_val (i := 2) (.pointer (some ⟨g, 0, none⟩)) rfl (by kernel_rfl) (by kernel_rfl) (by kernel_rfl) (fun _ _ _ h => h) (by rfl) (fun w hSw => by go_simp) hHeld ?_
        simp only [Act.put, List.setIfInBounds_toArray, List.set_cons_zero, List.set_cons_succ]
        refine take_val (i := 3) (.map (some m)) rfl (by kernel_rfl) (by kernel_rfl) (by kernel_rfl) (fun _ _ _ h => h) (by rfl) (fun w hSw => by go_simp) hHeld ?_
        simp only [Act.put, List.setIfInBounds_toArray, List.set_cons_zero, List.set_cons_succ]
        refine take_val (i := 4) (.agg #[.string ka, .string kb]) rfl (by kernel_rfl) (by kernel_rfl) (by kernel_rfl) (fun _ _ _ h => h) (by rfl) (fun w hSw => by go_simp) hHeld ?_
        simp only [Act.put, List.setIfInBounds_toArray, List.set_cons_zero, List.set_cons_succ]
        refine take_val (i := 5) (.pointer (some ⟨(G (ka, kb)).g, 0, none⟩)) rfl (by kernel_rfl) (by kernel_rfl) (by kernel_rfl) (fun _ _ _ h => h) (by rfl) (fun w hSw => by go_simp) hHeld ?_
        simp only [Act.put, List.setIfInBounds_toArray, List.set_cons_zero, List.set_cons_succ]
        refine wpAnyH_ready (rs := [6]) (by kernel_rfl) (by simp) ?_
        refine AllReadyH.cons (at_drop0 rfl) (fun K hK => ?_) AllReadyH.nil
        rw [if_pos (by rfl)]
        go_simp
        have f5 : Fr (fun b => b = m) w4 w5 := by
          have q := Fr.of_grown (P := fun b => b = m) HG5.out fun k hk => by injection hk with hk; exact hk.symm
          exact ⟨q.os, q.tape, q.output, q.size, q.block⟩
        have q5 : w5.cell? ⟨g, 0, none⟩ = some (.map (some m)) ∧ w5.cell? ⟨N, 0, none⟩ = some (.string ka) ∧ w5.cell? ⟨N, 1, none⟩ = some (.string kb) :=
          ⟨f5.cell d2 HH.out.ne, f5.cell d0 (by show N ≠ m; omega), f5.cell d1 (by show N ≠ m; omega)⟩
        refine hK.out _ _ q5 (fun hHeld => ?_)
        clear hK K
        try simp only [Act.put, List.setIfInBounds_toArray, List.set_cons_zero, List.set_cons_succ]
        refine wpAnyH_done (by kernel_rfl) ?_ _
        go_wp2_with fail
        go_ret2
        exact ⟨rfl, turn_put HH.out (KB.out _ HB3.out) (ka, kb) (G (ka, kb)) HKB.out (Or.inl ⟨hof, rfl⟩) HT.out HZ.out f5 HM5.out⟩
      · have hcb : (cd != 0) = true := by simpa using hz
        have HC : Hid (codeD D k stamp live val = cd ∧ numD D k stamp live val = 0) := by
          have e1 : codeD D k stamp live val = cd := by rw [HCO.out, hcd]
          refine ⟨e1, ?_⟩
          unfold numD
          rw [e1, if_neg hz]
        have HZ : Hid (putC (ofD D k) stamp live val ≠ 0) := by show _ ≠ _; rw [hcd]; exact hz
        rw [HC.out.1, HC.out.2]
        obtain ⟨ka, kb⟩ := k
        simp only at *
        clear hk1 hb1 h hv hkb hcd hpn hcell hz
        go_enter Tryz.func151, Tryz.ntmps151
        go_wp2_with fail
        refine HK.out.mono ?_
        rintro e w2 ⟨rfl, hb2⟩
        obtain ⟨c0, c1⟩ := KC.out w2 hb2
        have HO2 := hid (HO.out w2 hb2)
        have HB2 := hid hb2
        clear hb2
        go_wp2_with fail
        refine HO2.out.mono ?_
        rintro e w3 ⟨rfl, hb3⟩
        have HB3 : Hid (Below W1.heap.size W1 w3) := bel_then HB2.out HB2.out.size hb3
        clear hb3 c0 c1
        have HP3 := hid (HPU.out w3 HB3.out)
        go_wp2_with fail
        refine HP3.out.mono ?_
        rintro e w4 ⟨rfl, ht⟩
        have HT := hid ht
        clear ht
        go_wp2_with fail
        go_ret2
        exact ⟨rfl, turn_not HH.out (KB.out _ HB3.out) (ka, kb) (G (ka, kb)) HKB.out (Or.inl ⟨hof, rfl⟩) HT.out HZ.out⟩
end Go.Proofs.YtmhlcnmfbolgdaaGreat

namespace Go.Proofs.YtmhlcnmfbolgdaaGreat
open Go.RowKit
theorem sum_sub {F : Ky → Nat} : ∀ {s t : List Ky}, s.Nodup → (∀ k ∈ s, k ∈ t) → (s.map F).sum ≤ (t.map F).sum
  | [], _, _, _ => Nat.zero_le _
  | k :: s, t, hn, hs => by
    obtain ⟨h1, h2⟩ := List.nodup_cons.1 hn
    obtain ⟨a, b, rfl⟩ := List.append_of_mem (hs k List.mem_cons_self)
    have ih := sum_sub (F := F) (s := s) (t := a ++ b) h2 fun x hx => by
      have := hs x (List.mem_cons_of_mem _ hx)
      rw [List.mem_append, List.mem_cons] at this
      rw [List.mem_append]
      rcases this with h | rfl | h
      · exact Or.inl h
      · exact absurd hx h1
      · exact Or.inr h
    simp only [List.map_append, List.map_cons, List.sum_append, List.sum_cons] at ih ⊢
    omega
theorem sum_same {F : Ky → Nat} {s t : List Ky} (hs : s.Nodup) (ht : t.Nodup) (h : ∀ k, k ∈ s ↔ k ∈ t) : (s.map F).sum = (t.map F).sum :=
  Nat.le_antisymm (sum_sub hs fun k hk => (h k).1 hk) (sum_sub ht fun k hk => (h k).2 hk)
theorem rise_nodup {l : List Ky} (h : RisingR ltKy l) : l.Nodup := h.imp fun {a b} hab e => by
  rw [e, totK.irr] at hab
  cases hab
theorem sum_keys {D : List RowD} (h : OkD D) (f : List Vr → Nat) : ((D.map Prod.fst).map fun k => f (ofD D k)).sum = (D.map fun r => f r.2).sum := by
  rw [List.map_map]
  congr 1
  refine List.map_congr_left fun r hr => ?_
  show f (ofD D r.1) = f r.2
  rw [ofD_mem h hr]
theorem seen_all {D : List RowD} (h : OkD D) (f : List Vr → Nat) {seen : List Ky} (hn : seen.Nodup) (h1 : ∀ k ∈ seen, ofD D k ≠ []) (h2 : ∀ k, ofD D k ≠ [] → k ∈ seen) : (seen.map fun k => f (ofD D k)).sum = (D.map fun r => f r.2).sum := by
  rw [← sum_keys h f]
  exact sum_same hn (rise_nodup h.rise) fun k => ⟨fun hk => (there_iff h k).2 (h1 k hk), fun hk => h2 k ((there_iff h k).1 hk)⟩
theorem seen_some {D : List RowD} (h : OkD D) (f : List Vr → Nat) {seen : List Ky} (hn : seen.Nodup) (h1 : ∀ k ∈ seen, ofD D k ≠ []) : (seen.map fun k => f (ofD D k)).sum ≤ (D.map fun r => f r.2).sum := by
  rw [← sum_keys h f]
  exact sum_sub hn fun k hk => (there_iff h k).2 (h1 k hk)
theorem fOf_iff {G : Ky → Cm} {D : List RowD} {k : Ky} : (fOf G D k).isSome = true ↔ ofD D k ≠ [] := by
  by_cases e : ofD D k = []
  · rw [fOf_none e]; simp [e]
  · rw [fOf_some e]; simp [e]
theorem MapD.uniq {W : World} {m n n' : Nat} {f f' : Ky → Option Nat} (h : MapD W m n f) (h' : MapD W m n' f') {k : Ky} (hk : FitK k) : f k = f' k := by
  have h1 := mapD_look h hk
  rw [mapD_look h' hk] at h1
  injection h1 with h1
  unfold mkP at h1
  injection h1 with h1
  cases ha : f k <;> cases hb : f' k <;> rw [ha, hb] at h1 <;> simp at h1
  · rw [h1]
theorem count_snoc (F : Ky → Nat) (s : List Ky) (k : Ky) : ((s ++ [k]).map F).sum = (s.map F).sum + F k := by simp
set_option maxHeartbeats 2000000 in
set_option maxRecDepth 100000 in
theorem dcount_any {n0 : Nat} {W : World} {g m n : Nat} {G : Ky → Cm} {D : List RowD} (h : DirM n0 W g m n G D) (hn : n ≤ 2400000000000) :
    Calls Tryz.prog 91 #[.pointer (some ⟨g, 0, none⟩)] W fun e w' => e = .returned (.int .i64 (countD D : Nat)) ∧ Below W.heap.size W w' := by
  have HAL := hid (all_is g m W h.cell)
  have hM := h.map
  have HH := hid h
  have HSUM : Hid (∀ seen : List Ky, seen.Nodup → (∀ k ∈ seen, FitK k ∧ (fOf G D k).isSome = true) → (seen.map fun k => (ofD D k).length).sum ≤ 2400000000000) := fun seen h1 h2 => by
    have := seen_some HH.out.ok List.length h1 fun k hk => fOf_iff.1 (h2 k hk).2
    have h3 := HH.out.few
    unfold countD at h3
    omega
  have HEND : Hid (∀ seen : List Ky, seen.Nodup → (∀ k ∈ seen, FitK k ∧ (fOf G D k).isSome = true) → (∀ k, FitK k → (fOf G D k).isSome = true → k ∈ seen) → (seen.map fun k => (ofD D k).length).sum = countD D) := fun seen h1 h2 h3 =>
    seen_all HH.out.ok List.length h1 (fun k hk => fOf_iff.1 (h2 k hk).2) fun k hk => h3 k (key_fit (HH.out.key k hk)) (fOf_iff.2 hk)
  have HLEN : Hid (∀ w' k, Below W.heap.size W w' → Calls Tryz.prog 156 #[mkP (fOf G D k)] w' fun e w2 => e = .returned (.int .i64 ((ofD D k).length : Int)) ∧ w2 = w') := fun w' k hb => chain_len (h.on hb) k
  obtain ⟨N, hN⟩ : ∃ N, W.heap.size = N := ⟨_, rfl⟩
  have hmN : m < N := by rw [← hN]; exact hM.lt
  rw [hN] at HLEN
  clear h
  go_enter Tryz.func91, Tryz.ntmps91
  go_wp2_with fail
  refine HAL.out.mono ?_
  rintro e w0 ⟨rfl, rfl⟩
  go_wp2_with (at_range; refine wp_range_D _ rfl _ rfl m n (fOf G D) rfl hM ?_; intro w1 cnt0 hr0 hg0 hs0)
  go_frame
  try rw [hN] at hr0
  try rw [hN]
  have HR0 := hid hr0
  have HB0 : Hid (Below N w0 w1) := by
    have := Fr.of_grown (P := fun _ => False) hg0 fun k hk => by cases hk
    exact this.below (by omega) fun k hk => hk.elim
  clear hr0 hg0 hs0 HAL hM
  go_loopg [3] cnt0 (fun gg vn wr => ∃ (seen : List Ky) (cnt : Nat), vn = .int .i64 ((seen.map fun k => (ofD D k).length).sum : Nat) ∧ cnt ≤ gg ∧ Hid (RangeD wr m N n (fOf G D) seen cnt) ∧ Hid (Below N w0 wr))
  case atStart => exact ⟨[], cnt0, rfl, Nat.le_refl _, HR0.out, HB0.out⟩
  case round =>
    clear HR0 HB0
    obtain ⟨seen, cnt, rfl, hgk, HR, HB⟩ := hrel
    have hr := HR.out
    have hnd := hr.nodup
    go_wp2_with (at_next; refine wp_next_D _ rfl _ rfl m N n (fOf G D) seen cnt rfl hr ?_ ?_)
    · intro hall
      have HE := hid (HEND.out seen hnd.1 hnd.2.1 fun k h1 h2 => hall k.1 k.2 h1 h2)
      clear hall hr hnd
      go_wp2_with fail
      go_ret
      rw [HE.out, hN]
      exact ⟨rfl, HB.out⟩
    · intro ka kb b w2 cnt2 hkf hks hfb hr2 hlt hg2 hs2 hen
      obtain ⟨k, hkk⟩ : ∃ k : Ky, (ka, kb) = k := ⟨_, rfl⟩
      rw [hkk] at hkf hks hfb hr2
      have hB2 : Below N w0 w2 := by
        have := Fr.of_grown (P := fun b => b = N) hg2 fun k hk => by injection hk with hk; exact hk.symm
        exact HB.out.trans (this.below (by have := hr.lt; omega) fun k hk => by omega)
      have HL := hid (HLEN.out w2 k hB2)
      rw [hfb] at HL
      have hb3 := HSUM.out (seen ++ [k]) hr2.nodup.1 hr2.nodup.2.1
      rw [count_snoc] at hb3
      have HE3 := hid (count_snoc (fun k => (ofD D k).length) seen k)
      have HR2 := hid hr2
      have HB2 := hid hB2
      obtain ⟨sm, hsm⟩ : ∃ sm, (seen.map fun k => (ofD D k).length).sum = sm := ⟨_, rfl⟩
      obtain ⟨ln, hln⟩ : ∃ ln, (ofD D k).length = ln := ⟨_, rfl⟩
      rw [hsm, hln] at hb3 HE3
      rw [hsm]
      rw [hln] at HL
      have e1 : IntKind.i64.wrap ((sm : Int) + (ln : Int)) = ((sm + ln : Nat) : Int) := by rw [IntKind.wrap_i64]; omega
      subst hkk
      simp only [valK, mkP, Option.map_some] at hen HL ⊢
      clear hr hr2 hnd hB2 hg2 hfb hsm hln hkf hks
      go_wp2_with fail
      refine HL.out.mono ?_
      rintro e w3 ⟨rfl, rfl⟩
      go_wp2_with fail
      go_roundg cnt2
      case measure => omega
      exact ⟨seen ++ [(ka, kb)], cnt2, by rw [HE3.out]; go_num, Nat.le_refl _, HR2.out, HB2.out⟩
end Go.Proofs.YtmhlcnmfbolgdaaGreat

namespace Go.Proofs.YtmhlcnmfbolgdaaGreat
open Go.RowKit
theorem cell_cells {w : World} {b o : Nat} {v : Value} (h : w.cell? ⟨b, o, none⟩ = some v) : ∃ cs t fz, w.heap[b]? = some (.cells cs t fz) := by
  unfold World.cell? at h
  split at h
  · next cs t fz hh => exact ⟨_, _, _, hh⟩
  · cases h
theorem PrgC.cells {n0 : Nat} {w : World} {g : Nat} {d : List Vx} {vs : Value} (h : PrgC n0 w g d vs) {b : Nat} (hb : BlkC g d vs b) : ∃ cs t fz, w.heap[b]? = some (.cells cs t fz) := by
  rcases hb with rfl | hb | ⟨x, hx, hb⟩
  · exact cell_cells h.cell
  · obtain ⟨cs, hc⟩ := own_type (show w.ownsRow n0 46 5 vs d.length (KV.cells d) from h.row) hb
    exact ⟨_, _, _, hc⟩
  · rcases hb with hb | ⟨f, hf, hb⟩
    · obtain ⟨cs, hc⟩ := own_type (h.each x hx).1.1.1 hb
      exact ⟨_, _, _, hc⟩
    · obtain ⟨cs, hc⟩ := own_type ((h.each x hx).1.1.2 f hf) hb
      exact ⟨_, _, _, hc⟩
theorem DirM.noIter {n0 : Nat} {W : World} {g m n : Nat} {G : Ky → Cm} {D : List RowD} (h : DirM n0 W g m n G D) {b : Nat} (hb : BlkD g m G D b) {x : Option Nat} {s : Nat} {a : Array Nat} {c : Nat} : W.heap[b]? ≠ some (.mapIter x s a c) := by
  intro he
  rcases hb with rfl | rfl | ⟨k, hk, hb⟩
  · obtain ⟨cs, t, fz, hc⟩ := cell_cells h.cell
    rw [hc] at he; cases he
  · obtain ⟨es, cl, hc⟩ := h.map.obj
    rw [hc] at he; cases he
  · obtain ⟨cs, t, fz, hc⟩ := (h.prg k hk).1.cells hb
    rw [hc] at he; cases he
theorem dir_ext {D E : List RowD} (hD : OkD D) (hE : OkD E) (hk : E.map Prod.fst = D.map Prod.fst) (ho : ∀ k, ofD E k = ofD D k) : E = D := by
  have e : ∀ {X : List RowD}, OkD X → X = (X.map Prod.fst).map fun k => (k, ofD X k) := fun {X} hX => by
    rw [List.map_map]
    refine (List.map_id X).symm.trans (List.map_congr_left fun r hr => ?_)
    show r = (r.1, ofD X r.1)
    rw [ofD_mem hX hr]
  rw [e hD, e hE, hk]
  exact List.map_congr_left fun k _ => by rw [ho]
theorem setD_there {k : Ky} {l : List Vr} {D : List RowD} (h : OkD D) (hk : ofD D k ≠ []) : (setD k l D).map Prod.fst = D.map Prod.fst := by
  rw [setD_keys]
  exact insR_there totK h.rise ((there_iff h k).2 hk)
def PrIn (n0 : Nat) (W : World) (g m n : Nat) (G : Ky → Cm) (D : List RowD) (f : Int) (r : Nat) (seen : List Ky) (cnt : Nat) (wr : World) : Prop :=
  ∃ G' D', RangeD wr m r n (fOf G D) seen cnt ∧ DirM n0 wr g m n G' D' ∧ D'.map Prod.fst = D.map Prod.fst ∧ (∀ k ∈ seen, ofD D' k = pruneV (ofD D k) f) ∧ (∀ k, k ∉ seen → ofD D' k = ofD D k) ∧
    (∀ b, BlkD g m G' D' b → BlkD g m G D b ∨ W.heap.size ≤ b) ∧ Fr (BlkD g m G D) W wr
theorem PrIn.range {n0 : Nat} {W : World} {g m n : Nat} {G : Ky → Cm} {D : List RowD} {f : Int} {r : Nat} {seen : List Ky} {cnt : Nat} {wr : World} (h : PrIn n0 W g m n G D f r seen cnt wr) : RangeD wr m r n (fOf G D) seen cnt := by
  obtain ⟨_, _, h, _⟩ := h
  exact h
theorem prune_num (l : List Vr) (f : Int) : (lastV (pruneV l f)).num = (lastV l).num := by
  by_cases e : l = []
  · subst e; rfl
  · have h1 := prune_last l f
    unfold lastV
    rw [h1]
theorem pr_chain {n0 : Nat} {W : World} {g m n : Nat} {G : Ky → Cm} {D : List RowD} {f : Int} {r : Nat} {seen : List Ky} {cnt cnt2 : Nat} {wr w2 : World} (hD : OkD D) (h : PrIn n0 W g m n G D f r seen cnt wr) (hr : W.heap.size ≤ r) {k : Ky} {b : Nat} (hkf : FitK k) (hks : k ∉ seen) (hfb : fOf G D k = some b)
    (hr2 : RangeD w2 m r n (fOf G D) (seen ++ [k]) cnt2) (hg2 : wr.grownBy w2 (some r)) :
    Calls Tryz.prog 179 #[.pointer (some ⟨b, 0, none⟩), .int .u64 f] w2 fun e w3 => e = .returned (.int .i64 (pruneN (ofD D k) f : Nat)) ∧ PrIn n0 W g m n G D f r (seen ++ [k]) cnt2 w3 := by
  obtain ⟨G', D', a1, a2, a3, a4, a5, a6, a7⟩ := h
  obtain ⟨si, sn, sc, hit⟩ := a1.iter
  have f2 : Fr (fun x => x = r) wr w2 := Fr.of_grown hg2 fun x hx => by injection hx with hx; exact hx.symm
  have hD2 : DirM n0 w2 g m n G' D' := a2.fr f2 fun x hx e => by subst e; exact a2.noIter hx hit
  have hne : ofD D k ≠ [] := fOf_iff.1 (by rw [hfb]; rfl)
  have hok' : ofD D' k = ofD D k := a5 k hks
  have hne' : ofD D' k ≠ [] := by rw [hok']; exact hne
  have hgb : (G' k).g = b := by
    have := MapD.uniq hD2.map hr2.map hkf
    rw [fOf_some hne', hfb] at this
    injection this
  have hp := (hD2.prg k hne').1
  have hv := (hD2.prg k hne').2
  rw [← hgb]
  refine (prune_any hp f).mono ?_
  rintro e w3 ⟨rfl, ht⟩
  rw [hv, hok'] at ht ⊢
  refine ⟨rfl, ?_⟩
  obtain ⟨si2, sn2, sc2, hit2⟩ := hr2.iter
  have hf3 : Fr (BlkC (G' k).g (G' k).d (G' k).vs) w2 w3 := by obtain ⟨_, _, _, _, _, f⟩ := ht; exact f
  have hm3 : w3.heap[m]? = w2.heap[m]? := hf3.block m hD2.map.lt fun hb => (hD2.off k hne' m hb).2 rfl
  have hi3 : w3.heap[r]? = w2.heap[r]? := hf3.block r hr2.lt fun hb => hD2.noIter (Or.inr (Or.inr ⟨k, hne', hb⟩)) hit2
  have hcnt := setD_count k (pruneV (ofD D k) f) hD2.ok
  have hlen := prune_len (ofD D k) f
  have hfew := hD2.few
  have hnum := hD2.num k
  rw [hok'] at hcnt hnum
  have hokk : OkV (pruneV (ofD D k) f) := ok_prune (ofD_ok hD k) f
  obtain ⟨G2, b1, b2, b3⟩ := dirM_set hD2 k (G' k) (Or.inl ⟨hne', rfl⟩) ht (Fr.refl _ _) ((hD2.map.on hm3).congr fun y _ => by
      by_cases e : y = k
      · subst e; rw [if_pos rfl, fOf_some hne']
      · rw [if_neg e]) (prune_ne hne f) (hD2.key k hne') hokk (by rw [prune_num]; exact hnum) (by omega) (Nat.le_refl n)
  have hs2 := a7.size
  have hs2' := f2.size
  refine ⟨G2, _, hr2.on hm3 hi3, b1, (setD_there hD2.ok hne').trans a3, fun y hy => ?_, fun y hy => ?_, fun x hx => ?_, ?_⟩
  · rw [setD_of]
    rcases List.mem_append.1 hy with hy | hy
    · rw [if_neg (fun e => hks (by rw [← e]; exact hy))]
      exact a4 y hy
    · rw [List.mem_singleton] at hy
      subst hy
      rw [if_pos rfl]
  · rw [List.mem_append, not_or, List.mem_singleton] at hy
    rw [setD_of, if_neg hy.2]
    exact a5 y hy.1
  · rcases b2 x hx with h | h | h
    · exact a6 x h
    · exact a6 x (Or.inr (Or.inr ⟨k, hne', h⟩))
    · exact Or.inr (by omega)
  · refine Fr.then (Fr.then a7 f2 fun x hx => ?_) b3 fun x hx => ?_
    · right; rw [hx]; exact hr
    · rcases hx with rfl | hx
      · exact a6 x (Or.inr (Or.inl rfl))
      · exact a6 x (Or.inr (Or.inr ⟨k, hne', hx⟩))
theorem pr_start {n0 : Nat} {W w1 : World} {g m n : Nat} {G : Ky → Cm} {D : List RowD} (h : DirM n0 W g m n G D) (f : Int) {r cnt : Nat} (hr : RangeD w1 m r n (fOf G D) [] cnt) (hb : Below W.heap.size W w1) : PrIn n0 W g m n G D f r [] cnt w1 :=
  ⟨G, D, hr, h.on hb, rfl, fun k hk => by simp at hk, fun _ _ => rfl, fun _ hb => Or.inl hb, Fr.of_below hb⟩
theorem pr_end {n0 : Nat} {W wr : World} {g m n : Nat} {G : Ky → Cm} {D : List RowD} (hM : DirM n0 W g m n G D) {f : Int} {r : Nat} {seen : List Ky} {cnt : Nat} (h : PrIn n0 W g m n G D f r seen cnt wr) (hall : ∀ k, FitK k → (fOf G D k).isSome = true → k ∈ seen) : TurnD n0 W g m G D n (pruneD D f) wr := by
  obtain ⟨G', D', a1, a2, a3, a4, a5, a6, a7⟩ := h
  have e : D' = pruneD D f := by
    refine dir_ext (okD_prune hM.ok f) a2.ok (by rw [a3, pruneD_keys]) fun k => ?_
    rw [pruneD_of]
    by_cases hk : ofD D k = []
    · have hns : k ∉ seen := fun hs => (fOf_iff.1 (a1.nodup.2.1 k hs).2) hk
      rw [a5 k hns, hk]
      rfl
    · exact a4 k (hall k (key_fit (hM.key k hk)) (fOf_iff.2 hk))
  subst e
  exact ⟨G', a2, a6, a7⟩
set_option maxHeartbeats 2000000 in
set_option maxRecDepth 100000 in
theorem dprune_any {n0 : Nat} {W : World} {g m n : Nat} {G : Ky → Cm} {D : List RowD} (h : DirM n0 W g m n G D) (hn : n ≤ 2400000000000) (f : Int) :
    Calls Tryz.prog 115 #[.pointer (some ⟨g, 0, none⟩), .int .u64 f] W fun e w' => e = .returned (.int .i64 (goneD D f : Nat)) ∧ TurnD n0 W g m G D n (pruneD D f) w' := by
  have HAL := hid (all_is g m W h.cell)
  have hM := h.map
  have HH := hid h
  have HSUM : Hid (∀ seen : List Ky, seen.Nodup → (∀ k ∈ seen, FitK k ∧ (fOf G D k).isSome = true) → (seen.map fun k => pruneN (ofD D k) f).sum ≤ 2400000000000) := fun seen h1 h2 => by
    have := seen_some HH.out.ok (fun l => pruneN l f) h1 fun k hk => fOf_iff.1 (h2 k hk).2
    have h3 := HH.out.few
    have h4 := pruneD_count D f
    unfold goneD at h4
    omega
  have HEND : Hid (∀ seen : List Ky, seen.Nodup → (∀ k ∈ seen, FitK k ∧ (fOf G D k).isSome = true) → (∀ k, FitK k → (fOf G D k).isSome = true → k ∈ seen) → (seen.map fun k => pruneN (ofD D k) f).sum = goneD D f) := fun seen h1 h2 h3 =>
    seen_all HH.out.ok (fun l => pruneN l f) h1 (fun k hk => fOf_iff.1 (h2 k hk).2) fun k hk => h3 k (key_fit (HH.out.key k hk)) (fOf_iff.2 hk)
  obtain ⟨N, hN⟩ : ∃ N, W.heap.size = N := ⟨_, rfl⟩
  clear h
  go_enter Tryz.func115, Tryz.ntmps115
  go_wp2_with fail
  refine HAL.out.mono ?_
  rintro e w0 ⟨rfl, rfl⟩
  go_wp2_with (at_range; refine wp_range_D _ rfl _ rfl m n (fOf G D) rfl hM ?_; intro w1 cnt0 hr0 hg0 hs0)
  go_frame
  try rw [hN] at hr0
  try rw [hN]
  have HB0 : Hid (Below w0.heap.size w0 w1) := by
    have := Fr.of_grown (P := fun _ => False) hg0 fun k hk => by cases hk
    exact this.below (Nat.le_refl _) fun k hk => hk.elim
  have HR0 := hid (pr_start HH.out f hr0 HB0.out)
  clear hr0 hg0 hs0 HAL hM HB0
  go_loopg [5] cnt0 (fun gg vn wr => ∃ (seen : List Ky) (cnt : Nat), vn = .int .i64 ((seen.map fun k => pruneN (ofD D k) f).sum : Nat) ∧ cnt ≤ gg ∧ Hid (PrIn n0 w0 g m n G D f N seen cnt wr))
  case atStart => exact ⟨[], cnt0, rfl, Nat.le_refl _, HR0.out⟩
  case round =>
    clear HR0
    obtain ⟨seen, cnt, rfl, hgk, HR⟩ := hrel
    have hr := HR.out.range
    have hnd := hr.nodup
    go_wp2_with (at_next; refine wp_next_D _ rfl _ rfl m N n (fOf G D) seen cnt rfl hr ?_ ?_)
    · intro hall
      have HE := hid (HEND.out seen hnd.1 hnd.2.1 fun k h1 h2 => hall k.1 k.2 h1 h2)
      have HT := hid (pr_end HH.out HR.out fun k h1 h2 => hall k.1 k.2 h1 h2)
      clear hall hr hnd
      go_wp2_with fail
      go_ret
      rw [HE.out]
      exact ⟨rfl, HT.out⟩
    · intro ka kb b w2 cnt2 hkf hks hfb hr2 hlt hg2 hs2 hen
      obtain ⟨k, hkk⟩ : ∃ k : Ky, (ka, kb) = k := ⟨_, rfl⟩
      rw [hkk] at hkf hks hfb hr2
      have HL := hid (pr_chain HH.out.ok HR.out (by omega) hkf hks hfb hr2 hg2)
      have hb3 := HSUM.out (seen ++ [k]) hr2.nodup.1 hr2.nodup.2.1
      rw [count_snoc] at hb3
      have HE3 := hid (count_snoc (fun k => pruneN (ofD D k) f) seen k)
      obtain ⟨sm, hsm⟩ : ∃ sm, (seen.map fun k => pruneN (ofD D k) f).sum = sm := ⟨_, rfl⟩
      obtain ⟨ln, hln⟩ : ∃ ln, pruneN (ofD D k) f = ln := ⟨_, rfl⟩
      rw [hsm, hln] at hb3 HE3
      rw [hsm]
      rw [hln] at HL
      have e1 : IntKind.i64.wrap ((sm : Int) + (ln : Int)) = ((sm + ln : Nat) : Int) := by rw [IntKind.wrap_i64]; omega
      subst hkk
      simp only [valK, mkP, Option.map_some] at hen HL ⊢
      clear hr hr2 hnd hg2 hfb hsm hln hkf hks
      go_wp2_with fail
      refine HL.out.mono ?_
      rintro e w3 ⟨rfl, hp3⟩
      have HP3 := hid hp3
      clear hp3
      go_wp2_with fail
      go_roundg cnt2
      case measure => omega
      exact ⟨seen ++ [(ka, kb)], cnt2, by rw [HE3.out]; go_num, Nat.le_refl _, HP3.out⟩
end Go.Proofs.YtmhlcnmfbolgdaaGreat

namespace Go.Proofs.YtmhlcnmfbolgdaaGreat
open Go.RowKit
end Go.Proofs.YtmhlcnmfbolgdaaGreat

namespace Go.Proofs.YtmhlcnmfbolgdaaGreat
open Go.RowKit
attribute [local go_sem] Oper.semAt_some
abbrev Kx := Ky × Vx
end Go.Proofs.YtmhlcnmfbolgdaaGreat

namespace Go.Proofs.YtmhlcnmfbolgdaaGreat
open Go.RowKit
end Go.Proofs.YtmhlcnmfbolgdaaGreat

namespace Go.Proofs.YtmhlcnmfbolgdaaGreat
open Go.RowKit Go.Lib
def BoxM (w : World) (g : Nat) (x : Tm) : Prop := w.heap[g]? = some (.cells #[.string x.1, .int .i64 x.2.1, .string x.2.2] 122 (0, 0))
theorem BoxM.cells {w : World} {g : Nat} {x : Tm} (h : BoxM w g x) : w.cell? ⟨g, 0, none⟩ = some (.string x.1) ∧ w.cell? ⟨g, 1, none⟩ = some (.int .i64 x.2.1) ∧ w.cell? ⟨g, 2, none⟩ = some (.string x.2.2) := by
  rw [Lib.cell_of_heap h, Lib.cell_of_heap h, Lib.cell_of_heap h]
  exact ⟨rfl, rfl, rfl⟩
theorem BoxM.lt {w : World} {g : Nat} {x : Tm} (h : BoxM w g x) : g < w.heap.size := (Array.getElem?_eq_some_iff.1 h).1
theorem BoxM.on {w w' : World} {g : Nat} {x : Tm} (h : BoxM w g x) (hb : Below w.heap.size w w') : BoxM w' g x := (hb.block g h.lt).trans h
theorem boxM_new (w : World) (x : Tm) : BoxM (w.alloc (.cells #[.string x.1, .int .i64 x.2.1, .string x.2.2] 122)) w.heap.size x := heap_alloc_new w _
theorem begins_prefix (s t : ByteArray) : Lib.hasPrefix s.data.toList t.data.toList = beginsB s t := by
  unfold beginsB
  rw [toList_eq]
  by_cases h : t.size ≤ s.size
  · rw [decide_eq_true h, Bool.true_and]
    rw [Bool.eq_iff_iff, decide_eq_true_iff]
    have e : (s.extract 0 t.size).data.toList = s.data.toList.take t.size := by simp
    constructor
    · intro hp
      refine ba_eq ?_
      rw [e]
      have := List.prefix_iff_eq_take.1 (List.isPrefixOf_iff_prefix.1 hp)
      simpa using this.symm
    · intro he
      refine List.isPrefixOf_iff_prefix.2 ?_
      have : t.data.toList = s.data.toList.take t.size := by rw [← e, he]
      rw [this]
      exact List.take_prefix _ _
  · rw [decide_eq_false h, Bool.false_and, Bool.eq_false_iff]
    intro hp
    have := (List.isPrefixOf_iff_prefix.1 hp).length_le
    simp at this
    exact h this
def Bt : Type := { t : ByteArray // t.size ≤ maxLen }
theorem hasT_any (f : ByteArray → Bool) (k : Nat) (lb : Array Value) (ent : ∀ args w, (callFunc k args).run Tryz.prog w = .ok (.enter k args) w) (p : Option Addr) (cap : Nat) (ts : List ByteArray) (w : World) (h : TxtAt w p ts) (hf : FitT ts)
    (hk : ∀ (W : World) (t : ByteArray), Below w.heap.size w W → t.size ≤ maxLen → Calls Tryz.prog k (#[.string t] ++ lb) W fun e w' => e = .returned (.bool (f t)) ∧ ∃ q, w' = W.drewN q) :
    Calls Tryz.prog 304 #[.slice p ts.length cap, .func (.func k) #[] lb] w fun e w' => e = .returned (.bool (ts.any f)) ∧ ∃ q, w' = w.drewN q := by
  rcases h with rfl | ⟨b, off, rfl, hc⟩
  · refine (Tryz.slices_ContainsFunc_empty (α := ByteArray) p cap _ w).mono ?_
    rintro e w' ⟨rfl, rfl⟩
    exact ⟨rfl, 0, rfl⟩
  · have hl := hf.1
    unfold maxLen at hl
    obtain ⟨zs, hzs⟩ : ∃ zs : List Bt, zs.map (·.1) = ts := ⟨ts.attachWith _ hf.2, List.attachWith_map_subtype_val ..⟩
    have hzl : zs.length = ts.length := by rw [← hzs, List.length_map]
    letI : Inhabited Bt := ⟨⟨⟨#[]⟩, Nat.zero_le _⟩⟩
    refine (Tryz.slices_ContainsFunc (fun t : Bt => Value.string t.1) (fun t => f t.1) k lb ent b off ts.length cap zs w (fun W x hb => hk W x.1 hb x.2) (by omega) (by omega) ?_).mono ?_
    · intro j hj
      rw [getElem!_pos zs j hj]
      have e : (zs[j]).1 = ts[j]'(by omega) := by subst hzs; simp
      rw [e]
      exact hc j (by omega)
    · rintro e w' ⟨rfl, hq⟩
      refine ⟨ret_bool ?_, hq⟩
      rw [List.take_of_length_le (by omega), ← hzs]
      simp [List.any_map, Function.comp_def]
theorem enters_h1 : ∀ args w, (callFunc 325 args).run Tryz.prog w = .ok (.enter 325 args) w := enters_of Tryz.func325 (by kernel_rfl) rfl
theorem enters_h2 : ∀ args w, (callFunc 327 args).run Tryz.prog w = .ok (.enter 327 args) w := enters_of Tryz.func327 (by kernel_rfl) rfl
theorem enters_h3 : ∀ args w, (callFunc 329 args).run Tryz.prog w = .ok (.enter 329 args) w := enters_of Tryz.func329 (by kernel_rfl) rfl
theorem enters_h4 : ∀ args w, (callFunc 330 args).run Tryz.prog w = .ok (.enter 330 args) w := enters_of Tryz.func330 (by kernel_rfl) rfl
theorem enters_h5 : ∀ args w, (callFunc 331 args).run Tryz.prog w = .ok (.enter 331 args) w := enters_of Tryz.func331 (by kernel_rfl) rfl
set_option maxHeartbeats 1000000 in
theorem h1_any (g : Nat) (x : Tm) (t : ByteArray) (W : World) (hb : BoxM W g x) (hx : x.2.2.size ≤ maxLen) (ht : t.size ≤ maxLen) :
    Calls Tryz.prog 325 #[.string t, .pointer (some ⟨g, 0, none⟩)] W fun e w' => e = .returned (.bool (tokenB x.2.2 t)) ∧ ∃ q, w' = W.drewN q := by
  obtain ⟨_, _, c2⟩ := hb.cells
  have HX := hid hx
  have HT := hid ht
  clear hb hx ht
  go_enter Tryz.func325, Tryz.ntmps325
  go_wp2_with (go_at_call 326; refine (Token_any _ _ _ HX.out HT.out).mono ?_; rintro e w1 ⟨rfl, n, rfl⟩)
  go_ret
  exact ⟨rfl, n, rfl⟩
set_option maxHeartbeats 1000000 in
theorem h2_any (g : Nat) (x : Tm) (t : ByteArray) (W : World) (hb : BoxM W g x) :
    Calls Tryz.prog 327 #[.string t, .pointer (some ⟨g, 0, none⟩)] W fun e w' => e = .returned (.bool (beginsB t x.2.2)) ∧ ∃ q, w' = W.drewN q := by
  obtain ⟨_, _, c2⟩ := hb.cells
  have HE := hid (begins_prefix t x.2.2)
  clear hb
  go_enter Tryz.func327, Tryz.ntmps327
  go_wp2_with (go_at_call 328; refine (Tryz.strings_HasPrefix _ _ _).mono ?_; rintro e w1 ⟨rfl, rfl⟩)
  go_ret
  exact ⟨ret_bool HE.out, 0, rfl⟩
set_option maxHeartbeats 1000000 in
theorem h3_any (g : Nat) (x : Tm) (t : ByteArray) (W : World) (hb : BoxM W g x) :
    Calls Tryz.prog 329 #[.string t, .pointer (some ⟨g, 0, none⟩)] W fun e w' => e = .returned (.bool (ltB t x.2.2)) ∧ ∃ q, w' = W.drewN q := by
  obtain ⟨_, _, c2⟩ := hb.cells
  have HE := hid (sless_of (rfl : ltB t x.2.2 = _))
  clear hb
  go_enter Tryz.func329, Tryz.ntmps329
  go_wp2_with fail
  go_ret
  exact ⟨ret_bool HE.out, 0, rfl⟩
set_option maxHeartbeats 1000000 in
theorem h4_any (g : Nat) (x : Tm) (t : ByteArray) (W : World) (hb : BoxM W g x) :
    Calls Tryz.prog 330 #[.string t, .pointer (some ⟨g, 0, none⟩)] W fun e w' => e = .returned (.bool (ltB x.2.2 t)) ∧ ∃ q, w' = W.drewN q := by
  obtain ⟨_, _, c2⟩ := hb.cells
  have HE := hid (gtr_of t x.2.2)
  have HL := hid (sless_of (rfl : ltB t x.2.2 = _))
  clear hb
  go_enter Tryz.func330, Tryz.ntmps330
  go_wp2_with fail
  go_ret
  refine ⟨ret_bool ?_, 0, rfl⟩
  rw [← HE.out, HL.out]
set_option maxHeartbeats 1000000 in
theorem h5_any (t : ByteArray) (W : World) :
    Calls Tryz.prog 331 #[.string t] W fun e w' => e = .returned (.bool true) ∧ ∃ q, w' = W.drewN q := by
  go_enter Tryz.func331, Tryz.ntmps331
  go_wp2_with fail
  go_ret
  exact ⟨rfl, 0, rfl⟩
theorem any_true (ts : List ByteArray) : ts.any (fun _ => true) = decide (0 < ts.length) := by
  cases ts <;> simp
set_option maxHeartbeats 4000000 in
set_option maxRecDepth 100000 in
theorem pholds_any (x : Tm) (p : Option Addr) (cap : Nat) (ts : List ByteArray) (w : World) (h : TxtAt w p ts) (hf : FitT ts) (hx : x.2.2.size ≤ maxLen) :
    Calls Tryz.prog 253 #[.agg #[.string x.1, .int .i64 x.2.1, .string x.2.2], .slice p ts.length cap] w fun e w' => e = .returned (.bool (holdsT x ts)) ∧ Grown w w' := by
  obtain ⟨W, hW⟩ : ∃ W, w.alloc (.cells #[.string x.1, .int .i64 x.2.1, .string x.2.2] 122) = W := ⟨_, rfl⟩
  have hbw : Below w.heap.size w W := by rw [← hW]; exact (Below.refl _ _).alloc (Nat.le_refl _) _
  have HG : Hid (Grown w W) := by rw [← hW]; exact (Grown.refl _).alloc _
  have hbox : BoxM W w.heap.size x := by rw [← hW]; exact boxM_new w x
  have hmf : ∀ (fn : Fn) (first cap : Array Value) (w : World), (Instr.makeFunc fn first cap).run Tryz.prog w = .ok (.func fn first cap) w := fun _ _ _ _ => rfl
  have H1 := hid (hasT_any (tokenB x.2.2) 325 #[.pointer (some ⟨w.heap.size, 0, none⟩)] enters_h1 p cap ts W (h.kept hbw) hf (fun V t hb ht => h1_any w.heap.size x t V (hbox.on hb) hx ht))
  have H2 := hid (hasT_any (fun t => beginsB t x.2.2) 327 #[.pointer (some ⟨w.heap.size, 0, none⟩)] enters_h2 p cap ts W (h.kept hbw) hf (fun V t hb ht => h2_any w.heap.size x t V (hbox.on hb)))
  have H3 := hid (hasT_any (fun t => ltB t x.2.2) 329 #[.pointer (some ⟨w.heap.size, 0, none⟩)] enters_h3 p cap ts W (h.kept hbw) hf (fun V t hb ht => h3_any w.heap.size x t V (hbox.on hb)))
  have H4 := hid (hasT_any (fun t => ltB x.2.2 t) 330 #[.pointer (some ⟨w.heap.size, 0, none⟩)] enters_h4 p cap ts W (h.kept hbw) hf (fun V t hb ht => h4_any w.heap.size x t V (hbox.on hb)))
  have H5 := hid (hasT_any (fun _ => true) 331 #[] enters_h5 p cap ts W (h.kept hbw) hf (fun V t hb ht => h5_any t V))
  obtain ⟨c0, c1, c2⟩ := hbox.cells
  obtain ⟨r, hr⟩ : ∃ r, holdsT x ts = r := ⟨_, rfl⟩
  rw [hr]
  have HR := hid hr
  obtain ⟨xf, xo, xt⟩ := x
  simp only at hW c0 c1 c2 H1 H2 H3 H4
  unfold holdsT at HR
  simp only at HR
  rw [any_true] at H5
  obtain ⟨B1, hB1⟩ : ∃ B, ts.any (tokenB xt) = B := ⟨_, rfl⟩
  rw [hB1] at H1 HR
  obtain ⟨B2, hB2⟩ : ∃ B, ts.any (fun t => beginsB t xt) = B := ⟨_, rfl⟩
  rw [hB2] at H2 HR
  obtain ⟨B3, hB3⟩ : ∃ B, ts.any (fun t => ltB t xt) = B := ⟨_, rfl⟩
  rw [hB3] at H3 HR
  obtain ⟨B4, hB4⟩ : ∃ B, ts.any (fun t => ltB xt t) = B := ⟨_, rfl⟩
  rw [hB4] at H4 HR
  have e7 : decide (ts.length = 0) = !decide (0 < ts.length) := by cases ts <;> simp
  rw [e7] at HR
  obtain ⟨B5, hB5⟩ : ∃ B, decide (0 < ts.length) = B := ⟨_, rfl⟩
  rw [hB5] at H5 HR
  clear hr h hf hx hbox hbw hB1 hB2 hB3 hB4 hB5 e7
  by_cases hr7 : 1 ≤ xo ∧ xo ≤ 7
  · rcases (show xo = 1 ∨ xo = 2 ∨ xo = 3 ∨ xo = 4 ∨ xo = 5 ∨ xo = 6 ∨ xo = 7 by omega) with rfl | rfl | rfl | rfl | rfl | rfl | rfl
    · have HV : Hid (B1 = r) := by have := HR.out; show B1 = r; simpa using this
      go_enter Tryz.func253, Tryz.ntmps253
      go_wp2_with (go_at_call 304; refine H1.out.mono ?_; rintro e w1 ⟨rfl, n, rfl⟩)
      go_ret
      refine ⟨ret_bool ?_, HG.out.drewN n⟩
      rw [← HV.out]
    · have HV : Hid ((!B1) = r) := by have := HR.out; show (!B1) = r; simpa using this
      go_enter Tryz.func253, Tryz.ntmps253
      go_wp2_with (go_at_call 304; refine H1.out.mono ?_; rintro e w1 ⟨rfl, n, rfl⟩)
      go_ret
      refine ⟨ret_bool ?_, HG.out.drewN n⟩
      rw [← HV.out]
    · have HV : Hid (B2 = r) := by have := HR.out; show B2 = r; simpa using this
      go_enter Tryz.func253, Tryz.ntmps253
      go_wp2_with (go_at_call 304; refine H2.out.mono ?_; rintro e w1 ⟨rfl, n, rfl⟩)
      go_ret
      refine ⟨ret_bool ?_, HG.out.drewN n⟩
      rw [← HV.out]
    · have HV : Hid (B3 = r) := by have := HR.out; show B3 = r; simpa using this
      go_enter Tryz.func253, Tryz.ntmps253
      go_wp2_with (go_at_call 304; refine H3.out.mono ?_; rintro e w1 ⟨rfl, n, rfl⟩)
      go_ret
      refine ⟨ret_bool ?_, HG.out.drewN n⟩
      rw [← HV.out]
    · have HV : Hid (B4 = r) := by have := HR.out; show B4 = r; simpa using this
      go_enter Tryz.func253, Tryz.ntmps253
      go_wp2_with (go_at_call 304; refine H4.out.mono ?_; rintro e w1 ⟨rfl, n, rfl⟩)
      go_ret
      refine ⟨ret_bool ?_, HG.out.drewN n⟩
      rw [← HV.out]
    · have HV : Hid (B5 = r) := by have := HR.out; show B5 = r; simpa using this
      go_enter Tryz.func253, Tryz.ntmps253
      go_wp2_with (go_at_call 304; refine H5.out.mono ?_; rintro e w1 ⟨rfl, n, rfl⟩)
      go_ret
      refine ⟨ret_bool ?_, HG.out.drewN n⟩
      rw [← HV.out]
    · have HV : Hid ((!B5) = r) := by have := HR.out; show (!B5) = r; simpa using this
      go_enter Tryz.func253, Tryz.ntmps253
      go_wp2_with (go_at_call 304; refine H5.out.mono ?_; rintro e w1 ⟨rfl, n, rfl⟩)
      go_ret
      refine ⟨ret_bool ?_, HG.out.drewN n⟩
      rw [← HV.out]
  · have HV : Hid (false = r) := by
      have := HR.out
      rw [if_neg (by omega), if_neg (by omega), if_neg (by omega), if_neg (by omega), if_neg (by omega), if_neg (by omega), if_neg (by omega)] at this
      exact this
    have n1 : (xo == 1) = false := by simp; omega
    have n2 : (xo == 2) = false := by simp; omega
    have n3 : (xo == 3) = false := by simp; omega
    have n4 : (xo == 4) = false := by simp; omega
    have n5 : (xo == 5) = false := by simp; omega
    have n6 : (xo == 6) = false := by simp; omega
    have n7 : (xo == 7) = false := by simp; omega
    clear hr7
    go_enter Tryz.func253, Tryz.ntmps253
    go_wp2_with fail
    go_ret
    exact ⟨ret_bool HV.out, HG.out⟩
set_option maxHeartbeats 8000000 in
set_option maxRecDepth 100000 in
theorem pmatch_any (u v : Value) (p : List Tm) (d : List Fx) (w : World) (hu : KM.Is w u p) (hp : FitM p) (hv : IsXs w v d) (hf : FitX d) (h16 : ∀ x ∈ d, x.txt.length * 16 ≤ 140737488355328) :
    Calls Tryz.prog 169 #[u, v] w fun e w' => e = .returned (.bool (matchM p (d.map Fx.fld))) ∧ Below w.heap.size w w' := by
  obtain ⟨q, cap, rfl, hd⟩ := hu
  have hl := hp.1
  unfold maxLen at hl
  have HD := hid hd
  have HV := hid hv
  have HF := hid hf
  have HP := hid hp
  have H16 := hid h16
  obtain ⟨r, hr⟩ : ∃ r, matchM p (d.map Fx.fld) = r := ⟨_, rfl⟩
  rw [hr]
  have HR := hid hr
  clear hd hv hf hp h16 hr
  go_enter Tryz.func169, Tryz.ntmps169
  go_wp2_with fail
  go_loopg [9] p.length (fun g vi wr => ∃ i : Nat, vi = .int .i64 i ∧ i ≤ p.length ∧ p.length - i ≤ g ∧ Below w.heap.size w wr ∧ Hid (∀ j (h : j < p.length), j < i → holdsM p[j] (d.map Fx.fld) = true))
  case atStart => exact ⟨0, rfl, by omega, by omega, Below.refl _ _, fun j _ h => by omega⟩
  case round =>
    obtain ⟨i, rfl, hi, hg, hb, HJ⟩ := hrel
    by_cases hlt : i < p.length
    · have hltz : (i : Int) < (p.length : Int) := by omega
      have hiz : (0 : Int) ≤ i := by omega
      obtain ⟨b, off, rfl, hat⟩ : ∃ b off, q = some ⟨b, off, none⟩ ∧ KM.At w b off p := by
        rcases HD.out with h | h
        · rw [h] at hlt; simp at hlt
        · exact h
      obtain ⟨c0, c1, c2⟩ := km_cells (Kind.at_kept hat hb) i hlt
      have hfx := HP.out.2 _ (List.getElem_mem hlt)
      have hno : holdsM p[i] (d.map Fx.fld) = false → r = false := fun h => by
        rw [← HR.out]
        unfold matchM
        rw [List.all_eq_false]
        exact ⟨_, List.getElem_mem hlt, by rw [h]; simp⟩
      have hyes : holdsM p[i] (d.map Fx.fld) = true → ∀ j (h : j < p.length), j < i + 1 → holdsM p[j] (d.map Fx.fld) = true := fun e j h hj => by
        by_cases ej : j = i
        · subst ej; exact e
        · exact HJ.out j h (by omega)
      obtain ⟨x, hx⟩ : ∃ x, p[i] = x := ⟨_, rfl⟩
      rw [hx] at c0 c1 c2 hfx hno hyes
      have HNO := hid hno
      have HYES := hid hyes
      have HB := hid hb
      have hsz := hb.size
      obtain ⟨xf, xo, xt⟩ := x
      simp only at c0 c1 c2 hfx
      clear hat hx hno hyes hb
      go_wp2_with fail
      obtain ⟨F, hF⟩ : ∃ F, wr.heap.size = F := ⟨_, rfl⟩
      obtain ⟨W, hW⟩ : ∃ W, wr.alloc (.cells #[.string xf, .int .i64 xo, .string xt] 122) = W := ⟨_, rfl⟩
      have hbox : BoxM W F (xf, xo, xt) := by rw [← hW, ← hF]; exact boxM_new wr (xf, xo, xt)
      have hbW : Below w.heap.size w W := by rw [← hW]; exact HB.out.alloc hsz _
      have HBW := hid hbW
      have HT := hid (texts_any v xf d W.drew (HV.out.kept hbW.drew) HF.out H16.out)
      have hFl : F < W.heap.size := hbox.lt
      have q0 : W.drew.cell? ⟨F, 0, none⟩ = some (.string xf) ∧ W.drew.cell? ⟨F, 1, none⟩ = some (.int .i64 xo) ∧ W.drew.cell? ⟨F, 2, none⟩ = some (.string xt) := hbox.cells
      have KS : Hid (∀ w' : World, Below W.drew.heap.size W.drew w' → w'.cell? ⟨F, 0, none⟩ = some (.string xf) ∧ w'.cell? ⟨F, 1, none⟩ = some (.int .i64 xo) ∧ w'.cell? ⟨F, 2, none⟩ = some (.string xt)) := fun w' h => (BoxM.on (w := W.drew) hbox h).cells
      have HTF : Hid (FitT (textsOf (d.map Fx.fld) xf)) := by
        show FitT _
        unfold textsOf
        cases hfd : (d.map Fx.fld).find? (fun f => decide (f.1 = xf)) with
        | none => exact ⟨Nat.zero_le _, fun t ht => by simp at ht⟩
        | some f =>
          obtain ⟨y, hy, rfl⟩ := List.mem_map.1 (List.mem_of_find?_eq_some hfd)
          exact (HF.out.2 y hy).2
      obtain ⟨ts, hts⟩ : ∃ ts, textsOf (d.map Fx.fld) xf = ts := ⟨_, rfl⟩
      rw [hts] at HT HTF
      have HXT : Hid (holdsM (xf, xo, xt) (d.map Fx.fld) = holdsT (xf, xo, xt) ts) := by show _ = _; unfold holdsM; rw [hts]
      clear hts hbox hbW
      rw [hF, hW]
      clear hF hW
      cases hB : holdsT (xf, xo, xt) ts with
      | true =>
        have HX : Hid (holdsM (xf, xo, xt) (d.map Fx.fld) = true) := by show _ = _; rw [HXT.out, hB]
        have HHD : Hid (∀ (W5 : World) p5 c5, TxtAt W5 p5 ts → Calls Tryz.prog 253 #[.agg #[.string xf, .int .i64 xo, .string xt], .slice p5 ts.length c5] W5 fun e w' => e = .returned (.bool true) ∧ Grown W5 w') := fun W5 p5 c5 h => by
          have := pholds_any (xf, xo, xt) p5 c5 ts W5 h HTF.out hfx.2.1
          rwa [hB] at this
        clear hB
        go_region_held3 (fun w' => w'.cell? ⟨F, 0, none⟩ = some (.string xf) ∧ w'.cell? ⟨F, 1, none⟩ = some (.int .i64 xo) ∧ w'.cell? ⟨F, 2, none⟩ = some (.string xt))
          (first | exact q0 | exact q5 | exact q6)
          (first
            | (go_at_call 254; refine HT.out.mono ?_; rintro e w5 ⟨⟨sv, rfl, hot5⟩, hb5⟩; obtain ⟨pc, capc, rfl⟩ := own_slice hot5; have q5 := KS.out w5 hb5; have htx5 := OwnT.txtAt hot5)
            | (go_at_call 253; refine (HHD.out _ _ _ htx5).mono ?_; rintro e w6 ⟨rfl, hg6⟩; have q6 := KS.out w6 (hb5.trans (hg6.below.mono hb5.size))))
        have hb6 : Below w.heap.size w w6 := (HBW.out.drew.trans (hb5.mono (by simpa using HBW.out.size))).trans (hg6.below.mono (Nat.le_trans (by simpa using HBW.out.size) hb5.size))
        have HB6 := hid hb6
        clear hb6 hg6 hb5 hot5 htx5 q5 q6 q0
        go_wp2_with fail
        go_roundg (p.length - (i + 1))
        case measure => omega
        exact ⟨i + 1, by go_num, by omega, by omega, HB6.out, HYES.out HX.out⟩
      | false =>
        have HX : Hid (holdsM (xf, xo, xt) (d.map Fx.fld) = false) := by show _ = _; rw [HXT.out, hB]
        have HHD : Hid (∀ (W5 : World) p5 c5, TxtAt W5 p5 ts → Calls Tryz.prog 253 #[.agg #[.string xf, .int .i64 xo, .string xt], .slice p5 ts.length c5] W5 fun e w' => e = .returned (.bool false) ∧ Grown W5 w') := fun W5 p5 c5 h => by
          have := pholds_any (xf, xo, xt) p5 c5 ts W5 h HTF.out hfx.2.1
          rwa [hB] at this
        clear hB
        go_region_held3 (fun w' => w'.cell? ⟨F, 0, none⟩ = some (.string xf) ∧ w'.cell? ⟨F, 1, none⟩ = some (.int .i64 xo) ∧ w'.cell? ⟨F, 2, none⟩ = some (.string xt))
          (first | exact q0 | exact q5 | exact q6)
          (first
            | (go_at_call 254; refine HT.out.mono ?_; rintro e w5 ⟨⟨sv, rfl, hot5⟩, hb5⟩; obtain ⟨pc, capc, rfl⟩ := own_slice hot5; have q5 := KS.out w5 hb5; have htx5 := OwnT.txtAt hot5)
            | (go_at_call 253; refine (HHD.out _ _ _ htx5).mono ?_; rintro e w6 ⟨rfl, hg6⟩; have q6 := KS.out w6 (hb5.trans (hg6.below.mono hb5.size))))
        have hb6 : Below w.heap.size w w6 := (HBW.out.drew.trans (hb5.mono (by simpa using HBW.out.size))).trans (hg6.below.mono (Nat.le_trans (by simpa using HBW.out.size) hb5.size))
        have HB6 := hid hb6
        clear hb6 hg6 hb5 hot5 htx5 q5 q6 q0
        go_wp2_with fail
        go_ret
        exact ⟨ret_bool (HNO.out HX.out).symm, HB6.out⟩
    · have hltz : ¬ (i : Int) < (p.length : Int) := by omega
      have H0 : Hid (r = true) := by
        show _ = _
        rw [← HR.out]
        unfold matchM
        rw [List.all_eq_true]
        intro x hx
        obtain ⟨j, hj, rfl⟩ := List.mem_iff_getElem.1 hx
        exact HJ.out j hj (by omega)
      go_wp2_with fail
      go_ret
      exact ⟨ret_bool H0.out.symm, hb⟩
end Go.Proofs.YtmhlcnmfbolgdaaGreat

namespace Go.Proofs.YtmhlcnmfbolgdaaGreat
open Go.RowKit
end Go.Proofs.YtmhlcnmfbolgdaaGreat

namespace Go.Proofs.YtmhlcnmfbolgdaaGreat
open Go.RowKit
attribute [local go_sem] Oper.semAt_some
end Go.Proofs.YtmhlcnmfbolgdaaGreat

namespace Go.Proofs.YtmhlcnmfbolgdaaGreat
open Go.RowKit Go.Maps Go.Sort
attribute [local go_sem] Oper.semAt_some
end Go.Proofs.YtmhlcnmfbolgdaaGreat

namespace Go.Proofs.YtmhlcnmfbolgdaaGreat
open Go.RowKit
attribute [local go_sem] Oper.semAt_some
end Go.Proofs.YtmhlcnmfbolgdaaGreat

namespace Go.Proofs.YtmhlcnmfbolgdaaGreat
open Go.RowKit
end Go.Proofs.YtmhlcnmfbolgdaaGreat

namespace Go.Proofs.YtmhlcnmfbolgdaaGreat
open Go.RowKit
attribute [local go_sem] Oper.semAt_some
end Go.Proofs.YtmhlcnmfbolgdaaGreat

namespace Go.Proofs.YtmhlcnmfbolgdaaGreat
open Go.RowKit
attribute [local go_sem] Oper.semAt_some
end Go.Proofs.YtmhlcnmfbolgdaaGreat

namespace Go.Proofs
open Go.Shelf
end Go.Proofs

namespace Go.Proofs.YtmhlcnmfbolgdaaGreat
open Go.RowKit Go.Lib Go.Sort
end Go.Proofs.YtmhlcnmfbolgdaaGreat

namespace Go.Proofs.YtmhlcnmfbolgdaaGreat
open Go.RowKit
end Go.Proofs.YtmhlcnmfbolgdaaGreat

namespace Go.Proofs.YtmhlcnmfbolgdaaGreat
def PreD (s : Int) (D E : List RowD) : Prop := ∀ k, PreV s (ofD D k) (ofD E k) ∧ (ofD E k = [] → ∀ f, (ofD D k).head? = some f → f.num = 1)
theorem preD_refl (s : Int) (D : List RowD) : PreD s D D := fun k => ⟨pre_refl s _, fun h f hf => by rw [h] at hf; cases hf⟩
theorem preD_put {s : Int} {D E : List RowD} (h : PreD s D E) (k : Ky) {stamp : Int} (hs : s < stamp) (tick : Int) (live : Bool) (val : List Fld) : PreD s (putD D k stamp tick live val) E := by
  unfold putD
  split
  · intro k'
    rw [setD_of]
    split
    · next e =>
      subst e
      refine ⟨pre_snoc (h _).1 hs, fun he f hf => ?_⟩
      cases hd : ofD D k' with
      | nil =>
        rw [hd] at hf
        unfold putV at hf
        rw [List.nil_append] at hf
        injection hf with hf
        rw [← hf]
        rfl
      | cons x l =>
        refine (h _).2 he f ?_
        rw [hd] at hf ⊢
        exact hf
    · exact h k'
  · exact h
end Go.Proofs.YtmhlcnmfbolgdaaGreat

namespace Go.Proofs.YtmhlcnmfbolgdaaGreat
open Go.RowKit
structure Dn where
  snap : Int
  stamp : Int
  out : Bool
  marks : Mk
  chg : List Ch
structure Tk where
  most : Nat
  kept : List Dn
  last : Option Int
  sum : Int
def roomT (most : Int) : Nat := (min (max most 0) 64).toNat
def newT (most : Int) : Tk := ⟨roomT most, [], none, 0⟩
def besideT (s : Int) (d : Dn) : Bool := decide (s < d.stamp)
def outT (l : List Dn) (s : Int) (m : Mk) : Bool := l.any fun d => besideT s d && hitsM m d.chg
def deepT (l : List Dn) (s : Int) (m : Mk) : Bool := l.any fun d => besideT s d && (hitsM m d.chg && d.out)
def inT (l : List Dn) (s : Int) (c : List Ch) : Bool := l.any fun d => besideT s d && hitsM d.marks c
def clashT (t : Tk) (s : Int) (m : Mk) (c : List Ch) : Bool := decide (s < t.sum) || deepT t.kept s m || (outT t.kept s m && inT t.kept s c)
def checkT (t : Tk) (s : Int) (m : Mk) (c : List Ch) : Bool × Int := if clashT t s m c then (false, 11) else (outT t.kept s m, 0)
def oldT (t : Tk) (d : Dn) : Bool := match t.last with | some s => decide (d.stamp < s) | none => false
def keepT (t : Tk) (d : Dn) : Tk :=
  if t.kept.length < t.most then ⟨t.most, t.kept ++ [d], some d.stamp, t.sum⟩
  else match t.kept with
    | [] => ⟨t.most, [], some d.stamp, max t.sum d.stamp⟩
    | x :: r => ⟨t.most, r ++ [d], some d.stamp, max t.sum x.stamp⟩
def addT (t : Tk) (d : Dn) : Int × Tk := if oldT t d then (8, t) else (0, keepT t d)
def dropT (t : Tk) (least : Int) : Tk := { t with kept := t.kept.filter fun d => decide (least < d.stamp) }
structure OkT (t : Tk) : Prop where
  few : t.kept.length ≤ t.most
  rise : t.kept.Pairwise fun a b => a.stamp ≤ b.stamp
  top : ∀ d ∈ t.kept, ∃ s, t.last = some s ∧ d.stamp ≤ s
  low : ∀ d ∈ t.kept, t.sum ≤ d.stamp
  sum : 0 ≤ t.sum ∧ (t.sum = 0 ∨ ∃ s, t.last = some s ∧ t.sum ≤ s)
theorem ok_newT (most : Int) : OkT (newT most) := ⟨Nat.zero_le _, List.Pairwise.nil, fun d hd => by simp [newT] at hd, fun d hd => by simp [newT] at hd, Int.le_refl _, Or.inl rfl⟩
theorem keepT_last (t : Tk) (d : Dn) : (keepT t d).last = some d.stamp := by
  unfold keepT
  split
  · rfl
  · split <;> rfl
theorem keepT_most (t : Tk) (d : Dn) : (keepT t d).most = t.most := by
  unfold keepT
  split
  · rfl
  · split <;> rfl
theorem keepT_sum (t : Tk) (d : Dn) : t.sum ≤ (keepT t d).sum := by
  unfold keepT
  split
  · exact Int.le_refl _
  · split
    · show t.sum ≤ max t.sum d.stamp; omega
    · next x _ _ => show t.sum ≤ max t.sum x.stamp; omega
theorem old_not {t : Tk} {d : Dn} (h : oldT t d = false) {s : Int} (hs : t.last = some s) : s ≤ d.stamp := by
  unfold oldT at h
  rw [hs] at h
  have := of_decide_eq_false h
  omega
theorem ok_keepT {t : Tk} (h : OkT t) {d : Dn} (hd : oldT t d = false) (h0 : 0 ≤ d.stamp) : OkT (keepT t d) := by
  have hup : ∀ x ∈ t.kept, x.stamp ≤ d.stamp := fun x hx => by
    obtain ⟨s, hs, hle⟩ := h.top x hx
    have := old_not hd hs
    omega
  have hsum : t.sum ≤ d.stamp := by
    rcases h.sum.2 with e | ⟨s, hs, hle⟩
    · omega
    · have := old_not hd hs
      omega
  refine ⟨?_, ?_, fun x hx => ⟨d.stamp, keepT_last t d, ?_⟩, fun x hx => ?_, ?_⟩
  · rw [keepT_most]
    have := h.few
    unfold keepT
    split
    · show (t.kept ++ [d]).length ≤ _; rw [List.length_append, List.length_singleton]; omega
    · split
      · exact Nat.zero_le _
      · next x r hk => rw [hk] at this; show (r ++ [d]).length ≤ _; rw [List.length_append, List.length_singleton]; exact this
  · unfold keepT
    split
    · exact List.pairwise_append.2 ⟨h.rise, List.pairwise_singleton _ _, fun a ha b hb => by rw [List.mem_singleton.1 hb]; exact hup a ha⟩
    · split
      · exact List.Pairwise.nil
      · next x r hk =>
        have hr := h.rise
        rw [hk] at hr
        refine List.pairwise_append.2 ⟨(List.pairwise_cons.1 hr).2, List.pairwise_singleton _ _, fun a ha b hb => ?_⟩
        rw [List.mem_singleton.1 hb]
        exact hup a (by rw [hk]; exact List.mem_cons_of_mem _ ha)
  · unfold keepT at hx
    split at hx
    · rcases List.mem_append.1 hx with hx | hx
      · exact hup x hx
      · rw [List.mem_singleton.1 hx]; exact Int.le_refl _
    · split at hx
      · simp at hx
      · next y r hk =>
        rcases List.mem_append.1 hx with hx | hx
        · exact hup x (by rw [hk]; exact List.mem_cons_of_mem _ hx)
        · rw [List.mem_singleton.1 hx]; exact Int.le_refl _
  · unfold keepT at hx ⊢
    split
    · next hc =>
      rw [if_pos hc] at hx
      rcases List.mem_append.1 hx with hx | hx
      · exact h.low x hx
      · rw [List.mem_singleton.1 hx]; exact hsum
    · next hc =>
      rw [if_neg hc] at hx
      split
      · next hk => rw [hk] at hx; simp at hx
      · next y r hk =>
        rw [hk] at hx
        show max t.sum y.stamp ≤ x.stamp
        have hy := hup y (by rw [hk]; exact List.mem_cons_self)
        rcases List.mem_append.1 hx with hx | hx
        · have h1 := h.low x (by rw [hk]; exact List.mem_cons_of_mem _ hx)
          have hr := h.rise
          rw [hk] at hr
          have h2 := (List.pairwise_cons.1 hr).1 x hx
          omega
        · rw [List.mem_singleton.1 hx]; omega
  · have h1 := h.sum.1
    have h2 := keepT_sum t d
    refine ⟨by omega, Or.inr ⟨d.stamp, keepT_last t d, ?_⟩⟩
    unfold keepT
    split
    · exact hsum
    · split
      · show max t.sum d.stamp ≤ d.stamp; omega
      · next x r hk =>
        have := hup x (by rw [hk]; exact List.mem_cons_self)
        show max t.sum x.stamp ≤ d.stamp; omega
theorem ok_addT {t : Tk} (h : OkT t) (d : Dn) (h0 : 0 ≤ d.stamp) : OkT (addT t d).2 := by
  unfold addT
  cases e : oldT t d with
  | true => exact h
  | false => exact ok_keepT h e h0
theorem ok_dropT {t : Tk} (h : OkT t) (least : Int) : OkT (dropT t least) :=
  ⟨Nat.le_trans (List.length_filter_le _ _) h.few, h.rise.sublist List.filter_sublist, fun d hd => h.top d (List.mem_filter.1 hd).1, fun d hd => h.low d (List.mem_filter.1 hd).1, h.sum⟩
end Go.Proofs.YtmhlcnmfbolgdaaGreat

namespace Go.Proofs.YtmhlcnmfbolgdaaGreat
open Go.RowKit
def insP {β : Type} (x : Ky × β) : List (Ky × β) → List (Ky × β)
  | [] => [x]
  | y :: r => if ltKy x.1 y.1 then x :: y :: r else y :: insP x r
section
variable {β : Type}
theorem insP_len (x : Ky × β) : ∀ l : List (Ky × β), (insP x l).length = l.length + 1
  | [] => rfl
  | y :: r => by
    unfold insP
    split
    · rfl
    · rw [List.length_cons, insP_len x r, List.length_cons]
theorem insP_mem (x z : Ky × β) : ∀ l : List (Ky × β), z ∈ insP x l ↔ z = x ∨ z ∈ l
  | [] => by simp [insP]
  | y :: r => by
    unfold insP
    split
    · rw [List.mem_cons]
    · rw [List.mem_cons, insP_mem x z r, List.mem_cons]
      constructor
      · rintro (h | h | h)
        · exact Or.inr (Or.inl h)
        · exact Or.inl h
        · exact Or.inr (Or.inr h)
      · rintro (h | h | h)
        · exact Or.inr (Or.inl h)
        · exact Or.inl h
        · exact Or.inr (Or.inr h)
end
abbrev Wr := Option (List Fld)
abbrev RowW := Ky × Wr
def getW : List RowW → Ky → Option Wr
  | [], _ => none
  | y :: r, k => if y.1 = k then some y.2 else getW r k
def delW (L : List RowW) (k : Ky) : List RowW := L.filter fun y => !decide (y.1 = k)
def layW (L : List RowW) (k : Ky) (e : Wr) : List RowW := insP (k, e) (delW L k)
structure OkW (L : List RowW) : Prop where
  rise : L.Pairwise fun x y => ltKy x.1 y.1 = true
  key : ∀ y ∈ L, keyB y.1.1 y.1.2 = true
  may : ∀ y ∈ L, ∀ v, y.2 = some v → mayB v = true
theorem okW_nil : OkW [] := ⟨List.Pairwise.nil, fun _ h => by simp at h, fun _ h => by simp at h⟩
theorem getW_none {k : Ky} : ∀ {L : List RowW}, getW L k = none ↔ ∀ y ∈ L, y.1 ≠ k
  | [] => by simp [getW]
  | y :: r => by
    unfold getW
    split
    · next h => simp [h]
    · next h => simp [h, getW_none (L := r)]
theorem getW_mem {k : Ky} {e : Wr} : ∀ {L : List RowW}, getW L k = some e → (k, e) ∈ L
  | [], h => by simp [getW] at h
  | y :: r, h => by
    unfold getW at h
    split at h
    · next hy =>
      injection h with h
      subst h hy
      simp
    · exact List.mem_cons_of_mem _ (getW_mem h)
theorem getW_of {y : RowW} : ∀ {L : List RowW}, (L.Pairwise fun x y => ltKy x.1 y.1 = true) → y ∈ L → getW L y.1 = some y.2
  | [], _, h => by simp at h
  | z :: r, hp, h => by
    obtain ⟨h1, h2⟩ := List.pairwise_cons.1 hp
    unfold getW
    rcases List.mem_cons.1 h with rfl | h
    · rw [if_pos rfl]
    · rw [if_neg, getW_of h2 h]
      intro e
      have := h1 y h
      rw [e, totK.irr] at this
      cases this
theorem getW_del (L : List RowW) (k j : Ky) : getW (delW L k) j = if j = k then none else getW L j := by
  induction L with
  | nil => simp [delW, getW]
  | cons y r ih =>
    unfold delW at ih ⊢
    rw [List.filter_cons]
    by_cases h : y.1 = k
    · rw [decide_eq_true h]
      simp only [Bool.not_true, Bool.false_eq_true, if_false]
      rw [ih]
      unfold getW
      by_cases hj : j = k
      · rw [if_pos hj, if_pos hj]
      · rw [if_neg hj, if_neg hj, if_neg (fun e => hj (e.symm.trans h))]
        cases r <;> rfl
    · rw [decide_eq_false h]
      simp only [Bool.not_false, if_true]
      unfold getW
      by_cases hj : y.1 = j
      · rw [if_pos hj, if_pos hj, if_neg (fun e => h (hj.trans e))]
      · rw [if_neg hj, if_neg hj, ih]
theorem getW_ins {x : RowW} (j : Ky) : ∀ {L : List RowW}, (∀ y ∈ L, y.1 ≠ x.1) → getW (insP x L) j = if j = x.1 then some x.2 else getW L j
  | [], _ => by
    unfold insP getW
    by_cases h : x.1 = j
    · rw [if_pos h, if_pos h.symm]
    · rw [if_neg h, if_neg (fun e => h e.symm)]; rfl
  | y :: r, h => by
    unfold insP
    split
    · conv => lhs; unfold getW
      by_cases h1 : x.1 = j
      · rw [if_pos h1, if_pos h1.symm]
      · rw [if_neg h1, if_neg (fun e => h1 e.symm)]
    · unfold getW
      rw [getW_ins j (fun z hz => h z (List.mem_cons_of_mem _ hz))]
      by_cases h1 : y.1 = j
      · rw [if_pos h1, if_pos h1, if_neg (fun e => h y (by simp) (h1.trans e))]
      · rw [if_neg h1, if_neg h1]
theorem delW_ne {L : List RowW} {k : Ky} : ∀ y ∈ delW L k, y.1 ≠ k := fun y hy => by
  have := (List.mem_filter.1 hy).2
  simpa using this
theorem getW_lay (L : List RowW) (k j : Ky) (e : Wr) : getW (layW L k e) j = if j = k then some e else getW L j := by
  unfold layW
  rw [getW_ins j (x := (k, e)) delW_ne, getW_del]
  by_cases h : j = k
  · rw [if_pos h, if_pos h]
  · rw [if_neg h, if_neg h, if_neg h]
theorem rise_ins {x : RowW} : ∀ {L : List RowW}, (L.Pairwise fun x y => ltKy x.1 y.1 = true) → (∀ y ∈ L, y.1 ≠ x.1) → (insP x L).Pairwise fun x y => ltKy x.1 y.1 = true
  | [], _, _ => List.pairwise_cons.2 ⟨fun _ h => by simp at h, List.Pairwise.nil⟩
  | y :: r, h, hn => by
    obtain ⟨h1, h2⟩ := List.pairwise_cons.1 h
    unfold insP
    split
    · next hx =>
      refine List.pairwise_cons.2 ⟨fun z hz => ?_, h⟩
      rcases List.mem_cons.1 hz with rfl | hz
      · exact hx
      · exact totK.tr _ _ _ hx (h1 z hz)
    · next hx =>
      refine List.pairwise_cons.2 ⟨fun z hz => ?_, rise_ins h2 fun z hz => hn z (List.mem_cons_of_mem _ hz)⟩
      rcases (insP_mem x z r).1 hz with rfl | hz
      · rcases totK.tot y.1 z.1 with h3 | h3 | h3
        · exact h3
        · exact absurd h3 (hn y (by simp))
        · exact absurd h3 hx
      · exact h1 z hz
theorem okW_del {L : List RowW} (h : OkW L) (k : Ky) : OkW (delW L k) :=
  ⟨h.rise.sublist List.filter_sublist, fun y hy => h.key y (List.mem_filter.1 hy).1, fun y hy => h.may y (List.mem_filter.1 hy).1⟩
theorem okW_lay {L : List RowW} (h : OkW L) (k : Ky) (e : Wr) (hk : keyB k.1 k.2 = true) (he : ∀ v, e = some v → mayB v = true) : OkW (layW L k e) := by
  have h1 := okW_del h k
  refine ⟨rise_ins h1.rise delW_ne, fun y hy => ?_, fun y hy v hv => ?_⟩
  · rcases (insP_mem _ y _).1 hy with rfl | hy
    · exact hk
    · exact h1.key y hy
  · rcases (insP_mem _ y _).1 hy with rfl | hy
    · exact he v hv
    · exact h1.may y hy v hv
theorem delW_len (L : List RowW) (k : Ky) : (delW L k).length ≤ L.length := List.length_filter_le _ _
theorem layW_len (L : List RowW) (k : Ky) (e : Wr) : (layW L k e).length ≤ L.length + 1 := by
  unfold layW
  rw [insP_len]
  have := delW_len L k
  omega
def codePW (k : Ky) (v : List Fld) : Int := if keyB k.1 k.2 = false then 2 else if mayB v = false then 3 else 0
def codeDW (k : Ky) : Int := if keyB k.1 k.2 = false then 2 else 0
def putW (L : List RowW) (k : Ky) (v : List Fld) : List RowW := if codePW k v = 0 then layW L k (some v) else L
def dltW (L : List RowW) (k : Ky) : List RowW := if codeDW k = 0 then layW L k none else L
def liveW (o : Option Wr) : Bool := match o with | some (some _) => true | _ => false
def valW (o : Option Wr) : List Fld := match o with | some (some v) => v | _ => []
theorem code_key {k : Ky} {v : List Fld} (h : codePW k v = 0) : keyB k.1 k.2 = true ∧ mayB v = true := by
  unfold codePW at h
  split at h
  · cases h
  · next h1 =>
    split at h
    · cases h
    · next h2 => exact ⟨by simpa using h1, by simpa using h2⟩
theorem okW_put {L : List RowW} (h : OkW L) (k : Ky) (v : List Fld) : OkW (putW L k v) := by
  unfold putW
  split
  · next hc => exact okW_lay h k _ (code_key hc).1 fun u hu => by injection hu with hu; subst hu; exact (code_key hc).2
  · exact h
theorem putW_len (L : List RowW) (k : Ky) (v : List Fld) : (putW L k v).length ≤ L.length + 1 := by
  unfold putW
  split
  · exact layW_len _ _ _
  · omega
theorem getW_put (L : List RowW) (k j : Ky) (v : List Fld) : getW (putW L k v) j = if codePW k v = 0 ∧ j = k then some (some v) else getW L j := by
  unfold putW
  by_cases hc : codePW k v = 0
  · rw [if_pos hc, getW_lay]
    by_cases hj : j = k
    · rw [if_pos hj, if_pos ⟨hc, hj⟩]
    · rw [if_neg hj, if_neg fun h => hj h.2]
  · rw [if_neg hc, if_neg fun h => hc h.1]
def keysW (L : List RowW) : List Ky := L.map (·.1)
end Go.Proofs.YtmhlcnmfbolgdaaGreat

namespace Go.Proofs.YtmhlcnmfbolgdaaGreat
open Go.RowKit
abbrev Sn := List (Option Int)
def atQ (os : Sn) (id : Int) : Option Int := if 1 ≤ id then (os[(id - 1).toNat]?).join else none
def closeQ (os : Sn) (id : Int) : Sn := if 1 ≤ id then os.set (id - 1).toNat none else os
def countQ (os : Sn) : Nat := os.countP Option.isSome
def minQ (m : Int) (o : Option Int) : Int := match o with | some s => if s < m then s else m | none => m
def leastQ (os : Sn) (now : Int) : Int := os.foldl minQ now
def lowQ (os : Sn) (f : Int) : Bool := os.any fun o => match o with | some s => decide (s < f) | none => false
def openQ (os : Sn) (fl x : Int) : (Int × Int) × Sn := if x < fl then ((0, 8), os) else (((os.length : Int) + 1, 0), os ++ [some x])
def raiseQ (os : Sn) (fl f : Int) : Int × Int := if f < fl then (8, fl) else if lowQ os f then (1, fl) else (0, f)
theorem atQ_le {os : Sn} {id : Int} (h : (os.length : Int) < id) : atQ os id = none := by
  unfold atQ
  split
  · rw [List.getElem?_eq_none (by omega)]; rfl
  · rfl
theorem atQ_in {os : Sn} {i : Nat} (h : i < os.length) : atQ os ((i : Int) + 1) = os[i] := by
  unfold atQ
  rw [if_pos (by omega), show ((i : Int) + 1 - 1).toNat = i by omega, List.getElem?_eq_getElem h]
  rfl
theorem atQ_open (os : Sn) (x id : Int) : atQ (os ++ [some x]) id = if id = (os.length : Int) + 1 then some x else atQ os id := by
  unfold atQ
  by_cases h1 : 1 ≤ id
  · rw [if_pos h1, if_pos h1]
    by_cases e : id = (os.length : Int) + 1
    · rw [if_pos e, e, show ((os.length : Int) + 1 - 1).toNat = os.length by omega]
      simp
    · rw [if_neg e]
      rcases Nat.lt_or_ge (id - 1).toNat os.length with h | h
      · rw [List.getElem?_append_left h]
      · rw [List.getElem?_append_right h, List.getElem?_eq_none (l := os) h, List.getElem?_eq_none (by simp; omega)]
  · rw [if_neg h1, if_neg h1, if_neg (by omega)]
theorem atQ_close (os : Sn) (x id : Int) : atQ (closeQ os x) id = if id = x then none else atQ os id := by
  unfold closeQ
  by_cases hx : 1 ≤ x
  · rw [if_pos hx]
    unfold atQ
    by_cases h1 : 1 ≤ id
    · rw [if_pos h1, if_pos h1, List.getElem?_set]
      by_cases e : id = x
      · rw [if_pos e, if_pos (by omega)]
        split <;> rfl
      · rw [if_neg e, if_neg (by omega)]
    · rw [if_neg h1, if_neg h1]
      split <;> rfl
  · rw [if_neg hx]
    by_cases e : id = x
    · rw [if_pos e, e]
      unfold atQ
      rw [if_neg hx]
    · rw [if_neg e]
theorem closeQ_len (os : Sn) (x : Int) : (closeQ os x).length = os.length := by
  unfold closeQ
  split <;> simp
theorem closeQ_same {os : Sn} {x : Int} (h : atQ os x = none) : closeQ os x = os := by
  unfold closeQ
  unfold atQ at h
  by_cases hx : 1 ≤ x
  · rw [if_pos hx] at h ⊢
    rcases Nat.lt_or_ge (x - 1).toNat os.length with k | k
    · rw [List.getElem?_eq_getElem k] at h
      have h2 : os[(x - 1).toNat] = none := h
      apply List.ext_getElem?
      intro j
      rw [List.getElem?_set]
      split
      · next e => subst e; rw [List.getElem?_eq_getElem k, h2]
      · rfl
    · exact List.set_eq_of_length_le k
  · rw [if_neg hx]
theorem minQ_some (m s : Int) : minQ m (some s) = if s < m then s else m := rfl
theorem least_cons (o : Option Int) (os : Sn) (now : Int) : leastQ (o :: os) now = leastQ os (minQ now o) := rfl
theorem minQ_le (m : Int) (o : Option Int) : minQ m o ≤ m := by
  cases o with
  | none => exact Int.le_refl _
  | some s => rw [minQ_some]; split <;> omega
theorem least_le (os : Sn) : ∀ now, leastQ os now ≤ now := by
  induction os with
  | nil => intro now; exact Int.le_refl _
  | cons o os ih => intro now; rw [least_cons]; exact Int.le_trans (ih _) (minQ_le _ _)
theorem least_open {os : Sn} {s : Int} (h : some s ∈ os) (now : Int) : leastQ os now ≤ s := by
  induction os generalizing now with
  | nil => cases h
  | cons o os ih =>
    rw [least_cons]
    rcases List.mem_cons.1 h with e | h
    · subst e
      refine Int.le_trans (least_le _ _) ?_
      rw [minQ_some]
      split <;> omega
    · exact ih h _
theorem least_is (os : Sn) : ∀ now, leastQ os now = now ∨ some (leastQ os now) ∈ os := by
  induction os with
  | nil => intro now; exact Or.inl rfl
  | cons o os ih =>
    intro now
    rw [least_cons]
    rcases ih (minQ now o) with h | h
    · rw [h]
      cases o with
      | none => exact Or.inl rfl
      | some s =>
        rw [minQ_some]
        split
        · right; simp
        · exact Or.inl rfl
    · exact Or.inr (List.mem_cons_of_mem _ h)
theorem low_iff (os : Sn) (f : Int) : lowQ os f = true ↔ ∃ s, some s ∈ os ∧ s < f := by
  unfold lowQ
  rw [List.any_eq_true]
  constructor
  · rintro ⟨o, ho, h⟩
    cases o with
    | none => cases h
    | some s => exact ⟨s, ho, of_decide_eq_true h⟩
  · rintro ⟨s, hs, h⟩
    exact ⟨some s, hs, decide_eq_true h⟩
theorem low_least (os : Sn) (f : Int) : lowQ os f = decide (leastQ os f < f) := by
  rw [Bool.eq_iff_iff, low_iff, decide_eq_true_iff]
  constructor
  · rintro ⟨s, hs, h⟩
    have := least_open hs f
    omega
  · intro h
    rcases least_is os f with e | e
    · omega
    · exact ⟨_, e, h⟩
theorem count_open (os : Sn) (x : Int) : countQ (os ++ [some x]) = countQ os + 1 := by
  unfold countQ
  rw [List.countP_append]
  rfl
theorem countQ_set : ∀ (os : Sn) (i : Nat) (h : i < os.length), countQ (os.set i none) + (if (os[i]).isSome then 1 else 0) = countQ os
  | o :: os, 0, _ => by
    unfold countQ
    rw [List.set_cons_zero, List.countP_cons, List.countP_cons]
    cases o <;> simp
  | o :: os, i + 1, h => by
    have := countQ_set os i (by simpa using h)
    unfold countQ at this ⊢
    rw [List.set_cons_succ, List.countP_cons, List.countP_cons, List.getElem_cons_succ]
    omega
theorem count_close (os : Sn) (x : Int) : countQ (closeQ os x) + (if (atQ os x).isSome then 1 else 0) = countQ os := by
  cases hq : atQ os x with
  | none => rw [closeQ_same hq]; simp
  | some s =>
    have h1 : 1 ≤ x := Classical.byContradiction fun h => by unfold atQ at hq; rw [if_neg h] at hq; cases hq
    have h2 : (x - 1).toNat < os.length := Classical.byContradiction fun h => by
      unfold atQ at hq
      rw [if_pos h1, List.getElem?_eq_none (by omega)] at hq
      cases hq
    have h3 : os[(x - 1).toNat] = some s := by
      unfold atQ at hq
      rw [if_pos h1, List.getElem?_eq_getElem h2] at hq
      exact hq
    have := countQ_set os (x - 1).toNat h2
    rw [h3] at this
    unfold closeQ
    rw [if_pos h1]
    exact this
def OkQ (os : Sn) (fl : Int) : Prop := (0 ≤ fl ∧ fl ≤ 18446744073709551615) ∧ ∀ s, some s ∈ os → fl ≤ s ∧ s ≤ 18446744073709551615
theorem least_ok {os : Sn} {fl now : Int} (h : OkQ os fl) (hn : fl ≤ now) : fl ≤ leastQ os now := by
  rcases least_is os now with e | e
  · omega
  · exact (h.2 _ e).1
theorem raise_least {os : Sn} {fl now : Int} : raiseQ os fl (leastQ os now) = if leastQ os now < fl then (8, fl) else (0, leastQ os now) := by
  unfold raiseQ
  split
  · rfl
  · rw [if_neg]
    intro h
    obtain ⟨s, hs, k⟩ := (low_iff _ _).1 h
    have := least_open hs now
    omega
end Go.Proofs.YtmhlcnmfbolgdaaGreat

namespace Go.Proofs.YtmhlcnmfbolgdaaGreat
structure Tx where
  snap : Int
  ended : Bool
  marks : Mk
  wr : List RowW
  deriving Inhabited
structure Sv where
  vers : Int
  D : List RowD
  last : Int
  tick : Int
  floor : Int
  tk : Tk
  txs : List Tx
def topS : Int := 18446744073709551615
def openS (S : Sv) : Sn := S.txs.map fun x => if x.ended then none else some x.snap
def leastS (S : Sv) : Int := leastQ (openS S) S.last
def setS (S : Sv) (i : Nat) (x : Tx) : Sv := { S with txs := S.txs.set i x }
def rightS (vers most tries : Int) : Bool := decide (1 ≤ vers) && decide (vers ≤ 4096) && decide (0 ≤ most) && decide (most ≤ 64) && decide (1 ≤ tries) && decide (tries ≤ 8)
def newS (vers most first : Int) : Sv := ⟨vers, [], first, 0, 0, newT most, []⟩
def freshX (s : Int) : Tx := ⟨s, false, ([], []), []⟩
def beginS (S : Sv) : Sv := { S with txs := S.txs ++ [freshX S.last] }
def vacS (S : Sv) : Sv := { S with floor := leastS S, D := pruneD S.D (leastS S) }
def oldS (D : List RowD) (s : Int) (k : Ky) : Option Vr := atV (ofD D k) s
def isS (D : List RowD) (x : Tx) (k : Ky) : Option Vr := match getW x.wr k with
  | none => oldS D x.snap k
  | some e => some ⟨((oldS D x.snap k).getD zeroV).num + 1, 0, 0, liveW (some e), valW (some e)⟩
def chgS (D : List RowD) (s : Int) (y : RowW) : Ch := ⟨y.1, ((oldS D s y.1).getD zeroV).live, ((oldS D s y.1).getD zeroV).val, liveW (some y.2), valW (some y.2)⟩
def changesS (D : List RowD) (x : Tx) : List Ch := if x.ended then [] else x.wr.map (chgS D x.snap)
def tagK (x : Tx) (k : Ky) : Tx := { x with marks := keyM x.marks k }
def readS (D : List RowD) (x : Tx) (k : Ky) : (Option Vr × Int) × Tx := if x.ended then ((none, 12), x) else if keyB k.1 k.2 = false then ((none, 2), x) else ((isS D x k, if (isS D x k).isSome then 0 else 6), tagK x k)
def writeS (x : Tx) (k : Ky) (v : List Fld) : Int × Tx := if x.ended then (12, x) else (codePW k v, { x with wr := putW x.wr k v })
def deleteS (D : List RowD) (x : Tx) (k : Ky) : Int × Tx :=
  if x.ended then (12, x) else if keyB k.1 k.2 = false then (2, x)
  else if ((isS D x k).getD zeroV).live = false then (6, tagK x k)
  else if ((oldS D x.snap k).getD zeroV).live = false then (0, { tagK x k with wr := delW x.wr k })
  else (0, { tagK x k with wr := layW x.wr k none })
def putAll (D : List RowD) (ch : List Ch) (n tick : Int) : List RowD := ch.foldl (fun D c => putD D c.key n tick c.il c.is) D
def lateS (D : List RowD) (s : Int) (c : Ch) : Bool := decide (s < (lastV (ofD D c.key)).stamp)
def doneS (S : Sv) (i : Nat) (x : Tx) (ch : List Ch) (out : Bool) : Int × Sv :=
  let S1 := setS S i { x with ended := true }
  let S2 := if ch = [] then S1 else { S1 with last := S.last + 1, D := putAll S.D ch (S.last + 1) S.tick }
  (if ch = [] then 0 else S.last + 1, if ch = [] ∧ x.marks = ([], []) then S2 else { S2 with tk := dropT (addT S2.tk ⟨x.snap, S2.last, out, x.marks, ch⟩).2 (leastS S2) })
def commitS (S : Sv) (i : Nat) (x : Tx) : (Int × Int) × Sv :=
  if x.ended then ((0, 12), S)
  else if (changesS S.D x).any (lateS S.D x.snap) then ((0, 11), setS S i { x with ended := true })
  else if (checkT S.tk x.snap x.marks (changesS S.D x)).2 ≠ 0 then ((0, 11), setS S i { x with ended := true })
  else if changesS S.D x ≠ [] ∧ S.vers < (countD S.D : Int) + ((changesS S.D x).length : Int) then ((0, 9), setS S i { x with ended := true })
  else if changesS S.D x ≠ [] ∧ S.last = topS then ((0, 10), setS S i { x with ended := true })
  else (((doneS S i x (changesS S.D x) (checkT S.tk x.snap x.marks (changesS S.D x)).1).1, 0), (doneS S i x (changesS S.D x) (checkT S.tk x.snap x.marks (changesS S.D x)).1).2)
end Go.Proofs.YtmhlcnmfbolgdaaGreat

namespace Go.Proofs.YtmhlcnmfbolgdaaGreat
theorem at_last {l : List Vr} (h : OkV l) {s : Int} (hs : (lastV l).stamp ≤ s) : (atV l s).getD zeroV = lastV l := by
  by_cases hn : l = []
  · subst hn; rfl
  · have h0 : 0 < l.length := List.length_pos_iff.2 hn
    have hc : cutV l s = l.length := by
      refine cutV_uniq h.rise (Nat.le_refl _) (fun i hi _ => ?_) (fun i hi hle => by omega)
      rw [lastV_get h0] at hs
      rcases Nat.lt_or_ge i (l.length - 1) with q | q
      · have := rise_lt h.rise q (by omega); omega
      · have e : i = l.length - 1 := by omega
        subst e; exact hs
    unfold atV
    rw [hc, if_neg (by omega), List.getElem?_eq_getElem (by omega), lastV_get h0]
    rfl
structure PutsIn (D : List RowD) (n : Int) (ch : List Ch) : Prop where
  nd : (ch.map Ch.key).Nodup
  code : ∀ c ∈ ch, codeD D c.key n c.il c.is = 0
theorem putD_of {D : List RowD} {k : Ky} {n tick : Int} {live : Bool} {val : List Fld} (hc : codeD D k n live val = 0) (k' : Ky) : ofD (putD D k n tick live val) k' = if k' = k then putV (ofD D k) n tick live val else ofD D k' := by
  unfold putD
  rw [if_pos hc, setD_of]
theorem codeD_of {D E : List RowD} {k : Ky} (h : ofD D k = ofD E k) (n : Int) (live : Bool) (val : List Fld) : codeD D k n live val = codeD E k n live val := by
  unfold codeD
  rw [h]
theorem PutsIn.tail {D : List RowD} {n tick : Int} {c : Ch} {ch : List Ch} (h : PutsIn D n (c :: ch)) : PutsIn (putD D c.key n tick c.il c.is) n ch := by
  have hnd := List.nodup_cons.1 h.nd
  refine ⟨hnd.2, fun d hd => ?_⟩
  rw [codeD_of (E := D)]
  · exact h.code d (List.mem_cons_of_mem _ hd)
  · rw [putD_of (h.code c List.mem_cons_self), if_neg]
    intro e
    exact hnd.1 (List.mem_map.2 ⟨d, hd, e⟩)
theorem putAll_of {n tick : Int} : ∀ {ch : List Ch} {D : List RowD}, PutsIn D n ch → ∀ k, ofD (putAll D ch n tick) k = match ch.find? (fun c => decide (c.key = k)) with | some c => putV (ofD D k) n tick c.il c.is | none => ofD D k
  | [], _, _, _ => rfl
  | c :: ch, D, h, k => by
    have hnd := List.nodup_cons.1 h.nd
    have ih := putAll_of (n := n) (tick := tick) (h.tail (tick := tick)) k
    have e : putAll D (c :: ch) n tick = putAll (putD D c.key n tick c.il c.is) ch n tick := rfl
    rw [e, ih, putD_of (h.code c List.mem_cons_self)]
    by_cases hk : c.key = k
    · have hnone : ch.find? (fun c => decide (c.key = k)) = none := List.find?_eq_none.2 fun d hd hq => by
        have := of_decide_eq_true hq
        exact hnd.1 (List.mem_map.2 ⟨d, hd, this.trans hk.symm⟩)
      rw [hnone, if_pos hk.symm, List.find?_cons_of_pos (by simpa using hk), hk]
    · rw [if_neg (fun e => hk e.symm), List.find?_cons_of_neg (by simpa using hk)]
theorem putAll_ok {n tick : Int} (h0 : 0 ≤ n) : ∀ {ch : List Ch} {D : List RowD}, OkD D → PutsIn D n ch → OkD (putAll D ch n tick)
  | [], _, h, _ => h
  | c :: ch, D, h, hp => by
    refine putAll_ok (ch := ch) h0 ?_ (hp.tail (tick := tick))
    have hc := hp.code c List.mem_cons_self
    show OkD (putD D c.key n tick c.il c.is)
    unfold putD
    rw [if_pos hc]
    refine okD_set h c.key (ok_put (ofD_ok h c.key) h0 (old := 8) (field := 3) (none := 6) (may := mayB c.is) (by decide) (by decide) (by decide) ?_) (putV_ne _ _ _ _ _)
    unfold codeD at hc
    split at hc
    · exact hc
    · cases hc
theorem putAll_count {n tick : Int} (h0 : 0 ≤ n) : ∀ {ch : List Ch} {D : List RowD}, OkD D → PutsIn D n ch → countD (putAll D ch n tick) = countD D + ch.length
  | [], _, _, _ => rfl
  | c :: ch, D, h, hp => by
    have hc := hp.code c List.mem_cons_self
    have hok : OkD (putD D c.key n tick c.il c.is) := putAll_ok h0 (ch := [c]) h ⟨by simp, fun d hd => by rw [List.mem_singleton.1 hd]; exact hc⟩
    have ih := putAll_count h0 (ch := ch) (tick := tick) hok (hp.tail (tick := tick))
    have e : putAll D (c :: ch) n tick = putAll (putD D c.key n tick c.il c.is) ch n tick := rfl
    have h1 := setD_count c.key (putV (ofD D c.key) n tick c.il c.is) h
    rw [putV_len] at h1
    have h2 : countD (putD D c.key n tick c.il c.is) = countD D + 1 := by unfold putD; rw [if_pos hc]; omega
    rw [e, ih, h2, List.length_cons]
    omega
theorem putAll_pre {n tick s : Int} (hs : s < n) : ∀ (ch : List Ch) (D E : List RowD), PreD s D E → PreD s (putAll D ch n tick) E
  | [], _, _, h => h
  | c :: ch, _, _, h => putAll_pre hs ch _ _ (preD_put h c.key hs tick c.il c.is)
theorem putAll_at {n tick s : Int} {D : List RowD} {ch : List Ch} (h0 : 0 ≤ n) (h : OkD D) (hp : PutsIn D n ch) (hs : s < n) {t : Int} (ht : t ≤ s) (k : Ky) : atV (ofD (putAll D ch n tick) k) t = atV (ofD D k) t :=
  pre_at (ofD_ok (putAll_ok h0 h hp) k).rise (putAll_pre hs ch D D (preD_refl s D) k).1 ht
structure OkX (D : List RowD) (fl last : Int) (x : Tx) : Prop where
  lo : 0 ≤ x.snap
  hi : x.snap ≤ last
  fl : x.ended = false → fl ≤ x.snap
  wr : OkW x.wr
  dead : x.ended = false → ∀ k, getW x.wr k = some none → ((oldS D x.snap k).getD zeroV).live = true
structure OkS (S : Sv) : Prop where
  dir : OkD S.D
  low : ∀ k, ∀ v ∈ ofD S.D k, v.stamp ≤ S.last
  key : ∀ k, ofD S.D k ≠ [] → keyB k.1 k.2 = true
  may : ∀ k, ∀ v ∈ ofD S.D k, mayB v.val = true
  fl0 : 0 ≤ S.floor
  fl : S.floor ≤ S.last
  top : S.last ≤ topS
  tick : 0 ≤ S.tick ∧ S.tick ≤ 1099511627776
  tk : OkT S.tk
  tkl : ∀ s, S.tk.last = some s → s ≤ S.last
  txs : ∀ x ∈ S.txs, OkX S.D S.floor S.last x
  cnt : (countD S.D : Int) ≤ S.vers
theorem okS_new {vers most first : Int} (hv : 0 ≤ vers) (h0 : 0 ≤ first) (h1 : first ≤ topS) : OkS (newS vers most first) :=
  ⟨okD_nil, (fun k v hv => by cases hv), (fun k hk => absurd rfl hk), (fun k v hv => by cases hv), Int.le_refl _, h0, h1, ⟨Int.le_refl 0, show (0 : Int) ≤ 1099511627776 by decide⟩, ok_newT most, (fun s hs => by cases hs), (fun x hx => by cases hx), hv⟩
theorem okS_begin {S : Sv} (h : OkS S) : OkS (beginS S) := by
  refine ⟨h.dir, h.low, h.key, h.may, h.fl0, h.fl, h.top, h.tick, h.tk, h.tkl, fun x hx => ?_, h.cnt⟩
  rcases List.mem_append.1 hx with hx | hx
  · exact h.txs x hx
  · rw [List.mem_singleton.1 hx]
    have h0 := h.fl0
    have h1 := h.fl
    exact ⟨by show 0 ≤ S.last; omega, Int.le_refl _, fun _ => h1, ⟨List.Pairwise.nil, (fun y hy => by cases hy), (fun y hy => by cases hy)⟩, fun _ k hk => by cases hk⟩
theorem okS_set {S : Sv} (h : OkS S) (i : Nat) {x : Tx} (hx : OkX S.D S.floor S.last x) : OkS (setS S i x) := by
  refine ⟨h.dir, h.low, h.key, h.may, h.fl0, h.fl, h.top, h.tick, h.tk, h.tkl, fun y hy => ?_, h.cnt⟩
  rcases List.mem_or_eq_of_mem_set hy with hy | rfl
  · exact h.txs y hy
  · exact hx
theorem okX_end {D : List RowD} {fl last : Int} {x : Tx} (h : OkX D fl last x) : OkX D fl last { x with ended := true } := ⟨h.lo, h.hi, fun e => (by cases e), h.wr, fun e => (by cases e)⟩
theorem okX_mark {D : List RowD} {fl last : Int} {x : Tx} (h : OkX D fl last x) (m : Mk) : OkX D fl last { x with marks := m } := ⟨h.lo, h.hi, h.fl, h.wr, h.dead⟩
theorem open_mem {S : Sv} {s : Int} : some s ∈ openS S ↔ ∃ x ∈ S.txs, x.ended = false ∧ x.snap = s := by
  unfold openS
  rw [List.mem_map]
  constructor
  · rintro ⟨x, hx, e⟩
    cases hq : x.ended with
    | true => rw [hq] at e; cases e
    | false => rw [hq] at e; injection e with e; exact ⟨x, hx, hq, e⟩
  · rintro ⟨x, hx, h1, rfl⟩
    exact ⟨x, hx, by rw [h1]; rfl⟩
theorem okQ_openS {S : Sv} (h : OkS S) : OkQ (openS S) S.floor := by
  have h1 := h.fl
  have h2 := h.top
  unfold topS at h2
  refine ⟨⟨h.fl0, by omega⟩, fun s hs => ?_⟩
  obtain ⟨x, hx, he, rfl⟩ := open_mem.1 hs
  have := h.txs x hx
  exact ⟨this.fl he, by have := this.hi; omega⟩
theorem leastS_ge {S : Sv} (h : OkS S) : S.floor ≤ leastS S := least_ok (okQ_openS h) h.fl
theorem leastS_le (S : Sv) : leastS S ≤ S.last := least_le _ _
theorem leastS_open {S : Sv} {x : Tx} (hx : x ∈ S.txs) (he : x.ended = false) : leastS S ≤ x.snap := least_open (open_mem.2 ⟨x, hx, he, rfl⟩) _
theorem prune_mem {l : List Vr} {f : Int} {v : Vr} (h : v ∈ pruneV l f) : v ∈ l := List.mem_of_mem_drop h
theorem okS_vac {S : Sv} (h : OkS S) : OkS (vacS S) := by
  have h1 := leastS_ge h
  have h2 := leastS_le S
  have h3 := h.fl0
  refine ⟨okD_prune h.dir _, fun k v hv => ?_, fun k hk => ?_, fun k v hv => ?_, by show 0 ≤ leastS S; omega, h2, h.top, h.tick, h.tk, h.tkl, fun x hx => ?_, ?_⟩
  · have hv' : v ∈ ofD (pruneD S.D (leastS S)) k := hv
    rw [pruneD_of] at hv'
    exact h.low k v (prune_mem hv')
  · have hk' : ofD (pruneD S.D (leastS S)) k ≠ [] := hk
    rw [pruneD_of] at hk'
    exact h.key k fun e => hk' (by rw [e]; rfl)
  · have hv' : v ∈ ofD (pruneD S.D (leastS S)) k := hv
    rw [pruneD_of] at hv'
    exact h.may k v (prune_mem hv')
  · have hx0 := h.txs x hx
    refine ⟨hx0.lo, hx0.hi, fun he => leastS_open hx he, hx0.wr, fun he k hk => ?_⟩
    have := hx0.dead he k hk
    show ((atV (ofD (pruneD S.D (leastS S)) k) x.snap).getD zeroV).live = true
    rw [pruneD_of, prune_at (ofD_ok h.dir k).rise (leastS_open (S := S) hx he)]
    exact this
  · have hc := pruneD_count S.D (leastS S)
    have := h.cnt
    show (countD (pruneD S.D (leastS S)) : Int) ≤ S.vers
    omega
end Go.Proofs.YtmhlcnmfbolgdaaGreat

namespace Go.Proofs.YtmhlcnmfbolgdaaGreat
section
variable {D : List RowD} {fl last : Int} {x : Tx}
theorem okX_put (h : OkX D fl last x) (k : Ky) (v : List Fld) : OkX D fl last (writeS x k v).2 := by
  unfold writeS
  split
  · exact h
  · refine ⟨h.lo, h.hi, h.fl, okW_put h.wr k v, fun he k' hk => ?_⟩
    have hk' : getW (putW x.wr k v) k' = some none := hk
    rw [getW_put] at hk'
    split at hk'
    · cases hk'
    · exact h.dead he k' hk'
theorem okX_delete (h : OkX D fl last x) (k : Ky) : OkX D fl last (deleteS D x k).2 := by
  unfold deleteS
  split
  · exact h
  · split
    · exact h
    · next he hk =>
      split
      · exact okX_mark h _
      · split
        · refine ⟨h.lo, h.hi, h.fl, okW_del h.wr k, fun he k' hk' => ?_⟩
          have hk2 : getW (delW x.wr k) k' = some none := hk'
          rw [getW_del] at hk2
          split at hk2
          · cases hk2
          · exact h.dead he k' hk2
        · next hl =>
          refine ⟨h.lo, h.hi, h.fl, okW_lay h.wr k none (by simpa using hk) (fun v hv => by cases hv), fun he k' hk' => ?_⟩
          have hk2 : getW (layW x.wr k none) k' = some none := hk'
          rw [getW_lay] at hk2
          split at hk2
          · next e =>
            subst e
            show ((oldS D x.snap k').getD zeroV).live = true
            simpa using hl
          · exact h.dead he k' hk2
end
theorem changes_keys {D : List RowD} {x : Tx} (he : x.ended = false) : (changesS D x).map Ch.key = keysW x.wr := by
  unfold changesS keysW
  rw [if_neg (by rw [he]; simp), List.map_map]
  rfl
theorem rise_nodupW {L : List RowW} (h : L.Pairwise fun x y => ltKy x.1 y.1 = true) : (keysW L).Nodup := by
  unfold keysW
  exact List.pairwise_map.2 (h.imp fun {a b} hab e => by
    have e' : a.1 = b.1 := e
    rw [e', totK.irr] at hab
    cases hab)
theorem puts_in {S : Sv} (h : OkS S) {x : Tx} (hx : OkX S.D S.floor S.last x) (he : x.ended = false) (hl : (changesS S.D x).any (lateS S.D x.snap) = false) : PutsIn S.D (S.last + 1) (changesS S.D x) := by
  refine ⟨by rw [changes_keys he]; exact rise_nodupW hx.wr.rise, fun c hc => ?_⟩
  have hnl : lateS S.D x.snap c = false := by
    rw [List.any_eq_false] at hl
    simpa using hl c hc
  have hlt : (lastV (ofD S.D c.key)).stamp ≤ x.snap := by
    have := of_decide_eq_false hnl
    omega
  unfold changesS at hc
  rw [if_neg (by rw [he]; simp)] at hc
  obtain ⟨y, hy, rfl⟩ := List.mem_map.1 hc
  have hk := hx.wr.key y hy
  have h0 := h.fl0
  have h1 := h.fl
  have h2 := hx.hi
  unfold codeD
  rw [if_pos (by exact hk)]
  show putCode 8 3 6 (mayB (valW (some y.2))) (ofD S.D y.1) (S.last + 1) (liveW (some y.2)) = 0
  unfold putCode
  have hlt' : (lastV (ofD S.D y.1)).stamp ≤ x.snap := hlt
  rw [if_neg (by omega)]
  cases hw : y.2 with
  | some v =>
    have hm := hx.wr.may y hy v hw
    rw [if_neg (by simp [liveW, valW, hm]), if_neg (by simp [liveW])]
  | none =>
    rw [if_neg (by simp [liveW]), if_neg]
    have hg : getW x.wr y.1 = some none := by rw [getW_of hx.wr.rise hy, hw]
    have hd := hx.dead he y.1 hg
    unfold oldS at hd
    rw [at_last (ofD_ok h.dir y.1) hlt'] at hd
    rw [hd]
    simp
theorem any_keys {ch : List Ch} {k : Ky} {c : Ch} (h : ch.find? (fun c => decide (c.key = k)) = some c) : c ∈ ch ∧ c.key = k := ⟨List.mem_of_find?_eq_some h, by have := List.find?_some h; simpa using this⟩
theorem add_last {t : Tk} {d : Dn} {s : Int} (h : (addT t d).2.last = some s) : t.last = some s ∨ s = d.stamp := by
  unfold addT at h
  split at h
  · exact Or.inl h
  · have h' : (keepT t d).last = some s := h
    rw [keepT_last] at h'
    injection h' with h'
    exact Or.inr h'.symm
theorem okS_done {S : Sv} (h : OkS S) {i : Nat} {x : Tx} (hx : OkX S.D S.floor S.last x) (he : x.ended = false) (hl : (changesS S.D x).any (lateS S.D x.snap) = false) (hv : changesS S.D x ≠ [] → ((countD S.D : Int) + ((changesS S.D x).length : Int)) ≤ S.vers ∧ S.last ≠ topS) (out : Bool) : OkS (doneS S i x (changesS S.D x) out).2 := by
  have hS1 := okS_set h i (okX_end hx)
  have hpi := puts_in h hx he hl
  have h0 := h.fl0
  have h1 := h.fl
  have htop := h.top
  have hcm : ∀ c ∈ changesS S.D x, (keyB c.key.1 c.key.2 = true) ∧ (c.il = true → mayB c.is = true) := fun c hc => by
    unfold changesS at hc
    rw [if_neg (by rw [he]; simp)] at hc
    obtain ⟨y, hy, rfl⟩ := List.mem_map.1 hc
    refine ⟨hx.wr.key y hy, fun hlv => ?_⟩
    cases hw : y.2 with
    | none => simp [chgS, liveW, hw] at hlv
    | some v =>
      have := hx.wr.may y hy v hw
      simpa [chgS, valW, hw] using this
  have hS2 : OkS (if changesS S.D x = [] then setS S i { x with ended := true } else { setS S i { x with ended := true } with last := S.last + 1, D := putAll S.D (changesS S.D x) (S.last + 1) S.tick }) := by
    split
    · exact hS1
    · next hne =>
      obtain ⟨hvv, hlt⟩ := hv hne
      have hn0 : (0 : Int) ≤ S.last + 1 := by omega
      have hok := putAll_ok (tick := S.tick) hn0 h.dir hpi
      have hmem : ∀ k, ∀ v ∈ ofD (putAll S.D (changesS S.D x) (S.last + 1) S.tick) k, v ∈ ofD S.D k ∨ (v.stamp = S.last + 1 ∧ mayB v.val = true ∧ keyB k.1 k.2 = true) := fun k v hv => by
        rw [putAll_of hpi] at hv
        split at hv
        · next c hc =>
          obtain ⟨c1, c2⟩ := any_keys hc
          unfold putV at hv
          rcases List.mem_append.1 hv with hv | hv
          · exact Or.inl hv
          · rw [List.mem_singleton.1 hv]
            refine Or.inr ⟨rfl, ?_, by rw [← c2]; exact (hcm c c1).1⟩
            show mayB (if c.il then c.is else []) = true
            split
            · next hil => exact (hcm c c1).2 hil
            · rfl
        · exact Or.inl hv
      refine ⟨hok, fun k v hv => ?_, fun k hk => ?_, fun k v hv => ?_, h0, by show S.floor ≤ S.last + 1; omega, by show S.last + 1 ≤ topS; omega, h.tick, h.tk, fun s hs => ?_, fun z hz => ?_, ?_⟩
      · show v.stamp ≤ S.last + 1
        rcases hmem k v hv with q | q
        · have := h.low k v q; omega
        · omega
      · obtain ⟨v, hv⟩ := List.exists_mem_of_ne_nil _ hk
        rcases hmem k v hv with q | q
        · exact h.key k (List.ne_nil_of_mem q)
        · exact q.2.2
      · rcases hmem k v hv with q | q
        · exact h.may k v q
        · exact q.2.1
      · show s ≤ S.last + 1
        have := h.tkl s hs; omega
      · have hz0 := hS1.txs z hz
        have hzh : z.snap ≤ S.last := hz0.hi
        refine ⟨hz0.lo, by show z.snap ≤ S.last + 1; omega, hz0.fl, hz0.wr, fun hez k hk => ?_⟩
        have := hz0.dead hez k hk
        show ((atV (ofD (putAll S.D (changesS S.D x) (S.last + 1) S.tick) k) z.snap).getD zeroV).live = true
        rw [putAll_at hn0 h.dir hpi (s := S.last) (by omega) hzh]
        exact this
      · show (countD (putAll S.D (changesS S.D x) (S.last + 1) S.tick) : Int) ≤ S.vers
        rw [putAll_count hn0 h.dir hpi]
        omega
  have hl2 : (0 : Int) ≤ (if changesS S.D x = [] then setS S i { x with ended := true } else { setS S i { x with ended := true } with last := S.last + 1, D := putAll S.D (changesS S.D x) (S.last + 1) S.tick }).last := by
    have a := hS2.fl0
    have b := hS2.fl
    omega
  unfold doneS
  simp only
  generalize (if changesS S.D x = [] then setS S i { x with ended := true } else { setS S i { x with ended := true } with last := S.last + 1, D := putAll S.D (changesS S.D x) (S.last + 1) S.tick }) = S2 at *
  split
  · exact hS2
  · refine ⟨hS2.dir, hS2.low, hS2.key, hS2.may, hS2.fl0, hS2.fl, hS2.top, hS2.tick, ok_dropT (ok_addT hS2.tk _ hl2) _, fun s hs => ?_, hS2.txs, hS2.cnt⟩
    rcases add_last (t := S2.tk) hs with q | q
    · exact hS2.tkl s q
    · rw [q]
      exact Int.le_refl _
theorem okS_commit {S : Sv} (h : OkS S) {i : Nat} {x : Tx} (hx : OkX S.D S.floor S.last x) : OkS (commitS S i x).2 := by
  have hS1 := okS_set h i (okX_end hx)
  unfold commitS
  split
  · exact h
  · next he =>
    split
    · exact hS1
    · next hl =>
      split
      · exact hS1
      · split
        · exact hS1
        · next hv =>
          split
          · exact hS1
          · next hsp =>
            refine okS_done h hx (by simpa using he) (by simpa using hl) (fun hne => ⟨?_, fun e => hsp ⟨hne, e⟩⟩) _
            exact Int.not_lt.1 fun q => hv ⟨hne, q⟩
end Go.Proofs.YtmhlcnmfbolgdaaGreat

namespace Go.Proofs.YtmhlcnmfbolgdaaGreat
open Go.RowKit
end Go.Proofs.YtmhlcnmfbolgdaaGreat

namespace Go.Proofs.YtmhlcnmfbolgdaaGreat
open Go.RowKit
end Go.Proofs.YtmhlcnmfbolgdaaGreat

namespace Go.Proofs.YtmhlcnmfbolgdaaGreat
open Go.RowKit
end Go.Proofs.YtmhlcnmfbolgdaaGreat

namespace Go.Proofs.YtmhlcnmfbolgdaaGreat
open Go.RowKit
end Go.Proofs.YtmhlcnmfbolgdaaGreat

namespace Go.Proofs.YtmhlcnmfbolgdaaGreat
open Go.RowKit
end Go.Proofs.YtmhlcnmfbolgdaaGreat

namespace Go.Proofs.YtmhlcnmfbolgdaaGreat
open Go.RowKit
end Go.Proofs.YtmhlcnmfbolgdaaGreat

namespace Go.Proofs.YtmhlcnmfbolgdaaGreat
open Go.RowKit
end Go.Proofs.YtmhlcnmfbolgdaaGreat

namespace Go.Proofs.YtmhlcnmfbolgdaaGreat
open Go.RowKit
end Go.Proofs.YtmhlcnmfbolgdaaGreat

namespace Go.Proofs.YtmhlcnmfbolgdaaGreat
open Go.RowKit
theorem isXs_nil (W : World) : IsXs W (.slice none 0 0) [] ∧ FitX [] ∧ CopyX [] := ⟨⟨none, 0, rfl, Or.inl rfl, fun _ h => by simp at h⟩, ⟨by unfold maxLen; simp, fun _ h => by simp at h⟩, ⟨by simp, fun _ h => by simp at h⟩⟩
end Go.Proofs.YtmhlcnmfbolgdaaGreat

namespace Go.Proofs.YtmhlcnmfbolgdaaGreat
open Go.RowKit
end Go.Proofs.YtmhlcnmfbolgdaaGreat

namespace Go.Proofs.YtmhlcnmfbolgdaaGreat
open Go.RowKit
end Go.Proofs.YtmhlcnmfbolgdaaGreat

namespace Go.Proofs.YtmhlcnmfbolgdaaGreat
open Go.RowKit
def GetPostP (W : World) (L : List RowW) (k : Ky) (e : Ending) (w' : World) : Prop :=
  ∃ p c o, e = .returned (.tuple #[.slice p o.length c, .bool (liveW (getW L k)), .bool (getW L k).isSome]) ∧ OwnJ W.heap.size w' (.slice p o.length c) o ∧ o.map Fx.fld = valW (getW L k) ∧ Below W.heap.size W w'
def KeysPost (W : World) (l : List Ky) (e : Ending) (w' : World) : Prop := ∃ u, e = .returned u ∧ KK.Own W.heap.size w' u l ∧ Below W.heap.size W w'
end Go.Proofs.YtmhlcnmfbolgdaaGreat

namespace Go.Proofs.YtmhlcnmfbolgdaaGreat
open Go.RowKit Go.Maps
structure MKind (κ ε : Type) where
  K : TypeId
  E : TypeId
  M : TypeId
  key : κ → Value
  lit : κ → Lit
  fit : κ → Prop
  val : ε → Value
  enc : ε → DataW Unit
  read : Value → Option (DataW Unit × List MemPlace)
  zero : ε
  und : Tryz.prog.underlying M = some (.map K E)
  keyed : Keyed Tryz.prog K
  key_is : ∀ x, fit x → keyOf Tryz.prog K (key x) = some (lit x)
  key_fit : ∀ x l, keyOf Tryz.prog K (key x) = some l → fit x ∧ l = lit x
  key_inv : ∀ v l, keyOf Tryz.prog K v = some l → ∃ x, v = key x
  lit_inj : ∀ x y, fit x → fit y → lit x = lit y → x = y
  read_mk : ∀ e, read (val e) = some (enc e, [])
  read_inv : ∀ v y, read v = some y → ∃ e, v = val e
  enc_inj : ∀ a b, enc a = enc b → a = b
  zeroV : ∀ w, (zeroValue E).run Tryz.prog w = .ok (val zero) w
def MapG {κ ε : Type} (T : MKind κ ε) (W : World) (m n : Nat) (f : κ → Option ε) (c : Nat) : Prop :=
  ∃ D : DataW Unit, W.ownsMap Tryz.prog T.K T.read m n D ∧ (∀ k, T.fit k → D.atKey (T.lit k) (T.enc T.zero) = T.enc ((f k).getD T.zero)) ∧ (∀ k, T.fit k → Maps.has D (T.lit k) = (f k).isSome) ∧ Maps.size D = c
section
variable {κ ε : Type} {T : MKind κ ε} {W : World} {m n : Nat} {f : κ → Option ε} {c : Nat}
theorem mapG_made (T : MKind κ ε) (w : World) : MapG T (w.alloc (.map #[] 0)) w.heap.size 0 (fun _ => none) 0 := ⟨.map [], World.ownsMap_made _ _ _ _, fun _ _ => rfl, fun _ _ => rfl, rfl⟩
theorem MapG.lt (h : MapG T W m n f c) : m < W.heap.size := by obtain ⟨D, h, _⟩ := h; exact h.lt
theorem MapG.on {W' : World} (h : MapG T W m n f c) (hb : W'.heap[m]? = W.heap[m]?) : MapG T W' m n f c := by
  obtain ⟨D, ⟨es, clock, h1, h2⟩, h3⟩ := h
  exact ⟨D, ⟨es, clock, hb.trans h1, h2⟩, h3⟩
theorem MapG.congr {f' : κ → Option ε} (h : MapG T W m n f c) (hf : ∀ k, T.fit k → f k = f' k) : MapG T W m n f' c := by
  obtain ⟨D, h1, h2, h3, h4⟩ := h
  exact ⟨D, h1, fun k hk => by rw [← hf k hk]; exact h2 k hk, fun k hk => by rw [← hf k hk]; exact h3 k hk, h4⟩
theorem MapG.obj (h : MapG T W m n f c) : ∃ es clock, W.heap[m]? = some (.map es clock) := by
  obtain ⟨D, ⟨es, clock, h1, h2⟩, h3⟩ := h
  exact ⟨es, clock, h1⟩
theorem MapG.off (h : MapG T W m n f c) {b : Nat} {cs : Array Value} {t : TypeId} {fr : Nat × Nat} (hc : W.heap[b]? = some (.cells cs t fr)) : b ≠ m := by
  obtain ⟨es, clock, h1⟩ := h.obj
  rintro rfl
  rw [hc] at h1
  cases h1
set_option maxRecDepth 100000 in
theorem mapG_look_ok (h : MapG T W m n f c) {k : κ} (hk : T.fit k) : (Instr.lookup T.M (.map (some m)) (T.key k) true).run Tryz.prog W = .ok (.tuple #[T.val ((f k).getD T.zero), .bool (f k).isSome]) W := by
  obtain ⟨D, hD, hf, hh, _⟩ := h
  obtain ⟨v, ps, hrun, hv⟩ := hD.look_ok T.keyed T.und (T.zeroV _) (T.read_mk T.zero) (T.key_is k hk)
  obtain ⟨o, rfl⟩ := T.read_inv _ _ hv
  rw [T.read_mk, hf k hk] at hv
  injection hv with hv
  injection hv with hv
  rw [← T.enc_inj _ _ hv, ← hh k hk]
  exact hrun
set_option maxRecDepth 100000 in
theorem mapG_put [DecidableEq κ] (h : MapG T W m n f c) {k : κ} (hk : T.fit k) (hn : n < maxLen) (e : ε) :
    ∃ w', (Instr.mapUpdate T.M (.map (some m)) (T.key k) (T.val e)).run Tryz.prog W = .ok () w' ∧ MapG T w' m (n + 1) (fun y => if y = k then some e else f y) (if (f k).isSome then c else c + 1) ∧ W.grownBy w' (some m) := by
  obtain ⟨D, hD, hf, hh, hc⟩ := h
  obtain ⟨w', hrun, hD', hg⟩ := hD.update T.keyed T.und hn (T.key_is k hk) (T.read_mk e)
  have hlit := T.keyed.key (T.key_is k hk)
  refine ⟨w', hrun, ⟨_, hD', fun y hy => ?_, fun y hy => ?_, ?_⟩, hg⟩
  · by_cases e1 : y = k
    · subst e1
      simp only [if_true]
      exact atKey_put_same hD.isMap hlit _ _
    · simp only [if_neg e1]
      rw [atKey_put_other (fun h => e1 (T.lit_inj _ _ hy hk h))]
      exact hf y hy
  · by_cases e1 : y = k
    · subst e1
      simp only [if_true]
      exact has_put_same hD.isMap hlit _
    · simp only [if_neg e1]
      rw [has_put_other (fun h => e1 (T.lit_inj _ _ hy hk h))]
      exact hh y hy
  · rw [size_put (hD.tidy T.keyed), hh k hk, hc]
set_option maxRecDepth 100000 in
theorem mapG_del [DecidableEq κ] (h : MapG T W m n f c) {k : κ} (hk : T.fit k) (ty : TypeId) :
    ∃ w' c', (Builtin.delete_ #[T.M, T.K] ty #[.map (some m), T.key k]).run Tryz.prog W = .ok (.tuple #[]) w' ∧ MapG T w' m n (fun y => if y = k then none else f y) c' ∧ c' + (if (f k).isSome then 1 else 0) = c ∧ W.grownBy w' (some m) ∧ w'.heap.size = W.heap.size := by
  obtain ⟨D, hD, hf, hh, hc⟩ := h
  obtain ⟨w', hrun, hD', hg⟩ := hD.drop T.keyed T.und (T.key_is k hk) ty
  refine ⟨w', _, hrun, ⟨_, hD', fun y hy => ?_, fun y hy => ?_, rfl⟩, ?_, hg.grown, ?_⟩
  · by_cases e1 : y = k
    · subst e1
      simp only [if_true]
      exact atKey_del_same _
    · simp only [if_neg e1]
      rw [atKey_del_other (fun h => e1 (T.lit_inj _ _ hy hk h))]
      exact hf y hy
  · by_cases e1 : y = k
    · subst e1
      simp only [if_true]
      exact has_del_same
    · simp only [if_neg e1]
      rw [has_del_other (fun h => e1 (T.lit_inj _ _ hy hk h))]
      exact hh y hy
  · rw [← hh k hk, size_del (hD.tidy T.keyed), hc]
  · obtain ⟨es, clock, es', clock', h1, rfl⟩ := hg
    simp [ChangeMaps.setBlock]
set_option maxRecDepth 100000 in
theorem mapG_len (h : MapG T W m n f c) (ty : TypeId) : (Builtin.len_ #[T.M] ty #[.map (some m)]).run Tryz.prog W = .ok (.int .i64 c) W := by
  obtain ⟨D, hD, _, _, rfl⟩ := h
  exact hD.len T.und ty
end
def RangeG {κ ε : Type} (T : MKind κ ε) (W : World) (m r n : Nat) (f : κ → Option ε) (c : Nat) (seen : List κ) (cnt : Nat) : Prop :=
  ∃ (D : DataW Unit) (left : Lit → Bool), W.ranges Tryz.prog T.K T.read m r n D left cnt ∧ (∀ k, T.fit k → D.atKey (T.lit k) (T.enc T.zero) = T.enc ((f k).getD T.zero)) ∧ (∀ k, T.fit k → Maps.has D (T.lit k) = (f k).isSome) ∧ Maps.size D = c ∧
    (∀ k, T.fit k → (left (T.lit k) = true ↔ (f k).isSome = true ∧ k ∉ seen)) ∧ seen.Nodup ∧ (∀ k ∈ seen, T.fit k ∧ (f k).isSome = true) ∧ seen.length + cnt ≤ c
section
variable {κ ε : Type} {T : MKind κ ε} {W : World} {m r n : Nat} {f : κ → Option ε} {c : Nat} {seen : List κ} {cnt : Nat}
theorem RangeG.left_eq (h : RangeG T W m r n f c seen cnt) : W.rangeLeft m r = cnt := by
  obtain ⟨D, left, h1, _⟩ := h
  exact h1.left_eq
theorem RangeG.map (h : RangeG T W m r n f c seen cnt) : MapG T W m n f c := by
  obtain ⟨D, left, h1, h2, h3, h4, _⟩ := h
  exact ⟨D, h1.owns, h2, h3, h4⟩
theorem RangeG.lt (h : RangeG T W m r n f c seen cnt) : r < W.heap.size := by
  obtain ⟨D, left, h1, _⟩ := h
  exact h1.lt
theorem RangeG.nodup (h : RangeG T W m r n f c seen cnt) : seen.Nodup ∧ (∀ k ∈ seen, T.fit k ∧ (f k).isSome = true) ∧ seen.length + cnt ≤ c := by
  obtain ⟨D, left, h1, _, _, _, _, h2, h3, h4⟩ := h
  exact ⟨h2, h3, h4⟩
theorem RangeG.iter (h : RangeG T W m r n f c seen cnt) : ∃ since sn c0, W.heap[r]? = some (.mapIter (some m) since sn c0) := by
  obtain ⟨D, left, ⟨es, clock, since, sn, c0, _, _, _, _, h5, _⟩, _⟩ := h
  exact ⟨since, sn, c0, h5⟩
theorem RangeG.on {W' : World} (h : RangeG T W m r n f c seen cnt) (hm : W'.heap[m]? = W.heap[m]?) (hr : W'.heap[r]? = W.heap[r]?) : RangeG T W' m r n f c seen cnt := by
  obtain ⟨D, left, ⟨es, clock, since, sn, c0, h1, h2, h3, h4, h5, h6⟩, h7⟩ := h
  exact ⟨D, left, ⟨es, clock, since, sn, c0, hm.trans h1, h2, h3, h4, hr.trans h5, h6⟩, h7⟩
end
section
variable {κ ε : Type} {T : MKind κ ε} (w : World) {ops : Array Oper} {rest : List Oper} {o : Oper} {a : Act} {Q : Exit → Act → World → Prop}
set_option maxRecDepth 100000 in
theorem wp_range_G (hg : o.guard = none) (mo : Operand) (hop : o.op = Op.range T.M mo) (m n : Nat) (f : κ → Option ε) (c : Nat) (hm : a.eval mo = .map (some m)) (h : MapG T w m n f c)
    (hK : ∀ w', RangeG T w' m w.heap.size n f c [] c → w.grownBy w' none → w'.heap.size = w.heap.size + 1 → wpList Tryz.prog ops Q rest (a.put o.dst (.pointer (some ⟨w.heap.size, 0, none⟩))) w') :
    wpList Tryz.prog ops Q (o :: rest) a w := by
  obtain ⟨D, hD, hf, hh, hc⟩ := h
  refine wpList_range_own w hg mo _ hop _ _ T.keyed T.und T.read m n D hm hD fun w' h1 h2 h3 => hK w' ?_ h2 h3
  rw [hc] at h1
  exact ⟨D, _, h1, hf, hh, hc, fun k hk => by rw [hh k hk]; simp, List.nodup_nil, fun k hk => by simp at hk, by simp⟩
set_option maxRecDepth 100000 in
theorem wp_next_G (hg : o.guard = none) (it : Operand) (hop : o.op = Op.next it false) (m r n : Nat) (f : κ → Option ε) (c : Nat) (seen : List κ) (cnt : Nat) (hit : a.eval it = .pointer (some ⟨r, 0, none⟩)) (h : RangeG T w m r n f c seen cnt)
    (hDone : (∀ k, T.fit k → (f k).isSome = true → k ∈ seen) → wpList Tryz.prog ops Q rest (a.put o.dst (.tuple #[.bool false])) w)
    (hMore : ∀ (k : κ) (e : ε) (w' : World) (cnt' : Nat), T.fit k → k ∉ seen → f k = some e → RangeG T w' m r n f c (seen ++ [k]) cnt' → cnt' < cnt → w.grownBy w' (some r) → w'.heap.size = w.heap.size →
      (Instr.entry (.pointer (some ⟨r, 0, none⟩))).run Tryz.prog w' = .ok (.tuple #[T.key k, T.val e]) w' → wpList Tryz.prog ops Q rest (a.put o.dst (.tuple #[.bool true, T.key k, T.val e])) w') :
    wpList Tryz.prog ops Q (o :: rest) a w := by
  obtain ⟨D, left, h1, h2, h3, hc, h4, h5, h6, h7⟩ := h
  refine wpList_next_ranges w hg it hop _ T.keyed T.read T.key T.val T.key_inv T.read_inv m r n D left cnt hit h1 (fun _ hl => hDone fun k hk hs => ?_) fun x e kl y w' cnt' hkey hlk hR hat hr hlt hg' hsz hen => ?_
  · refine Classical.byContradiction fun hn => ?_
    have := (h4 k hk).2 ⟨hs, hn⟩
    rw [hl] at this
    cases this
  · obtain ⟨hx, rfl⟩ := T.key_fit _ _ hkey
    have hb : (f x).isSome = true ∧ x ∉ seen := (h4 x hx).1 hlk
    obtain ⟨e', he'⟩ := Option.isSome_iff_exists.1 hb.1
    have hee : e = e' := by
      rw [T.read_mk] at hR
      injection hR with hR
      have := hat (T.enc T.zero)
      rw [← hR, h2 x hx, he'] at this
      exact (T.enc_inj _ _ this).symm
    subst hee
    refine hMore x e w' cnt' hx hb.2 he' ⟨D, _, hr, h2, h3, hc, fun k hk => ?_, ?_, fun k hk => ?_, by rw [List.length_append, List.length_singleton]; omega⟩ hlt hg' hsz hen
    · show (left (T.lit k) && !(T.lit k).sameKey (T.lit x)) = true ↔ _
      rw [Bool.and_eq_true, h4 k hk]
      by_cases e1 : k = x
      · subst e1
        rw [WideAt.sameKey_self (T.keyed.key (T.key_is k hk))]
        simp
      · rw [sameKey_ne (fun h => e1 (T.lit_inj _ _ hk hx h))]
        simp [e1]
    · exact List.nodup_append.2 ⟨h5, by simp, fun a ha b hb' => by
        rw [List.mem_singleton] at hb'
        rintro rfl
        rw [hb'] at ha
        exact hb.2 ha⟩
    · rcases List.mem_append.1 hk with hk | hk
      · exact h6 k hk
      · rw [List.mem_singleton] at hk
        subst hk
        exact ⟨hx, hb.1⟩
end
end Go.Proofs.YtmhlcnmfbolgdaaGreat

namespace Go.Proofs.YtmhlcnmfbolgdaaGreat
open Go.RowKit Go.Maps
theorem MapG.tight {κ ε : Type} {T : MKind κ ε} {W : World} {m n : Nat} {f : κ → Option ε} {c : Nat} (h : MapG T W m n f c) : MapG T W m c f c := by
  obtain ⟨D, ⟨es, clock, h1, h2, h3, h4⟩, h5, h6, h7⟩ := h
  refine ⟨D, ⟨es, clock, h1, h2, ?_, h4⟩, h5, h6, h7⟩
  rw [← h7, h4]
  simp [Maps.size, length_sorted]
structure We where
  live : Bool
  p : Option Nat
  len : Nat
  cap : Nat
def We.sl (e : We) : Value := .slice (e.p.map fun b => ⟨b, 0, none⟩) e.len e.cap
def We.val (e : We) : Value := .agg #[.bool e.live, e.sl]
def ptrI (p : Option Nat) : Int := match p with | none => -1 | some b => (b : Int)
def We.enc (e : We) : DataW Unit := .agg [.lit (.bool e.live), .lit (.int .i64 (ptrI e.p)), .lit (.int .i64 (e.len : Int)), .lit (.int .i64 (e.cap : Int))]
theorem ptrI_inj {p q : Option Nat} (h : ptrI p = ptrI q) : p = q := by
  cases p <;> cases q <;> simp only [ptrI] at h
  · rfl
  · omega
  · omega
  · exact congrArg some (by omega)
theorem We.val_inj {a b : We} (h : a.val = b.val) : a = b := by
  obtain ⟨l, p, n, c⟩ := a
  obtain ⟨l', p', n', c'⟩ := b
  simp only [We.val, We.sl, Value.agg.injEq, Array.mk.injEq, List.cons.injEq, Value.bool.injEq, Value.slice.injEq] at h
  obtain ⟨rfl, ⟨h2, rfl, rfl⟩, _⟩ := h
  have : p = p' := by cases p <;> cases p' <;> simp_all
  rw [this]
theorem We.enc_inj {a b : We} (h : a.enc = b.enc) : a = b := by
  obtain ⟨l, p, n, c⟩ := a
  obtain ⟨l', p', n', c'⟩ := b
  simp only [We.enc, DataW.agg.injEq, List.cons.injEq, DataW.lit.injEq, Lit.bool.injEq, Lit.int.injEq, true_and] at h
  obtain ⟨rfl, h2, h3, h4, _⟩ := h
  rw [ptrI_inj h2, show n = n' by omega, show c = c' by omega]
open Classical in
noncomputable def MW : MKind Ky We where
  K := 39
  E := 259
  M := 243
  key := valK
  lit := keyL
  fit := FitK
  val := We.val
  enc := We.enc
  read v := if h : ∃ e, v = We.val e then some (We.enc h.choose, []) else none
  zero := ⟨false, none, 0, 0⟩
  und := Tryz.underlying243
  keyed := Tryz.keyedKey
  key_is _ h := keyL_is h
  key_fit _ _ h := keyL_fit h
  key_inv v l h := keyL_inv v l h
  lit_inj _ _ hx hy h := keyL_inj hx hy h
  read_mk e := by
    have h : ∃ e', We.val e = We.val e' := ⟨e, rfl⟩
    rw [dif_pos h, ← We.val_inj h.choose_spec]
  read_inv v y h := by
    split at h
    · next h' => exact h'
    · cases h
  enc_inj _ _ h := We.enc_inj h
  zeroV w := by kernel_rfl
def fS (L : List RowW) (F : Ky → We) (k : Ky) : Option We := (getW L k).map fun _ => F k
def RowS (n0 : Nat) (W : World) (e : We) (o : List Fx) (r : Wr) : Prop := e.live = r.isSome ∧ OwnJ n0 W e.sl o ∧ o.map Fx.fld = valW (some r)
structure PrgU (n0 : Nat) (W : World) (B : Nat → Prop) (g m : Nat) (F : Ky → We) (O : Ky → List Fx) (L : List RowW) : Prop where
  obj : W.heap[g]? = some (.cells #[.map (some m)] 245 (0, 0))
  map : MapG MW W m L.length (fS L F) L.length
  row : ∀ k r, getW L k = some r → RowS n0 W (F k) (O k) r
  gle : n0 ≤ g
  mle : n0 ≤ m
  ok : OkW L
  blk : ∀ j, B j ↔ j = g ∨ j = m ∨ ∃ k, (getW L k).isSome = true ∧ BlkX (F k).sl (O k) j
def PrgW (n0 : Nat) (W : World) (B : Nat → Prop) (g : Nat) (L : List RowW) : Prop := ∃ m F O, PrgU n0 W B g m F O L
section
variable {n0 : Nat} {W : World} {B : Nat → Prop} {g m : Nat} {F : Ky → We} {O : Ky → List Fx} {L : List RowW}
theorem PrgU.cell (h : PrgU n0 W B g m F O L) : W.cell? ⟨g, 0, none⟩ = some (.map (some m)) := by rw [Lib.cell_of_heap h.obj]; rfl
theorem PrgU.bounds (h : PrgU n0 W B g m F O L) (k : Nat) (hk : B k) : n0 ≤ k ∧ k < W.heap.size := by
  rcases (h.blk k).1 hk with rfl | rfl | ⟨j, hj, hb⟩
  · exact ⟨h.gle, (Array.getElem?_eq_some_iff.1 h.obj).1⟩
  · exact ⟨h.mle, h.map.lt⟩
  · obtain ⟨r, hr⟩ := Option.isSome_iff_exists.1 hj
    exact ownJ_blk (h.row j r hr).2.1 k hb
theorem PrgU.fr {W' : World} {P : Nat → Prop} (h : PrgU n0 W B g m F O L) (f : Fr P W W') (hP : ∀ k, B k → ¬ P k) : PrgU n0 W' B g m F O L :=
  ⟨(f.block g (Array.getElem?_eq_some_iff.1 h.obj).1 (hP g ((h.blk g).2 (Or.inl rfl)))).trans h.obj, h.map.on (f.block m h.map.lt (hP m ((h.blk m).2 (Or.inr (Or.inl rfl))))),
    fun k r hr => ⟨(h.row k r hr).1, ownJ_fr (h.row k r hr).2.1 f fun j hj => hP j ((h.blk j).2 (Or.inr (Or.inr ⟨k, by rw [hr]; rfl, hj⟩))), (h.row k r hr).2.2⟩, h.gle, h.mle, h.ok, h.blk⟩
theorem PrgU.on {W' : World} (h : PrgU n0 W B g m F O L) (hb : Below W.heap.size W W') : PrgU n0 W' B g m F O L :=
  h.fr (P := fun _ => False) (Fr.of_below hb) fun _ _ k => k
theorem PrgU.off (h : PrgU n0 W B g m F O L) {k : Ky} {r : Wr} (hr : getW L k = some r) {j : Nat} (hj : BlkX (F k).sl (O k) j) : j ≠ m := by
  have hJ := (h.row k r hr).2.1
  rcases hj with hj | ⟨f, hf, hj⟩
  · obtain ⟨cs, hc⟩ := own_type hJ.1.1 hj
    exact h.map.off hc
  · obtain ⟨cs, hc⟩ := own_type (hJ.1.2 f hf) hj
    exact h.map.off hc
end
theorem allW_is (g m : Nat) (W : World) (c0 : W.cell? ⟨g, 0, none⟩ = some (.map (some m))) : Calls Tryz.prog 170 #[.pointer (some ⟨g, 0, none⟩)] W fun e w' => e = .returned (.map (some m)) ∧ w' = W := by
  go_enter Tryz.func170, Tryz.ntmps170
  go_wp2_with fail
  go_ret
  exact ⟨rfl, rfl⟩
set_option maxHeartbeats 4000000 in
set_option maxRecDepth 100000 in
theorem wnew_any (n0 : Nat) (W : World) (hn : n0 ≤ W.heap.size) : Calls Tryz.prog 76 #[] W fun e w' => ∃ B g, e = .returned (.pointer (some ⟨g, 0, none⟩)) ∧ PrgW n0 w' B g [] ∧ Below W.heap.size W w' ∧ ∀ k, B k → W.heap.size ≤ k := by
  have hmm := @run_makeMap Tryz.prog
  have hb : Below W.heap.size W ((W.alloc (.map #[] 0)).alloc (.cells #[.map (some W.heap.size)] 245)) := ((Below.refl _ _).alloc (Nat.le_refl _) _).alloc (by simp) _
  have HM : Hid (PrgW n0 ((W.alloc (.map #[] 0)).alloc (.cells #[.map (some W.heap.size)] 245)) (fun k => k = W.heap.size + 1 ∨ k = W.heap.size) (W.heap.size + 1) []) := by
    have h1 := heap_alloc_new (W.alloc (.map #[] 0)) (.cells #[.map (some W.heap.size)] 245)
    rw [World.size_alloc] at h1
    refine ⟨W.heap.size, fun _ => ⟨false, none, 0, 0⟩, fun _ => [], h1, ?_, fun k r hr => (by cases hr), by omega, hn, okW_nil, fun k => ?_⟩
    · exact ((mapG_made MW W).on (Below.heap_alloc _ _ _ (by simp))).congr fun k _ => rfl
    · simp [getW]
  have HB := hid hb
  clear hb
  go_enter Tryz.func76, Tryz.ntmps76
  go_wp2_with fail
  go_ret
  exact ⟨_, _, rfl, HM.out, HB.out, fun k hk => by rcases hk with rfl | rfl <;> omega⟩
set_option maxHeartbeats 4000000 in
set_option maxRecDepth 100000 in
theorem wcopied_any (v : Value) (d : List Fx) (w : World) (hv : IsXs w v d) (hf : FitX d) (hc : CopyX d) :
    Calls Tryz.prog 145 #[v] w fun e w' => ∃ u o, e = .returned u ∧ OwnJ w.heap.size w' u o ∧ o.map Fx.fld = d.map Fx.fld ∧ Below w.heap.size w w' := by
  have HC := hid (cloneX_any v d w hv hc.1)
  have HT := hid hv.at_all
  have H16 := hid hc.2
  have hl := hf.1
  unfold maxLen at hl
  clear hv hf hc
  go_enter Tryz.func145, Tryz.ntmps145
  go_wp2_with fail
  refine HC.out.mono ?_
  rintro e w1 ⟨u, rfl, ho, hb⟩
  have H0 := hid (CpIn.start ho hb)
  obtain ⟨p, cap, rfl, hp⟩ : ∃ p cap, u = .slice p d.length cap ∧ (0 < d.length → ∃ g, p = some ⟨g, 0, none⟩) := by
    rcases ho.2 with ⟨h1, h2⟩ | ⟨g, cap, _, h1, _⟩
    · exact ⟨none, 0, by rw [h2]; exact h1, fun h => by omega⟩
    · exact ⟨_, _, h1, fun _ => ⟨g, rfl⟩⟩
  have HP := hid hp
  clear ho hb HC hp
  go_wp2_with fail
  go_loopg [9] d.length (fun gg vi wr => ∃ (i : Nat) (o : List Fx), vi = .int .i64 i ∧ i ≤ d.length ∧ d.length - i ≤ gg ∧ Hid (CpIn w (.slice p d.length cap) d i o wr))
  case atStart => exact ⟨0, [], rfl, by omega, by omega, H0.out⟩
  case round =>
    clear H0
    obtain ⟨i, o, rfl, hi, hgk, HI⟩ := hrel
    by_cases hlt : i < d.length
    · have hltz : (i : Int) < (d.length : Int) := by omega
      have hiz : (0 : Int) ≤ i := by omega
      obtain ⟨g, rfl⟩ := HP.out (by omega)
      obtain ⟨c0, f0⟩ := HI.out.cells hlt wr (Below.refl _ _)
      have HCL := hid (HI.out.cells hlt)
      have HCT := hid (cloneT_any (d[i]).p (d[i]).cap (d[i]).txt wr ((HT.out _ (List.getElem_mem hlt)).kept HI.out.bel) (H16.out _ (List.getElem_mem hlt)))
      have HNX : Hid (∀ W5 p5 c5, Below wr.heap.size wr W5 → OwnT wr.heap.size W5 (.slice p5 (d[i]).txt.length c5) (d[i]).txt → CpIn w (.slice (some ⟨g, 0, none⟩) d.length cap) d (i + 1) (o ++ [⟨(d[i]).name, p5, c5, (d[i]).txt⟩]) (W5.setCell ⟨g, i * 2 + 1, none⟩ (.slice p5 (d[i]).txt.length c5))) := fun W5 p5 c5 h1 h2 => HI.out.next hlt h1 h2
      clear HI
      generalize d[i] = x at *
      obtain ⟨nm, p5, c5, ts⟩ := x
      simp only [Fx.sl] at c0 HCL HCT HNX
      go_wp2_with fail
      refine HCT.out.mono ?_
      rintro e w5 ⟨sv, rfl, hot5, hb5⟩
      obtain ⟨p6, c6, rfl⟩ := own_slice hot5
      obtain ⟨q0, q1⟩ := HCL.out w5 hb5
      have HN := hid (HNX.out w5 p6 c6 hb5 hot5)
      clear hot5 hb5 c0 f0
      go_wp2_with fail
      go_roundg (d.length - (i + 1))
      case measure => omega
      exact ⟨i + 1, _, by go_num, by omega, by omega, HN.out⟩
    · have hltz : ¬ (i : Int) < (d.length : Int) := by omega
      have HD := hid (HI.out.done hlt)
      have HB := hid HI.out.bel
      clear HI
      go_wp2_with fail
      go_ret
      exact ⟨_, rfl, o, HD.out.1, HD.out.2, HB.out⟩
end Go.Proofs.YtmhlcnmfbolgdaaGreat

namespace Go.Proofs.YtmhlcnmfbolgdaaGreat
open Go.RowKit Go.Maps
theorem delW_all {k : Ky} : ∀ {L : List RowW}, (∀ y ∈ L, y.1 ≠ k) → delW L k = L := fun {L} h => List.filter_eq_self.2 fun y hy => by simp [h y hy]
theorem delW_count {k : Ky} : ∀ {L : List RowW}, (L.Pairwise fun x y => ltKy x.1 y.1 = true) → (delW L k).length + (if (getW L k).isSome = true then 1 else 0) = L.length
  | [], _ => rfl
  | y :: r, h => by
    obtain ⟨h1, h2⟩ := List.pairwise_cons.1 h
    by_cases e : y.1 = k
    · have hne : ∀ z ∈ r, z.1 ≠ k := fun z hz ez => by
        have := h1 z hz
        rw [e, ez, totK.irr] at this
        cases this
      have hd : delW (y :: r) k = r := by
        show List.filter _ (y :: r) = r
        rw [List.filter_cons_of_neg (by simp [e])]
        exact delW_all hne
      rw [hd]
      simp [getW, e]
    · have ih := delW_count (k := k) h2
      have hd : delW (y :: r) k = y :: delW r k := by
        show List.filter _ (y :: r) = _
        rw [List.filter_cons_of_pos (by simp [e])]
        rfl
      have hg : getW (y :: r) k = getW r k := by rw [getW, if_neg e]
      rw [hd, hg, List.length_cons, List.length_cons]
      omega
theorem layW_count {L : List RowW} (h : OkW L) (k : Ky) (e : Wr) : (layW L k e).length = if (getW L k).isSome = true then L.length else L.length + 1 := by
  have := delW_count (k := k) h.rise
  unfold layW
  rw [insP_len]
  split at this
  · next hs => rw [if_pos hs]; omega
  · next hs => rw [if_neg hs]; omega
theorem fS_some {L : List RowW} {F : Ky → We} {k : Ky} : (fS L F k).isSome = (getW L k).isSome := by
  unfold fS
  cases getW L k <;> rfl
def STurn (n0 : Nat) (W : World) (B : Nat → Prop) (g : Nat) (L : List RowW) (w' : World) : Prop := ∃ B', PrgW n0 w' B' g L ∧ Fr B W w' ∧ ∀ k, B' k → B k ∨ W.heap.size ≤ k
section
variable {n0 : Nat} {W : World} {B : Nat → Prop} {g m : Nat} {F : Ky → We} {O : Ky → List Fx} {L : List RowW}
theorem STurn.below {w' : World} (h : PrgU n0 W B g m F O L) (hb : Below W.heap.size W w') : STurn n0 W B g L w' := ⟨B, ⟨m, F, O, h.on hb⟩, Fr.of_below hb, fun _ hk => Or.inl hk⟩
def BlkS (g m : Nat) (F : Ky → We) (O : Ky → List Fx) (L : List RowW) (j : Nat) : Prop := j = g ∨ j = m ∨ ∃ k, (getW L k).isSome = true ∧ BlkX (F k).sl (O k) j
theorem PrgU.old (h : PrgU n0 W B g m F O L) {W3 w4 : World} (hb : Below W.heap.size W W3) (hg : W3.grownBy w4 (some m)) {k : Ky} {r : Wr} (hr : getW L k = some r) : RowS n0 w4 (F k) (O k) r := by
  have h3 := (h.on hb).row k r hr
  exact ⟨h3.1, ownJ_fr h3.2.1 (Fr.of_grown (P := fun j => j = m) hg fun j hj => by injection hj with hj; exact hj.symm) fun j hj e => (h.on hb).off hr hj e, h3.2.2⟩
theorem PrgU.turned (h : PrgU n0 W B g m F O L) {W3 w4 : World} (hb : Below W.heap.size W W3) (hg : W3.grownBy w4 (some m)) : w4.heap[g]? = some (.cells #[.map (some m)] 245 (0, 0)) ∧ Fr B W w4 := by
  have h3 := h.on hb
  refine ⟨(hg.block g (Array.getElem?_eq_some_iff.1 h3.obj).1 (fun e => h3.map.off h3.obj (by injection e))).trans h3.obj, ?_⟩
  exact Fr.then (Fr.of_below hb) (Fr.of_grown (P := fun j => j = m) hg fun j hj => by injection hj with hj; exact hj.symm) fun j hj => Or.inl ((h.blk j).2 (Or.inr (Or.inl hj)))
theorem PrgU.lay (h : PrgU n0 W B g m F O L) (hn : n0 ≤ W.heap.size) {W3 w4 : World} (hb : Below W.heap.size W W3) (k : Ky) (hk : keyB k.1 k.2 = true) (e : We) (o : List Fx) (r : Wr) (hm : ∀ v, r = some v → mayB v = true) (hrow : RowS W.heap.size W3 e o r)
    (hM : MapG MW w4 m (L.length + 1) (fun y => if y = k then some e else fS L F y) (if (fS L F k).isSome then L.length else L.length + 1)) (hg : W3.grownBy w4 (some m)) : STurn n0 W B g (layW L k r) w4 := by
  obtain ⟨hobj, hfr⟩ := h.turned hb hg
  have hml : m < W.heap.size := h.map.lt
  have hnew : RowS n0 w4 e o r := by
    refine ⟨hrow.1, own_weakJ (ownJ_fr hrow.2.1 (Fr.of_grown (P := fun j => j = m) hg fun j hj => by injection hj with hj; exact hj.symm) fun j hj ej => ?_) hn, hrow.2.2⟩
    have := (ownJ_blk hrow.2.1 j hj).1
    omega
  have hcnt := layW_count h.ok k r
  rw [fS_some, ← hcnt] at hM
  refine ⟨BlkS g m (fun y => if y = k then e else F y) (fun y => if y = k then o else O y) (layW L k r), ⟨m, fun y => if y = k then e else F y, fun y => if y = k then o else O y, hobj, hM.tight.congr fun y _ => ?_, fun y r' hr' => ?_, h.gle, h.mle, okW_lay h.ok k r hk hm, fun j => Iff.rfl⟩, hfr, fun j hj => ?_⟩
  · unfold fS
    rw [getW_lay]
    by_cases ey : y = k
    · rw [if_pos ey, if_pos ey]
      simp [ey]
    · rw [if_neg ey, if_neg ey]
      simp only [if_neg ey]
  · rw [getW_lay] at hr'
    by_cases ey : y = k
    · rw [if_pos ey] at hr'
      injection hr' with hr'
      subst hr'
      simp only [if_pos ey]
      exact hnew
    · rw [if_neg ey] at hr'
      simp only [if_neg ey]
      exact h.old hb hg hr'
  · rcases hj with rfl | rfl | ⟨y, hy, hj⟩
    · exact Or.inl ((h.blk _).2 (Or.inl rfl))
    · exact Or.inl ((h.blk _).2 (Or.inr (Or.inl rfl)))
    · rw [getW_lay] at hy
      by_cases ey : y = k
      · simp only [if_pos ey] at hj
        exact Or.inr (ownJ_blk hrow.2.1 j hj).1
      · rw [if_neg ey] at hy
        simp only [if_neg ey] at hj
        exact Or.inl ((h.blk j).2 (Or.inr (Or.inr ⟨y, hy, hj⟩)))
theorem PrgU.gone (h : PrgU n0 W B g m F O L) {W3 w4 : World} (hb : Below W.heap.size W W3) (k : Ky) {c' : Nat}
    (hM : MapG MW w4 m L.length (fun y => if y = k then none else fS L F y) c') (hc : c' + (if (fS L F k).isSome then 1 else 0) = L.length) (hg : W3.grownBy w4 (some m)) : STurn n0 W B g (delW L k) w4 := by
  obtain ⟨hobj, hfr⟩ := h.turned hb hg
  have hcnt := delW_count (k := k) h.ok.rise
  rw [fS_some] at hc
  have hcc : c' = (delW L k).length := by omega
  rw [hcc] at hM
  refine ⟨BlkS g m F O (delW L k), ⟨m, F, O, hobj, hM.tight.congr fun y _ => ?_, fun y r' hr' => ?_, h.gle, h.mle, okW_del h.ok k, fun j => Iff.rfl⟩, hfr, fun j hj => ?_⟩
  · unfold fS
    rw [getW_del]
    by_cases ey : y = k
    · rw [if_pos ey, if_pos ey]; rfl
    · rw [if_neg ey, if_neg ey]
  · rw [getW_del] at hr'
    by_cases ey : y = k
    · rw [if_pos ey] at hr'; cases hr'
    · rw [if_neg ey] at hr'
      exact h.old hb hg hr'
  · rcases hj with rfl | rfl | ⟨y, hy, hj⟩
    · exact Or.inl ((h.blk _).2 (Or.inl rfl))
    · exact Or.inl ((h.blk _).2 (Or.inr (Or.inl rfl)))
    · rw [getW_del] at hy
      by_cases ey : y = k
      · rw [if_pos ey] at hy; cases hy
      · rw [if_neg ey] at hy
        exact Or.inl ((h.blk j).2 (Or.inr (Or.inr ⟨y, hy, hj⟩)))
end
end Go.Proofs.YtmhlcnmfbolgdaaGreat

namespace Go.Proofs.YtmhlcnmfbolgdaaGreat
open Go.RowKit
end Go.Proofs.YtmhlcnmfbolgdaaGreat

namespace Go.Proofs.YtmhlcnmfbolgdaaGreat
open Go.RowKit
end Go.Proofs.YtmhlcnmfbolgdaaGreat

namespace Go.Proofs.YtmhlcnmfbolgdaaGreat
open Go.RowKit
structure Dx where
  snap : Int
  stamp : Int
  out : Bool
  m : Mx
  cp : Option Addr
  cc : Nat
  cs : List Cx
  deriving Inhabited
def Dx.csl (x : Dx) : Value := .slice x.cp x.cs.length x.cc
def Dx.dn (x : Dx) : Dn := ⟨x.snap, x.stamp, x.out, x.m.mk', x.cs.map Cx.ch⟩
def encDx (x : Dx) : List Value := [.int .u64 x.snap, .int .u64 x.stamp, .bool x.out, x.m.ksl, x.m.rsl, x.csl]
def KDx : Kind Dx := ⟨177, 6, encDx, fun _ => rfl, by decide, fun x u hu => by simp [encDx, Mx.ksl, Mx.rsl, Dx.csl] at hu; rcases hu with rfl | rfl | rfl | rfl | rfl | rfl <;> rfl⟩
structure SzD (m : Mx) (cs : List Cx) : Prop where
  keys : m.ks.length ≤ 4398046510976
  rows : m.rs.length ≤ 3518437208780
  terms : ∀ r ∈ m.rs, r.tm.length ≤ 3518437208780
  chg : cs.length ≤ 1466015503658
  copy : ∀ c ∈ cs, CopyX c.wo ∧ CopyX c.io
  kfit : ∀ k ∈ m.ks, FitKy12 k
  cfit : ∀ c ∈ cs, FitKy12 (c.a, c.b)
theorem SzD.len {m : Mx} {cs : List Cx} (h : SzD m cs) : LenM m := ⟨by have := h.keys; omega, by have := h.rows; omega⟩
structure DIn (W : World) (x : Dx) : Prop where
  mrk : MIn W x.m
  chg : ChgIn W x.csl x.cs
  sz : SzD x.m x.cs
  snap : 0 ≤ x.snap ∧ x.snap ≤ 18446744073709551615
  stamp : 0 ≤ x.stamp ∧ x.stamp ≤ 18446744073709551615
theorem DIn.on {W W' : World} {x : Dx} (h : DIn W x) (hb : Below W.heap.size W W') : DIn W' x := ⟨h.mrk.on hb, h.chg.on hb, h.sz, h.snap, h.stamp⟩
def YTurn (Prg : Nat → World → (Nat → Prop) → Nat → Tk → Prop) (n0 : Nat) (W : World) (B : Nat → Prop) (g : Nat) (t : Tk) (w' : World) : Prop := ∃ B', Prg n0 w' B' g t ∧ Fr B W w' ∧ ∀ k, B' k → B k ∨ W.heap.size ≤ k
def BlkCx (x : Cx) (k : Nat) : Prop := BlkX (.slice x.wp x.wo.length x.wc) x.wo k ∨ BlkX (.slice x.ip x.io.length x.ic) x.io k
structure COwn (N : Nat) (W : World) (x : Cx) : Prop where
  was : OwnJ N W (.slice x.wp x.wo.length x.wc) x.wo
  is : OwnJ N W (.slice x.ip x.io.length x.ic) x.io
  wfit : FitX x.wo
  ifit : FitX x.io
  apart : ∀ k, BlkX (.slice x.wp x.wo.length x.wc) x.wo k → ¬ BlkX (.slice x.ip x.io.length x.ic) x.io k
  wcp : CopyX x.wo
  icp : CopyX x.io
structure DOwn (N : Nat) (W : World) (x : Dx) : Prop where
  mrk : MOwn N W x.m
  row : KCx.Own N W x.csl x.cs
  each : ∀ c ∈ x.cs, COwn N W c
  apart : x.cs.Pairwise fun c d => ∀ k, BlkCx c k → ¬ BlkCx d k
def BlkD13 (x : Dx) (k : Nat) : Prop := x.m.ksl.ownBlock = some k ∨ x.m.rsl.ownBlock = some k ∨ (∃ r ∈ x.m.rs, r.sl.ownBlock = some k) ∨ x.csl.ownBlock = some k ∨ ∃ c ∈ x.cs, BlkCx c k
end Go.Proofs.YtmhlcnmfbolgdaaGreat

namespace Go.Proofs.YtmhlcnmfbolgdaaGreat
open Go.RowKit
end Go.Proofs.YtmhlcnmfbolgdaaGreat

namespace Go.Proofs.YtmhlcnmfbolgdaaGreat
open Go.RowKit
end Go.Proofs.YtmhlcnmfbolgdaaGreat

namespace Go.Proofs.YtmhlcnmfbolgdaaGreat
open Go.RowKit
end Go.Proofs.YtmhlcnmfbolgdaaGreat

namespace Go.Proofs.YtmhlcnmfbolgdaaGreat
open Go.RowKit
end Go.Proofs.YtmhlcnmfbolgdaaGreat

namespace Go.Proofs.YtmhlcnmfbolgdaaGreat
def allB : Nat → List (List Bool)
  | 0 => [[]]
  | n + 1 => (allB n).map (List.cons false) ++ (allB n).map (List.cons true)
theorem mem_allB : ∀ l : List Bool, l ∈ allB l.length
  | [] => by simp [allB]
  | false :: r => List.mem_append.2 (Or.inl (List.mem_map.2 ⟨r, mem_allB r, rfl⟩))
  | true :: r => List.mem_append.2 (Or.inr (List.mem_map.2 ⟨r, mem_allB r, rfl⟩))
def lstF (base : Array Bool) (L As : List Nat) (k : Nat) (fl : List Bool) : Array Bool :=
  ((L.take k) ++ ((As.zip fl).filter (·.2)).map (·.1)).foldl (fun l i => l.setIfInBounds i true) base
def chkF (md : Region.Mode) (ops : Array Oper) (base : Array Bool) (L As : List Nat) (k : Nat) (fl : List Bool) : Bool :=
  ((Region.ready md ops (lstF base L As k fl)).all fun i =>
    (decide (L[k]? = some i) && decide ((lstF base L As k fl).setIfInBounds i true = lstF base L As (k + 1) fl)) ||
    (List.range As.length).any fun j => decide (As[j]? = some i) && decide (fl[j]? = some false) && decide ((lstF base L As k fl).setIfInBounds i true = lstF base L As k (fl.set j true))) &&
  (!(Region.ready md ops (lstF base L As k fl)).isEmpty || (decide (k = L.length) && fl.all id))
theorem all_true : ∀ fl : List Bool, fl.all id = true → fl = List.replicate fl.length true
  | [], _ => rfl
  | b :: r, h => by
    simp only [List.all_cons, Bool.and_eq_true, id] at h
    rw [List.length_cons, List.replicate_succ, h.1, ← all_true r h.2]
theorem count_set : ∀ (fl : List Bool) (j : Nat), fl[j]? = some false → (fl.set j true).count false + 1 = fl.count false
  | [], j, h => by simp at h
  | b :: r, 0, h => by
    simp at h
    subst h
    simp
  | b :: r, j + 1, h => by
    have := count_set r j (by simpa using h)
    simp only [List.set_cons_succ, List.count_cons]
    omega
section
variable {P : Program} {ops : Array Oper} {Q : Exit → Act → World → Prop} {md : Region.Mode} {S : World → Prop}
def StepF (P : Program) (ops : Array Oper) (Q : Exit → Act → World → Prop) (i : Nat) (R : Act → World → Prop) (a : Act) (w : World) : Prop :=
  ∃ o : Oper, ops[i]? = some o ∧ ∀ K' : Act → World → Prop, Shut (∀ a w, R a w → K' a w) → if Region.wanted o (yielded ops a.tmps) = true then Oper.wp P o a w K' Q else K' (a.put o.dst undef) w
theorem wpAnyH_float {base : Array Bool} (L As : List Nat) (R : Act → Nat → List Bool → Act → World → Prop) {a0 : Act}
    (hchk : ((List.range (L.length + 1)).all fun k => (allB As.length).all fun fl => chkF md ops base L As k fl) = true)
    (hS : ∀ k fl a w, R a0 k fl a w → S w)
    (hmain : ∀ k i fl a w, L[k]? = some i → fl.length = As.length → i ∈ Region.ready md ops (lstF base L As k fl) → R a0 k fl a w → StepF P ops Q i (R a0 (k + 1) fl) a w)
    (halloc : ∀ j i k fl a w, As[j]? = some i → k ≤ L.length → fl.length = As.length → fl[j]? = some false → R a0 k fl a w → StepF P ops Q i (R a0 k (fl.set j true)) a w)
    (hend : ∀ a w, R a0 L.length (List.replicate As.length true) a w → Q .normal a w) :
    ∀ fuel k fl a w, L.length - k + fl.count false ≤ fuel → k ≤ L.length → fl.length = As.length → R a0 k fl a w → wpAnyH P md ops Q S fuel (lstF base L As k fl) a w := by
  have hc : ∀ k fl, k ≤ L.length → fl.length = As.length → chkF md ops base L As k fl = true := fun k fl hk hf => by
    have h1 := List.all_eq_true.1 hchk k (List.mem_range.2 (by omega))
    exact List.all_eq_true.1 h1 fl (hf ▸ mem_allB fl)
  have hnil : ∀ k fl a w, k ≤ L.length → fl.length = As.length → R a0 k fl a w → Region.ready md ops (lstF base L As k fl) = [] → Q .normal a w := fun k fl a w hk hf hR hr => by
    have h := hc k fl hk hf
    unfold chkF at h
    rw [hr] at h
    simp only [List.all_nil, List.isEmpty_nil, Bool.not_true, Bool.false_or, Bool.true_and, Bool.and_eq_true, decide_eq_true_eq] at h
    obtain ⟨rfl, h2⟩ := h
    have e := all_true fl h2
    rw [hf] at e
    exact hend a w (e ▸ hR)
  have hsome : ∀ k fl, k ≤ L.length → fl.length = As.length → ∀ i ∈ Region.ready md ops (lstF base L As k fl),
      (L[k]? = some i ∧ (lstF base L As k fl).setIfInBounds i true = lstF base L As (k + 1) fl) ∨ ∃ j, As[j]? = some i ∧ fl[j]? = some false ∧ (lstF base L As k fl).setIfInBounds i true = lstF base L As k (fl.set j true) := fun k fl hk hf i hi => by
    have h := hc k fl hk hf
    unfold chkF at h
    rw [Bool.and_eq_true] at h
    have h1 := List.all_eq_true.1 h.1 i hi
    rw [Bool.or_eq_true] at h1
    rcases h1 with h1 | h1
    · rw [Bool.and_eq_true] at h1
      exact Or.inl ⟨of_decide_eq_true h1.1, of_decide_eq_true h1.2⟩
    · obtain ⟨j, _, h2⟩ := List.any_eq_true.1 h1
      rw [Bool.and_eq_true, Bool.and_eq_true] at h2
      exact Or.inr ⟨j, of_decide_eq_true h2.1.1, of_decide_eq_true h2.1.2, of_decide_eq_true h2.2⟩
  intro fuel
  induction fuel with
  | zero =>
    intro k fl a w hm hk hf hR
    have hr : Region.ready md ops (lstF base L As k fl) = [] := by
      refine List.eq_nil_iff_forall_not_mem.2 fun i hi => ?_
      rcases hsome k fl hk hf i hi with ⟨h1, _⟩ | ⟨j, _, h2, _⟩
      · have := (List.getElem?_eq_some_iff.1 h1).1
        omega
      · have : 0 < fl.count false := List.count_pos_iff.2 (List.mem_of_getElem? h2)
        omega
    exact ⟨hr, hnil k fl a w hk hf hR hr⟩
  | succ fuel ih =>
    intro k fl a w hm hk hf hR
    refine ⟨hnil k fl a w hk hf hR, fun i hi => ?_⟩
    rcases hsome k fl hk hf i hi with ⟨h1, h2⟩ | ⟨j, h1, h2, h3⟩
    · obtain ⟨o, ho, hstep⟩ := hmain k i fl a w h1 hf hi hR
      have hlt := (List.getElem?_eq_some_iff.1 h1).1
      refine wpOp_step ho fun K' hK => hstep K' fun a' w' hR' => hK a' w' ⟨hS _ _ _ _ hR', ?_⟩
      rw [h2]
      exact ih (k + 1) fl a' w' (by omega) (by omega) hf hR'
    · obtain ⟨o, ho, hstep⟩ := halloc j i k fl a w h1 hk hf h2 hR
      have hcs := count_set fl j h2
      refine wpOp_step ho fun K' hK => hstep K' fun a' w' hR' => hK a' w' ⟨hS _ _ _ _ hR', ?_⟩
      rw [h3]
      exact ih k (fl.set j true) a' w' (by omega) hk (by rw [List.length_set]; exact hf) hR'
theorem lstF_start (base : Array Bool) (L As : List Nat) (n : Nat) : lstF base L As 0 (List.replicate n false) = base := by
  have h : ((As.zip (List.replicate n false)).filter (·.2)) = [] := List.filter_eq_nil_iff.2 fun x hx => by
    have := (List.of_mem_zip (show (x.1, x.2) ∈ _ from hx)).2
    rw [(List.mem_replicate.1 this).2]
    simp
  unfold lstF
  rw [h]
  rfl
theorem wpAnyH_floats (L As : List Nat) (R : Act → Nat → List Bool → Act → World → Prop) {fuel : Nat} {listed : Array Bool} {a0 : Act} {w : World}
    (hchk : ((List.range (L.length + 1)).all fun k => (allB As.length).all fun fl => chkF md ops listed L As k fl) = true) (hfuel : L.length + As.length ≤ fuel)
    (h0 : R a0 0 (List.replicate As.length false) a0 w)
    (hS : ∀ k fl a w, R a0 k fl a w → S w)
    (hmain : ∀ k i fl a w, L[k]? = some i → fl.length = As.length → i ∈ Region.ready md ops (lstF listed L As k fl) → R a0 k fl a w → StepF P ops Q i (R a0 (k + 1) fl) a w)
    (halloc : ∀ j i k fl a w, As[j]? = some i → k ≤ L.length → fl.length = As.length → fl[j]? = some false → R a0 k fl a w → StepF P ops Q i (R a0 k (fl.set j true)) a w)
    (hend : ∀ a w, R a0 L.length (List.replicate As.length true) a w → Q .normal a w) : wpAnyH P md ops Q S fuel listed a0 w := by
  have := wpAnyH_float L As R hchk hS hmain halloc hend fuel 0 (List.replicate As.length false) a0 w (by rw [List.count_replicate]; simp; omega) (Nat.zero_le _) (by simp) h0
  rwa [lstF_start] at this
end
def putS (a : Act) (l : List (Nat × Value)) : Act := l.foldl (fun a p => a.put (some p.1) p.2) a
theorem put_self (a : Act) (i : Nat) : a.put (some i) (a.tmps.getD i undef) = a := by
  obtain ⟨t, d⟩ := a
  simp only [Act.put, Act.mk.injEq, and_true]
  refine Array.ext (by simp) fun j h1 h2 => ?_
  rw [Array.getElem_setIfInBounds (by simpa using h1)]
  split
  · rename_i e
    subst e
    simp [Array.getD, h2]
  · rfl
theorem putS_self (a : Act) : ∀ l : List Nat, putS a (l.map fun i => (i, a.tmps.getD i undef)) = a
  | [] => rfl
  | i :: r => by
    have := putS_self a r
    unfold putS at *
    rw [List.map_cons, List.foldl_cons, put_self]
    exact this
theorem not_ready {md : Region.Mode} {ops : Array Oper} {l : Array Bool} {i : Nat} (h : i ∈ Region.ready md ops l) (hn : (Region.ready md ops l).contains i = false) : False := by
  rw [List.contains_eq_mem, decide_eq_false_iff_not] at hn
  exact hn h
end Go.Proofs.YtmhlcnmfbolgdaaGreat

namespace Go.Proofs.YtmhlcnmfbolgdaaGreat
open Go.RowKit
end Go.Proofs.YtmhlcnmfbolgdaaGreat

namespace Go.Proofs.YtmhlcnmfbolgdaaGreat
open Go.RowKit
theorem kdx_at {w : World} {b off : Nat} {d : List Dx} (h : KDx.At w b off d) (i : Nat) (hi : i < d.length) :
    w.cell? ⟨b, off + i * 6, none⟩ = some (.int .u64 (d[i]).snap) ∧ w.cell? ⟨b, off + i * 6 + 1, none⟩ = some (.int .u64 (d[i]).stamp) ∧ w.cell? ⟨b, off + i * 6 + 2, none⟩ = some (.bool (d[i]).out) ∧ w.cell? ⟨b, off + i * 6 + 3, none⟩ = some (d[i]).m.ksl ∧ w.cell? ⟨b, off + i * 6 + 4, none⟩ = some (d[i]).m.rsl ∧ w.cell? ⟨b, off + i * 6 + 5, none⟩ = some (d[i]).csl :=
  ⟨h i hi 0 _ rfl, h i hi 1 _ rfl, h i hi 2 _ rfl, h i hi 3 _ rfl, h i hi 4 _ rfl, h i hi 5 _ rfl⟩
end Go.Proofs.YtmhlcnmfbolgdaaGreat

namespace Go.Proofs.YtmhlcnmfbolgdaaGreat
open Go.RowKit
end Go.Proofs.YtmhlcnmfbolgdaaGreat

namespace Go.Proofs.YtmhlcnmfbolgdaaGreat
open Go.RowKit
theorem fit_same13 {o d : List Fx} (h : o.map Fx.fld = d.map Fx.fld) (hf : FitX d) : FitX o :=
  fitX_of h (by have := congrArg List.length h; simp at this; have h4 := hf.1; omega) fun f hf' => by
    obtain ⟨y, hy, rfl⟩ := List.mem_map.1 hf'
    exact hf.2 y hy
theorem copyX_same13 {o d : List Fx} (h : o.map Fx.fld = d.map Fx.fld) (hc : CopyX d) : CopyX o := by
  refine ⟨?_, fun x hx => ?_⟩
  · have := congrArg List.length h
    rw [List.length_map, List.length_map] at this
    rw [this]
    exact hc.1
  · have hm : x.fld ∈ d.map Fx.fld := by rw [← h]; exact List.mem_map_of_mem hx
    obtain ⟨y, hy, e⟩ := List.mem_map.1 hm
    have e2 : y.txt = x.txt := congrArg Prod.snd e
    rw [← e2]
    exact hc.2 y hy
def ChPost (W : World) (l : List Ch) (e : Ending) (w' : World) : Prop :=
  ∃ p c cs, e = .returned (.slice p cs.length c) ∧ KCx.Own W.heap.size w' (.slice p cs.length c) cs ∧ (∀ x ∈ cs, COwn W.heap.size w' x ∧ CopyX x.wo ∧ CopyX x.io ∧ ∀ b, BlkCx x b → ¬ (Value.slice p cs.length c).ownBlock = some b) ∧ (cs.Pairwise fun c d => ∀ k, BlkCx c k → ¬ BlkCx d k) ∧ cs.map Cx.ch = l ∧ Below W.heap.size W w'
structure CcSt (W : World) (L : List Cx) (p : Option Addr) (c : Nat) (w : World) : Prop where
  row : RowSt KCx W.heap.size W (.slice p L.length c) L w
  each : ∀ x ∈ L, COwn W.heap.size w x ∧ CopyX x.wo ∧ CopyX x.io ∧ ∀ b, BlkCx x b → ¬ (Value.slice p L.length c).ownBlock = some b
  apart : L.Pairwise fun c d => ∀ k, BlkCx c k → ¬ BlkCx d k
theorem COwn.fr {N : Nat} {w w' : World} {x : Cx} {P : Nat → Prop} (h : COwn N w x) (f : Fr P w w') (hP : ∀ k, BlkCx x k → ¬ P k) : COwn N w' x :=
  ⟨ownJ_fr h.was f fun k hk => hP k (Or.inl hk), ownJ_fr h.is f fun k hk => hP k (Or.inr hk), h.wfit, h.ifit, h.apart, h.wcp, h.icp⟩
theorem COwn.on {N : Nat} {w w' : World} {x : Cx} (h : COwn N w x) (hb : Below w.heap.size w w') : COwn N w' x := h.fr (P := fun _ => False) (Fr.of_below hb) fun _ _ k => k
theorem COwn.blk {N : Nat} {w : World} {x : Cx} (h : COwn N w x) (k : Nat) (hk : BlkCx x k) : N ≤ k ∧ k < w.heap.size := hk.elim (ownJ_blk h.was k) (ownJ_blk h.is k)
theorem COwn.weak {N M : Nat} {w : World} {x : Cx} (h : COwn N w x) (hM : M ≤ N) : COwn M w x := ⟨own_weakJ h.was hM, own_weakJ h.is hM, h.wfit, h.ifit, h.apart, h.wcp, h.icp⟩
theorem COwn.inn {N : Nat} {w : World} {x : Cx} (h : COwn N w x) : CIn w x := ⟨h.was.1.is, h.wfit, h.is.1.is, h.ifit, h.wcp, h.icp⟩
theorem CcSt.on {W : World} {L : List Cx} {p : Option Addr} {c : Nat} {w w' : World} (h : CcSt W L p c w) (hb : Below w.heap.size w w') : CcSt W L p c w' :=
  ⟨h.row.on hb, fun x hx => ⟨(h.each x hx).1.on hb, (h.each x hx).2⟩, h.apart⟩
theorem CcSt.nil (W : World) : CcSt W [] none 0 W := ⟨RowSt.nil KCx (Below.refl _ _) (Nat.le_refl _), (fun x hx => by cases hx), List.Pairwise.nil⟩
theorem CcSt.push {W : World} {L : List Cx} {p : Option Addr} {c : Nat} {w w' : World} {g c' : Nat} {x : Cx} (h : CcSt W L p c w) (hx : COwn W.heap.size w x) (hcx : CopyX x.wo ∧ CopyX x.io) (hxo : ∀ b, BlkCx x b → ¬ (Value.slice p L.length c).ownBlock = some b ∧ ∀ y ∈ L, ¬ BlkCx y b)
    (hst : RowSt KCx W.heap.size W (.slice (some ⟨g, 0, none⟩) (L.length + 1) c') (L ++ [x]) w') (hg : w.grownBy w' (Value.slice p L.length c).ownBlock) (hn : (Value.slice p L.length c).ownBlock = some g ∨ g = w.heap.size) : CcSt W (L ++ [x]) (some ⟨g, 0, none⟩) c' w' := by
  have hlen : (L ++ [x]).length = L.length + 1 := by simp
  have hf : Fr (fun b => (Value.slice p L.length c).ownBlock = some b) w w' := Fr.of_grown hg fun k hk => hk
  have hall : ∀ y ∈ L ++ [x], COwn W.heap.size w y ∧ CopyX y.wo ∧ CopyX y.io ∧ ∀ b, BlkCx y b → ¬ (Value.slice p L.length c).ownBlock = some b := fun y hy => by
    rcases List.mem_append.1 hy with h1 | h1
    · exact h.each y h1
    · rw [List.mem_singleton.1 h1]
      exact ⟨hx, hcx.1, hcx.2, fun b hb => (hxo b hb).1⟩
  refine ⟨by rw [hlen]; exact hst, fun y hy => ⟨(hall y hy).1.fr hf (hall y hy).2.2.2, (hall y hy).2.1, (hall y hy).2.2.1, fun b hb hb2 => ?_⟩, ?_⟩
  · rw [hlen] at hb2
    have e : b = g := by
      unfold Value.ownBlock at hb2
      simp at hb2
      omega
    subst e
    rcases hn with hn | hn
    · exact (hall y hy).2.2.2 b hb hn
    · have := ((hall y hy).1.blk b hb).2
      omega
  · rw [List.pairwise_append]
    refine ⟨h.apart, List.pairwise_singleton _ _, fun y hy z hz k h1 h2 => ?_⟩
    rw [List.mem_singleton] at hz
    subst hz
    exact (hxo k h2).2 y hy h1
structure ChSt13 (V : World) (G : Nat) (x : Cx) (k : Nat) (fl : List Bool) (t1 t2 t3 t4 : Value) (w : World) : Prop where
  fr : Fr (fun b => b = G) V w
  box : w.heap[G]? = some (.cells #[.string x.a, .string x.b, .bool x.wl, if 3 ≤ k then t2 else .slice x.wp x.wo.length x.wc, .bool x.il, if 4 ≤ k then t4 else .slice x.ip x.io.length x.ic] 105 (0, 0))
  f1 : fl[0]? = some true → t1 = .slice x.wp x.wo.length x.wc
  f2 : fl[1]? = some true → t3 = .slice x.ip x.io.length x.ic
  d1 : 1 ≤ k → fl[0]? = some true
  d2 : 2 ≤ k → fl[1]? = some true
  c1 : 1 ≤ k → ∃ o, OwnJ V.heap.size w t2 o ∧ o.map Fx.fld = x.wo.map Fx.fld ∧ (2 ≤ k → ∃ o', OwnJ V.heap.size w t4 o' ∧ o'.map Fx.fld = x.io.map Fx.fld ∧ ∀ b, BlkX t2 o b → ¬ BlkX t4 o' b)
section
variable {V : World} {G : Nat} {x : Cx} {k : Nat} {fl : List Bool} {t1 t2 t3 t4 : Value} {w : World}
theorem ch13_start (hb : V.heap[G]? = some (.cells #[.string x.a, .string x.b, .bool x.wl, .slice x.wp x.wo.length x.wc, .bool x.il, .slice x.ip x.io.length x.ic] 105 (0, 0))) (t1 t2 t3 t4 : Value) : ChSt13 V G x 0 [false, false] t1 t2 t3 t4 V :=
  ⟨Fr.refl _ _, hb, (fun h => by cases h), (fun h => by cases h), (fun h => by omega), (fun h => by omega), (fun h => by omega)⟩
theorem ch13_load1 {f2 : Bool} (h : ChSt13 V G x 0 [false, f2] t1 t2 t3 t4 w) : ChSt13 V G x 0 [true, f2] (.slice x.wp x.wo.length x.wc) t2 t3 t4 w :=
  ⟨h.fr, h.box, (fun _ => rfl), h.f2, (fun h => by omega), (fun h => by omega), (fun h => by omega)⟩
theorem ch13_load2 {f1 : Bool} (h : ChSt13 V G x k [f1, false] t1 t2 t3 t4 w) : ChSt13 V G x k [f1, true] t1 t2 (.slice x.ip x.io.length x.ic) t4 w :=
  ⟨h.fr, h.box, h.f1, (fun _ => rfl), h.d1, (fun _ => rfl), h.c1⟩
theorem ch13_call1 {f2 : Bool} {w' : World} {u : Value} {o : List Fx} (h : ChSt13 V G x 0 [true, f2] t1 t2 t3 t4 w) (hG : G < V.heap.size) (hb : Below w.heap.size w w') (ho : OwnJ w.heap.size w' u o) (hm : o.map Fx.fld = x.wo.map Fx.fld) : ChSt13 V G x 1 [true, f2] t1 u t3 t4 w' :=
  ⟨h.fr.then (Fr.of_below (P := fun _ => False) hb) fun _ h => h.elim, (hb.block G (by have := h.fr.size; omega)).trans h.box, h.f1, h.f2, (fun _ => rfl), (fun h => by omega), fun _ => ⟨o, own_weakJ ho h.fr.size, hm, fun h => by omega⟩⟩
theorem ch13_call2 {w' : World} {u : Value} {o : List Fx} (h : ChSt13 V G x 1 [true, true] t1 t2 t3 t4 w) (hG : G < V.heap.size) (hb : Below w.heap.size w w') (ho : OwnJ w.heap.size w' u o) (hm : o.map Fx.fld = x.io.map Fx.fld) : ChSt13 V G x 2 [true, true] t1 t2 t3 u w' := by
  obtain ⟨o1, h1, h2, _⟩ := h.c1 (Nat.le_refl _)
  refine ⟨h.fr.then (Fr.of_below (P := fun _ => False) hb) fun _ h => h.elim, (hb.block G (by have := h.fr.size; omega)).trans h.box, h.f1, h.f2, (fun _ => rfl), (fun _ => rfl), fun _ => ⟨o1, ownJ_fr h1 (Fr.of_below (P := fun _ => False) hb) fun _ _ k => k, h2, fun _ => ⟨o, own_weakJ ho h.fr.size, hm, fun b hb1 hb2 => ?_⟩⟩⟩
  have q1 := (ownJ_blk h1 b hb1).2
  have q2 := (ownJ_blk ho b hb2).1
  omega
theorem ch13_own {w' : World} (hf : Fr (fun b => b = G) w w') (hG : G < V.heap.size) (h : ∃ o, OwnJ V.heap.size w t2 o ∧ o.map Fx.fld = x.wo.map Fx.fld ∧ (2 ≤ k → ∃ o', OwnJ V.heap.size w t4 o' ∧ o'.map Fx.fld = x.io.map Fx.fld ∧ ∀ b, BlkX t2 o b → ¬ BlkX t4 o' b)) (hk : 2 ≤ k) :
    ∃ o, OwnJ V.heap.size w' t2 o ∧ o.map Fx.fld = x.wo.map Fx.fld ∧ ∃ o', OwnJ V.heap.size w' t4 o' ∧ o'.map Fx.fld = x.io.map Fx.fld ∧ ∀ b, BlkX t2 o b → ¬ BlkX t4 o' b := by
  obtain ⟨o, h1, h2, h3⟩ := h
  obtain ⟨o', h4, h5, h6⟩ := h3 hk
  exact ⟨o, ownJ_fr h1 hf fun b hb e => by have := (ownJ_blk h1 b hb).1; omega, h2, o', ownJ_fr h4 hf fun b hb e => by have := (ownJ_blk h4 b hb).1; omega, h5, h6⟩
theorem fr_set (w : World) (G j : Nat) (u : Value) : Fr (fun b => b = G) w (w.setCell ⟨G, j, none⟩ u) := by
  have hb : Below G w (w.setCell ⟨G, j, none⟩ u) := (Below.refl G w).setCell (Nat.le_refl _) _
  exact ⟨hb.os, hb.tape, hb.output, hb.size, fun k _ hn => heap_setCell_other _ _ k _ hn⟩
theorem ch13_store1 (h : ChSt13 V G x 2 [true, true] t1 t2 t3 t4 w) (hG : G < V.heap.size) : ChSt13 V G x 3 [true, true] t1 t2 t3 t4 (w.setCell ⟨G, 3, none⟩ t2) := by
  obtain ⟨o, h1, h2, o', h3⟩ := ch13_own (k := 2) (fr_set w G 3 t2) hG (h.c1 (by omega)) (Nat.le_refl _)
  exact ⟨h.fr.then (fr_set w G 3 t2) fun _ h => Or.inl h, heap_setCell_same _ G _ _ _ _ h.box, h.f1, h.f2, (fun _ => rfl), (fun _ => rfl), fun _ => ⟨o, h1, h2, fun _ => ⟨o', h3⟩⟩⟩
theorem ch13_store2 (h : ChSt13 V G x 3 [true, true] t1 t2 t3 t4 w) (hG : G < V.heap.size) : ChSt13 V G x 4 [true, true] t1 t2 t3 t4 (w.setCell ⟨G, 5, none⟩ t4) := by
  obtain ⟨o, h1, h2, o', h3⟩ := ch13_own (k := 3) (fr_set w G 5 t4) hG (h.c1 (by omega)) (by omega)
  exact ⟨h.fr.then (fr_set w G 5 t4) fun _ h => Or.inl h, heap_setCell_same _ G _ _ _ _ h.box, h.f1, h.f2, (fun _ => rfl), (fun _ => rfl), fun _ => ⟨o, h1, h2, fun _ => ⟨o', h3⟩⟩⟩
end
end Go.Proofs.YtmhlcnmfbolgdaaGreat

namespace Go.Proofs.YtmhlcnmfbolgdaaGreat
open Go.RowKit
theorem Tryz.infoCx13 : (Tryz.prog.info? 105).map (fun i => (i.zero, i.size, i.bytes)) = some (some (.agg #[.string ⟨#[]⟩, .string ⟨#[]⟩, .bool false, .slice none 0 0, .bool false, .slice none 0 0]), 6, 96) := by kernel_rfl
def kk13 : Nat → Nat
  | 0 => 0
  | 1 => 1
  | 2 => 2
  | 3 => 3
  | 4 => 3
  | _ + 5 => 4
end Go.Proofs.YtmhlcnmfbolgdaaGreat

namespace Go.Proofs.YtmhlcnmfbolgdaaGreat
open Go.RowKit
end Go.Proofs.YtmhlcnmfbolgdaaGreat

namespace Go.Proofs.YtmhlcnmfbolgdaaGreat
open Go.RowKit
theorem slice_own {g n c k : Nat} (hk : (Value.slice (some ⟨g, 0, none⟩) n c).ownBlock = some k) : k = g := by
  have h1 : (Value.slice (some ⟨g, 0, none⟩) n c).ownBlock = some g ∨ (Value.slice (some ⟨g, 0, none⟩) n c).ownBlock = none := by
    unfold Value.ownBlock
    simp
  rcases h1 with h1 | h1
  · rw [h1] at hk; injection hk with hk; exact hk.symm
  · rw [h1] at hk; cases hk
theorem wp_push {P : Program} {α : Type} {w : World} {o : Oper} {a : Act} {Q : Exit → Act → World → Prop} {Kx : Act → World → Prop} (K : Kind α) (hgd : o.guard = none) (s x : Operand) (t : TypeId) (ho : o.op = .call { callee := .builtin .append, args := #[s, x], argTypes := #[t, t] })
    (i : TypeInfo) (z : Value) (bytes : Nat) (ht : P.underlying t = some (.slice K.T)) (hi : P.info? K.T = some i) (hz : i.zero = some z) (hsize : i.size = K.k) (hby : i.bytes = bytes) (hzs : z.cells.size = K.k)
    (N : Nat) (W : World) (v : Value) (l : List α) (hs : a.eval s = v) (hst : RowSt K N W v l w) (y : α) (B m c : Nat) (hm : m = 1) (hx : a.eval x = .slice (some ⟨B, 0, none⟩) m c) (te : TypeId) (fz : Nat × Nat) (hB : w.heap[B]? = some (.cells (K.enc y).toArray te fz))
    (hlen : l.length + 1 ≤ maxLen) (hbytes : (l.length + 1) * bytes ≤ 140737488355328)
    (h : ∀ g cap w', RowSt K N W (.slice (some ⟨g, 0, none⟩) (l.length + 1) cap) (l ++ [y]) w' → w.grownBy w' v.ownBlock → (v.ownBlock = some g ∨ g = w.heap.size) → Kx (a.put o.dst (.slice (some ⟨g, 0, none⟩) (l.length + 1) cap)) w') :
    Oper.wp P o a w Kx Q := by
  have := step_push (ops := #[]) (E := True) (Q := Q) K hgd s x t ho i z bytes ht hi hz hsize hby hzs N W v l hs hst y B m c hm hx te fz hB hlen hbytes h
  rwa [if_pos (by unfold Region.wanted; rw [hgd])] at this
end Go.Proofs.YtmhlcnmfbolgdaaGreat

namespace Go.Proofs.YtmhlcnmfbolgdaaGreat
open Go.RowKit
structure PbAt {α : Type} (K : Kind α) (T : TypeId) (N : Nat) (W : World) (x : α) (l : List α) (v : Value) (G f : Nat) (c : Array Value) (TG : TypeId) (w0 : World) (k : Nat) (fl : List Bool) (u s p : Value) (w : World) (Z : Nat) : Prop where
  row : RowSt K N W (if 1 ≤ k then p else v) (if 1 ≤ k then l ++ [x] else l) w
  ld : fl[0]? = some true → u = v
  bx : fl[1]? = some true → s = .slice (some ⟨Z, 0, none⟩) 1 1 ∧ (k = 0 → w.heap[Z]? = some (.cells (K.enc x).toArray T (0, 0)))
  box : w.heap[G]? = some (.cells (if 3 ≤ k then c.setIfInBounds f p else c) TG (0, 0))
  own : 1 ≤ k → ∀ b, p.ownBlock = some b → v.ownBlock = some b ∨ w0.heap.size ≤ b
  fr : Fr (fun b => b = G ∨ v.ownBlock = some b) w0 w
def Pb {α : Type} (K : Kind α) (T : TypeId) (N : Nat) (W : World) (x : α) (l : List α) (v : Value) (G f : Nat) (c : Array Value) (TG : TypeId) (w0 : World) (k : Nat) (fl : List Bool) (u s p : Value) (w : World) : Prop := ∃ Z, PbAt K T N W x l v G f c TG w0 k fl u s p w Z
section
variable {α : Type} {K : Kind α} {T : TypeId} {N : Nat} {W : World} {x : α} {l : List α} {v : Value} {G f : Nat} {c : Array Value} {TG : TypeId} {w0 : World} {k : Nat} {fl : List Bool} {u s p : Value} {w : World}
theorem pb_start (u s p : Value) (h : RowSt K N W v l w) (hG : w.heap[G]? = some (.cells c TG (0, 0))) : Pb K T N W x l v G f c TG w 0 [false, false] u s p w :=
  ⟨0, h, (fun e => by cases e), (fun e => by cases e), hG, (fun e => by omega), Fr.refl _ _⟩
theorem pb_fr (h : Pb K T N W x l v G f c TG w0 k fl u s p w) : Fr (fun b => b = G ∨ v.ownBlock = some b) w0 w := by
  obtain ⟨Z, h⟩ := h
  exact h.fr
theorem pb_load {f2 : Bool} (h : Pb K T N W x l v G f c TG w0 k [false, f2] u s p w) (hk : k ≤ 2) : w.heap[G]? = some (.cells c TG (0, 0)) ∧ Pb K T N W x l v G f c TG w0 k [true, f2] v s p w := by
  obtain ⟨Z, h⟩ := h
  have hb := h.box
  rw [if_neg (by omega)] at hb
  exact ⟨hb, Z, h.row, (fun _ => rfl), h.bx, h.box, h.own, h.fr⟩
theorem pb_box {f1 : Bool} (h : Pb K T N W x l v G f c TG w0 k [f1, false] u s p w) : Pb K T N W x l v G f c TG w0 k [f1, true] u (.slice (some ⟨w.heap.size, 0, none⟩) 1 1) p (w.alloc (.cells (K.enc x).toArray T)) := by
  obtain ⟨Z, h⟩ := h
  have hal : Below w.heap.size w (w.alloc (.cells (K.enc x).toArray T)) := (Below.refl _ _).alloc (Nat.le_refl _) _
  exact ⟨w.heap.size, h.row.on hal, h.ld, (fun _ => ⟨rfl, fun _ => heap_alloc_new w _⟩), (hal.block G (Array.getElem?_eq_some_iff.1 h.box).1).trans h.box, h.own, h.fr.then (Fr.of_below hal) fun b hb => Or.inl hb⟩
theorem pb_row (h : Pb K T N W x l v G f c TG w0 0 [true, true] u s p w) : ∃ Z, u = v ∧ s = .slice (some ⟨Z, 0, none⟩) 1 1 ∧ w.heap[Z]? = some (.cells (K.enc x).toArray T (0, 0)) ∧ RowSt K N W v l w := by
  obtain ⟨Z, h⟩ := h
  exact ⟨Z, h.ld rfl, (h.bx rfl).1, (h.bx rfl).2 rfl, h.row⟩
theorem pb_push {g cap : Nat} {w' : World} (h : Pb K T N W x l v G f c TG w0 0 [true, true] u s p w) (hG : ∀ b, v.ownBlock = some b → b ≠ G) (hst : RowSt K N W (.slice (some ⟨g, 0, none⟩) (l.length + 1) cap) (l ++ [x]) w') (hg : w.grownBy w' v.ownBlock) (hat : v.ownBlock = some g ∨ g = w.heap.size) : Pb K T N W x l v G f c TG w0 1 [true, true] u s (.slice (some ⟨g, 0, none⟩) (l.length + 1) cap) w' := by
  obtain ⟨Z, h⟩ := h
  have hb : w.heap[G]? = some (.cells c TG (0, 0)) := h.box
  refine ⟨Z, hst, h.ld, (fun _ => ⟨(h.bx rfl).1, fun e => by omega⟩), (hg.block G (Array.getElem?_eq_some_iff.1 hb).1 (fun e => hG G e.symm rfl)).trans hb, (fun _ b hb => ?_), h.fr.then (Fr.of_grown hg fun k hk => hk) fun b hb => Or.inl (Or.inr hb)⟩
  rw [slice_own hb]
  rcases hat with h1 | h1
  · exact Or.inl h1
  · exact Or.inr (by have := h.fr.size; omega)
theorem pb_on (h : Pb K T N W x l v G f c TG w0 1 fl u s p w) : Pb K T N W x l v G f c TG w0 2 fl u s p w := by
  obtain ⟨Z, h⟩ := h
  exact ⟨Z, h.row, h.ld, (fun e => ⟨(h.bx e).1, fun e => by omega⟩), h.box, (fun _ => h.own (by omega)), h.fr⟩
theorem pb_store (h : Pb K T N W x l v G f c TG w0 2 fl u s p w) (hNG : N ≤ G) (hG : ∀ b, p.ownBlock = some b → b ≠ G) : w.heap[G]? = some (.cells c TG (0, 0)) ∧ Pb K T N W x l v G f c TG w0 3 fl u s p (w.setCell ⟨G, f, none⟩ p) := by
  obtain ⟨Z, h⟩ := h
  have hb : w.heap[G]? = some (.cells c TG (0, 0)) := h.box
  have hr : RowSt K N W p (l ++ [x]) w := h.row
  have hf : Fr (fun b => b = G) w (w.setCell ⟨G, f, none⟩ p) := ⟨rfl, rfl, rfl, by simp, fun k _ hn => heap_setCell_other _ _ k _ hn⟩
  have hf' := h.fr.then (hf.mono (Q := fun b => b = G ∨ v.ownBlock = some b) fun b hb => Or.inl hb) fun b hb => Or.inl hb
  refine ⟨hb, Z, ⟨hf.row (show w.ownsRow N K.T K.k p (l ++ [x]).length (K.cells (l ++ [x])) from hr.own) fun b h1 h2 => hG b h1 h2, hr.bel.trans (hf.below hr.base fun b hb => by omega), by simpa using hr.base⟩, h.ld, (fun e => ⟨(h.bx e).1, fun e => by omega⟩), heap_setCell_same _ G f _ _ _ hb, (fun _ => h.own (by omega)), hf'⟩
theorem pb_shape (h : Pb K T N W x l v G f c TG w0 k fl u s p w) (hk : 1 ≤ k) : ∃ pp cc, p = .slice pp (l.length + 1) cc := by
  obtain ⟨Z, h⟩ := h
  have hr := h.row.own
  rw [if_pos hk, if_pos hk] at hr
  obtain ⟨pp, cc, e⟩ := Kind.own_shape hr
  exact ⟨pp, cc, by rw [e, List.length_append]; rfl⟩
theorem pb_shape2 (h : Pb K T N W x l v G f c TG w0 k fl u s p w) (hk : 1 ≤ k) : ∃ g cc, p = .slice (some ⟨g, 0, none⟩) (l.length + 1) cc := by
  obtain ⟨Z, h⟩ := h
  have hr := h.row.own
  rw [if_pos hk, if_pos hk] at hr
  have h1 : w.ownsRow N K.T K.k p (l ++ [x]).length (K.cells (l ++ [x])) := hr
  rcases h1.2 with ⟨_, h2⟩ | ⟨g, cap, cur, h2, _⟩
  · simp at h2
  · exact ⟨g, cap, by rw [h2, List.length_append]; rfl⟩
theorem pb_off (h : Pb K T N W x l v G f c TG w0 k fl u s p w) (hk : 1 ≤ k) (hG : ∀ b, v.ownBlock = some b → b ≠ G) (hlt : G < w0.heap.size) : ∀ b, p.ownBlock = some b → b ≠ G := fun b hb => by
  obtain ⟨Z, h⟩ := h
  rcases h.own hk b hb with h1 | h1
  · exact hG b h1
  · omega
theorem pb_end (h : Pb K T N W x l v G f c TG w0 3 fl u s p w) : RowSt K N W p (l ++ [x]) w ∧ w.heap[G]? = some (.cells (c.setIfInBounds f p) TG (0, 0)) ∧ Fr (fun b => b = G ∨ v.ownBlock = some b) w0 w ∧ ∀ b, p.ownBlock = some b → v.ownBlock = some b ∨ w0.heap.size ≤ b := by
  obtain ⟨Z, h⟩ := h
  exact ⟨h.row, h.box, h.fr, h.own (by omega)⟩
end
end Go.Proofs.YtmhlcnmfbolgdaaGreat

namespace Go.Proofs.YtmhlcnmfbolgdaaGreat
open Go.RowKit
end Go.Proofs.YtmhlcnmfbolgdaaGreat

namespace Go.Proofs.YtmhlcnmfbolgdaaGreat
open Go.RowKit
theorem SzD.same {m m' : Mx} {cs cs' : List Cx} (h : SzD m cs) (hm : m'.mk' = m.mk') (hc : cs'.map Cx.ch = cs.map Cx.ch) (hcp : ∀ x ∈ cs', CopyX x.wo ∧ CopyX x.io) : SzD m' cs' := by
  have h1 : m'.ks = m.ks := congrArg Prod.fst hm
  have h2 : m'.rs.map Rx.rg = m.rs.map Rx.rg := congrArg Prod.snd hm
  have h3 : m'.rs.length = m.rs.length := by have := congrArg List.length h2; simpa using this
  have h4 : cs'.length = cs.length := by have := congrArg List.length hc; simpa using this
  refine ⟨by rw [h1]; exact h.keys, by rw [h3]; exact h.rows, fun r hr => ?_, by rw [h4]; exact h.chg, hcp, by rw [h1]; exact h.kfit, fun c hc' => ?_⟩
  · have : r.rg ∈ m.rs.map Rx.rg := by rw [← h2]; exact List.mem_map_of_mem hr
    obtain ⟨r', hr', e⟩ := List.mem_map.1 this
    have e2 : r'.tm = r.tm := congrArg Prod.snd e
    rw [← e2]
    exact h.terms r' hr'
  · have : c.ch ∈ cs.map Cx.ch := by rw [← hc]; exact List.mem_map_of_mem hc'
    obtain ⟨c', hc2, e⟩ := List.mem_map.1 this
    have e2 : (c'.a, c'.b) = (c.a, c.b) := congrArg Ch.key e
    rw [← e2]
    exact h.cfit c' hc2
theorem DOwn.fr {N : Nat} {w w' : World} {x : Dx} {P : Nat → Prop} (h : DOwn N w x) (f : Fr P w w') (hP : ∀ k, P k → k < N) : DOwn N w' x :=
  ⟨h.mrk.fr f hP, f.row (show w.ownsRow N KCx.T KCx.k x.csl x.cs.length (KCx.cells x.cs) from h.row) fun k hk hp => by
    have h1 := (World.ownsRow.lt (show w.ownsRow N KCx.T KCx.k x.csl x.cs.length (KCx.cells x.cs) from h.row) k hk).1
    have h2 := hP k hp
    omega, fun c hc => (h.each c hc).fr f fun k hk hp => by
    have h1 := ((h.each c hc).blk k hk).1
    have h2 := hP k hp
    omega, h.apart⟩
theorem MOwn.weak {N M : Nat} {W : World} {m : Mx} (h : MOwn N W m) (hM : M ≤ N) : MOwn M W m := ⟨Kind.own_weak h.keys hM, Kind.own_weak h.rows hM, fun r hr => ⟨Kind.own_weak (h.each r hr).1 hM, (h.each r hr).2⟩, h.apart⟩
theorem DOwn.weak {N M : Nat} {w : World} {x : Dx} (h : DOwn N w x) (hM : M ≤ N) : DOwn M w x := ⟨h.mrk.weak hM, Kind.own_weak h.row hM, fun c hc => (h.each c hc).weak hM, h.apart⟩
theorem DOwn.inn {N : Nat} {w : World} {x : Dx} (h : DOwn N w x) : MIn w x.m ∧ ChgIn w x.csl x.cs := ⟨h.mrk.inn, Kind.own_is h.row, fun c hc => (h.each c hc).inn⟩
end Go.Proofs.YtmhlcnmfbolgdaaGreat

namespace Go.Proofs.YtmhlcnmfbolgdaaGreat
open Go.RowKit
theorem Tryz.infoDx13 : (Tryz.prog.info? 177).map (fun i => (i.zero, i.size, i.bytes)) = some (some (.agg #[.int .u64 0, .int .u64 0, .bool false, .slice none 0 0, .slice none 0 0, .slice none 0 0]), 6, 96) := by kernel_rfl
theorem DOwn.frB {N : Nat} {w w' : World} {x : Dx} {P : Nat → Prop} (h : DOwn N w x) (f : Fr P w w') (hP : ∀ k, BlkD13 x k → ¬ P k) : DOwn N w' x :=
  ⟨⟨f.row (show w.ownsRow N KK.T KK.k x.m.ksl x.m.ks.length (KK.cells x.m.ks) from h.mrk.keys) fun k hk => hP k (Or.inl hk),
    f.row (show w.ownsRow N KRx.T KRx.k x.m.rsl x.m.rs.length (KRx.cells x.m.rs) from h.mrk.rows) fun k hk => hP k (Or.inr (Or.inl hk)),
    fun r hr => ⟨f.row (show w.ownsRow N KM.T KM.k r.sl r.tm.length (KM.cells r.tm) from (h.mrk.each r hr).1) fun k hk => hP k (Or.inr (Or.inr (Or.inl ⟨r, hr, hk⟩))), (h.mrk.each r hr).2⟩, h.mrk.apart⟩,
    f.row (show w.ownsRow N KCx.T KCx.k x.csl x.cs.length (KCx.cells x.cs) from h.row) fun k hk => hP k (Or.inr (Or.inr (Or.inr (Or.inl hk)))),
    fun c hc => (h.each c hc).fr f fun k hk => hP k (Or.inr (Or.inr (Or.inr (Or.inr ⟨c, hc, hk⟩)))), h.apart⟩
theorem DOwn.blk {N : Nat} {w : World} {x : Dx} (h : DOwn N w x) (k : Nat) (hk : BlkD13 x k) : N ≤ k ∧ k < w.heap.size := by
  rcases hk with hk | hk | ⟨r, hr, hk⟩ | hk | ⟨c, hc, hk⟩
  · exact World.ownsRow.lt (show w.ownsRow N KK.T KK.k x.m.ksl x.m.ks.length (KK.cells x.m.ks) from h.mrk.keys) k hk
  · exact World.ownsRow.lt (show w.ownsRow N KRx.T KRx.k x.m.rsl x.m.rs.length (KRx.cells x.m.rs) from h.mrk.rows) k hk
  · exact World.ownsRow.lt (show w.ownsRow N KM.T KM.k r.sl r.tm.length (KM.cells r.tm) from (h.mrk.each r hr).1) k hk
  · exact World.ownsRow.lt (show w.ownsRow N KCx.T KCx.k x.csl x.cs.length (KCx.cells x.cs) from h.row) k hk
  · exact (h.each c hc).blk k hk
end Go.Proofs.YtmhlcnmfbolgdaaGreat

namespace Go.Proofs.YtmhlcnmfbolgdaaGreat
open Go.RowKit
structure RgSt (N : Nat) (W : World) (v : Value) (L : List Rx) (w : World) : Prop where
  row : RowSt KRx N W v L w
  each : ∀ r ∈ L, KM.Own N w r.sl r.tm ∧ FitP r.tm
  apart : ApartR L
theorem ty_mr : KM.T ≠ KRx.T := by decide
section
variable {N : Nat} {W : World} {v : Value} {L : List Rx} {w : World}
theorem RgSt.nil (hb : Below N W w) (hN : N ≤ w.heap.size) : RgSt N W (.slice none 0 0) [] w := ⟨RowSt.nil KRx hb hN, (fun _ h => by cases h), List.Pairwise.nil⟩
theorem RgSt.on {w' : World} (h : RgSt N W v L w) (hb : Below w.heap.size w w') : RgSt N W v L w' := ⟨h.row.on hb, fun r hr => ⟨Kind.own_on (h.each r hr).1 hb, (h.each r hr).2⟩, h.apart⟩
theorem RgSt.fresh {w' : World} {x : Rx} (h : RgSt N W v L w) (hx : KM.Own w.heap.size w' x.sl x.tm) : ∀ r ∈ L, ∀ k, r.sl.ownBlock = some k → ¬ x.sl.ownBlock = some k := fun r hr k h1 h2 => by
  have q1 := (World.ownsRow.lt (show w.ownsRow N KM.T KM.k r.sl r.tm.length (KM.cells r.tm) from (h.each r hr).1) k h1).2
  have q2 := (World.ownsRow.lt (show w'.ownsRow w.heap.size KM.T KM.k x.sl x.tm.length (KM.cells x.tm) from hx) k h2).1
  omega
theorem RgSt.push {w' : World} {g c : Nat} {x : Rx} (h : RgSt N W v L w) (hx : KM.Own N w x.sl x.tm) (hf : FitP x.tm) (hfr : ∀ r ∈ L, ∀ k, r.sl.ownBlock = some k → ¬ x.sl.ownBlock = some k)
    (hst : RowSt KRx N W (.slice (some ⟨g, 0, none⟩) (L.length + 1) c) (L ++ [x]) w') (hg : w.grownBy w' v.ownBlock) : RgSt N W (.slice (some ⟨g, 0, none⟩) (L.length + 1) c) (L ++ [x]) w' := by
  refine ⟨hst, fun r hr => ?_, ?_⟩
  · have : KM.Own N w r.sl r.tm ∧ FitP r.tm := by
      rcases List.mem_append.1 hr with h1 | h1
      · exact h.each r h1
      · rw [List.mem_singleton.1 h1]
        exact ⟨hx, hf⟩
    exact ⟨own_else (show w.ownsRow N KM.T KM.k r.sl r.tm.length (KM.cells r.tm) from this.1) (show w.ownsRow N KRx.T KRx.k v L.length (KRx.cells L) from h.row.own) ty_mr hg, this.2⟩
  · rw [ApartR, List.pairwise_append]
    refine ⟨h.apart, List.pairwise_singleton _ _, fun r hr y hy => ?_⟩
    rw [List.mem_singleton.1 hy]
    exact hfr r hr
end
def RgPost (W : World) (l : List Rg) (e : Ending) (w' : World) : Prop :=
  ∃ p c L, e = .returned (.slice p L.length c) ∧ RgSt W.heap.size W (.slice p L.length c) L w' ∧ L.map Rx.rg = l
theorem sortK_append (a b : List Ky) : sortK (a ++ b) = b.foldl (fun acc x => insR ltKy x acc) (sortK a) := by
  unfold sortK
  rw [List.foldl_append]
theorem sortK_snoc (a : List Ky) (k : Ky) : sortK (a ++ [k]) = insR ltKy k (sortK a) := by
  rw [sortK_append]
  rfl
end Go.Proofs.YtmhlcnmfbolgdaaGreat

namespace Go.Proofs.YtmhlcnmfbolgdaaGreat
open Go.RowKit Go.Lib
structure MadeK (α : Type) where
  E : Nat → World → α → Prop
  Blk : α → Nat → Prop
  fr : ∀ {N : Nat} {w w' : World} {x : α} {P : Nat → Prop}, E N w x → Fr P w w' → (∀ k, Blk x k → ¬ P k) → E N w' x
  blk : ∀ {N : Nat} {w : World} {x : α}, E N w x → ∀ k, Blk x k → N ≤ k ∧ k < w.heap.size
  weak : ∀ {N M : Nat} {w : World} {x : α}, E N w x → M ≤ N → E M w x
theorem MadeK.on {α : Type} {Q : MadeK α} {N : Nat} {w w' : World} {x : α} (h : Q.E N w x) (hb : Below w.heap.size w w') : Q.E N w' x := Q.fr (P := fun _ => False) h (Fr.of_below hb) fun _ _ k => k
structure EachSt {α : Type} (K : Kind α) (Q : MadeK α) (W : World) (L : List α) (p : Option Addr) (c : Nat) (w : World) : Prop where
  row : RowSt K W.heap.size W (.slice p L.length c) L w
  each : ∀ x ∈ L, Q.E W.heap.size w x ∧ ∀ b, Q.Blk x b → ¬ (Value.slice p L.length c).ownBlock = some b
  apart : L.Pairwise fun c d => ∀ k, Q.Blk c k → ¬ Q.Blk d k
section
variable {α : Type} {K : Kind α} {Q : MadeK α} {W : World} {L : List α} {p : Option Addr} {c : Nat} {w : World}
theorem EachSt.on {w' : World} (h : EachSt K Q W L p c w) (hb : Below w.heap.size w w') : EachSt K Q W L p c w' :=
  ⟨h.row.on hb, fun x hx => ⟨MadeK.on (h.each x hx).1 hb, (h.each x hx).2⟩, h.apart⟩
theorem EachSt.start (h : RowSt K W.heap.size W (.slice p 0 c) [] w) : EachSt K Q W [] p c w := ⟨h, (fun x hx => by cases hx), List.Pairwise.nil⟩
theorem EachSt.fresh {w' : World} {x : α} (h : EachSt K Q W L p c w) (hx : Q.E w.heap.size w' x) : ∀ b, Q.Blk x b → ¬ (Value.slice p L.length c).ownBlock = some b ∧ ∀ y ∈ L, ¬ Q.Blk y b := fun b hb => by
  have h1 := (Q.blk hx b hb).1
  refine ⟨fun h2 => ?_, fun y hy h2 => ?_⟩
  · have := (World.ownsRow.lt (show w.ownsRow W.heap.size K.T K.k (.slice p L.length c) L.length (K.cells L) from h.row.own) b h2).2
    omega
  · have := (Q.blk (h.each y hy).1 b h2).2
    omega
theorem EachSt.push {w' : World} {g c' : Nat} {x : α} (h : EachSt K Q W L p c w) (hx : Q.E W.heap.size w x) (hxo : ∀ b, Q.Blk x b → ¬ (Value.slice p L.length c).ownBlock = some b ∧ ∀ y ∈ L, ¬ Q.Blk y b)
    (hst : RowSt K W.heap.size W (.slice (some ⟨g, 0, none⟩) (L.length + 1) c') (L ++ [x]) w') (hg : w.grownBy w' (Value.slice p L.length c).ownBlock) (hn : (Value.slice p L.length c).ownBlock = some g ∨ g = w.heap.size) : EachSt K Q W (L ++ [x]) (some ⟨g, 0, none⟩) c' w' := by
  have hlen : (L ++ [x]).length = L.length + 1 := by simp
  have hf : Fr (fun b => (Value.slice p L.length c).ownBlock = some b) w w' := Fr.of_grown hg fun k hk => hk
  have hall : ∀ y ∈ L ++ [x], Q.E W.heap.size w y ∧ ∀ b, Q.Blk y b → ¬ (Value.slice p L.length c).ownBlock = some b := fun y hy => by
    rcases List.mem_append.1 hy with h1 | h1
    · exact h.each y h1
    · rw [List.mem_singleton.1 h1]
      exact ⟨hx, fun b hb => (hxo b hb).1⟩
  refine ⟨by rw [hlen]; exact hst, fun y hy => ⟨Q.fr (hall y hy).1 hf (hall y hy).2, fun b hb hb2 => ?_⟩, ?_⟩
  · rw [hlen] at hb2
    have e : b = g := by
      unfold Value.ownBlock at hb2
      simp at hb2
      omega
    subst e
    rcases hn with hn | hn
    · exact (hall y hy).2 b hb hn
    · have := (Q.blk (hall y hy).1 b hb).2
      omega
  · rw [List.pairwise_append]
    refine ⟨h.apart, List.pairwise_singleton _ _, fun y hy z hz k h1 h2 => ?_⟩
    rw [List.mem_singleton] at hz
    subst hz
    exact (hxo k h2).2 y hy h1
end
def EachPost {α β : Type} (K : Kind α) (Q : MadeK α) (key : α → β) (W : World) (l : List β) (e : Ending) (w' : World) : Prop :=
  ∃ p c L, e = .returned (.slice p L.length c) ∧ EachSt K Q W L p c w' ∧ L.map key = l
def MadePost {α β : Type} (K : Kind α) (Q : MadeK α) (key : α → β) (W : World) (l : β) (e : Ending) (w' : World) : Prop :=
  ∃ y : α, e = .returned (.agg (K.enc y).toArray) ∧ Q.E W.heap.size w' y ∧ key y = l ∧ Below W.heap.size W w'
theorem make_row {P : Program} {α : Type} (K : Kind α) (W : World) (t : TypeId) (i : TypeInfo) (z : Value) (bytes : Nat) (ht : P.underlying t = some (.slice K.T)) (hi : P.info? K.T = some i) (hz : i.zero = some z) (hsize : i.size = K.k) (hby : i.bytes = bytes) (n : Nat)
    (hn : n ≤ maxLen) (hb : n * bytes ≤ 140737488355328) :
    ∃ W', (Instr.makeSlice t (.int .i64 0) (.int .i64 (n : Int))).run P W = .ok (.slice (some ⟨W.heap.size, 0, none⟩) 0 n) W' ∧ RowSt K W.heap.size W (.slice (some ⟨W.heap.size, 0, none⟩) 0 n) [] W' := by
  obtain ⟨W', h1, h2, h3⟩ := run_make_own (P := P) W W.heap.size t K.T i z K.k ht hi hz hsize .i64 .i64 n (by rw [hby, Nat.mul_comm]; omega) hn (Nat.le_refl _)
  refine ⟨W', h1, h2, ?_, h3.size⟩
  exact (Fr.of_grown (P := fun _ => False) h3 fun k hk => by cases hk).below (Nat.le_refl _) fun k hk => hk.elim
end Go.Proofs.YtmhlcnmfbolgdaaGreat
