/-
  Texts of this claim, one behind the other: Mr1 Mr2 Mr3 Mr4 Mr5 Mpi Mq0 Pc1 Pc2 Pc3 Mq1 Pc5.
-/
import Derived.Test.YthdakljoabbghaaPb
import Derived.Test.YthdakljoabbghaaPa
import Derived.Shelf.SlSortCmp.SmallK
import Derived.Deep.RegionHeld3
import Derived.Deep.QuietTactic
import Derived.BigQuiet
import Derived.Shelf.SlicesQ.Equal
import Derived.Shelf.SlicesQ.IndexFunc
/-
  The reference's marks (stage 12): same, put, ranges, Sort and Put of keys, Touches.
-/
namespace Go.Proofs.Ythdakljoabbghaa
open Go.RowKit

theorem Try.infoRx : (Try.prog.info? 34).map (fun i => (i.zero, i.size, i.bytes)) = some (some (.agg #[.string ⟨#[]⟩, .slice none 0 0]), 2, 40) := by kernel_rfl

theorem kput12 (n0 : Nat) (v : Value) (l : List Ky) (x : Ky) (w : World) (h : KK.Own n0 w v l) (h0 : n0 ≤ w.heap.size) (hr : RisingR ltKy l) (hl : l.length < 4398046511104) :
    Calls Try.prog 31 #[v, .agg #[.string x.1, .string x.2]] w fun e w' => ∃ u, e = .returned u ∧ KK.Own n0 w' u (insR ltKy x l) ∧ Below n0 w w' := by
  have key : ∀ e w', Z.PutPost n0 l (x.1, x.2) w e w' → ∃ u, e = .returned u ∧ KK.Own n0 w' u (insR ltKy x l) ∧ Below n0 w w' := by
    rintro e w' ⟨u, r, rfl, hri, hmem, _, hown, hb⟩
    refine ⟨u, rfl, ?_, hb⟩
    have : r = insR ltKy x l := rising_uniqR totK (z_rises hri) (rising_insR totK x hr) fun z => by rw [hmem z, mem_insR]
    rw [← this]
    exact hown
  rcases h.2 with ⟨hv, hz⟩ | ⟨g, cap, cur, hv, _⟩
  · obtain rfl := List.length_eq_zero_iff.1 hz
    subst hv
    exact (Z.zput_nil n0 x.1 x.2 w h0).mono key
  · subst hv
    exact (Z.zput_own g cap n0 l x.1 x.2 w h h0 (z_rises' hr) (by omega)).mono key

/-- Two boxes that were made one behind the other. -/
theorem two_boxes (w : World) (c1 c2 : Array Value) (t1 t2 : TypeId) : Below w.heap.size w ((w.alloc (.cells c1 t1)).alloc (.cells c2 t2)) ∧ ((w.alloc (.cells c1 t1)).alloc (.cells c2 t2)).heap[w.heap.size]? = some (.cells c1 t1 (0, 0)) ∧ ((w.alloc (.cells c1 t1)).alloc (.cells c2 t2)).heap[w.heap.size + 1]? = some (.cells c2 t2 (0, 0)) ∧ ((w.alloc (.cells c1 t1)).alloc (.cells c2 t2)).heap.size = w.heap.size + 2 := by
  have hb1 : Below w.heap.size w (w.alloc (.cells c1 t1)) := (Below.refl _ _).alloc (Nat.le_refl _) _
  have hs1 : (w.alloc (.cells c1 t1)).heap.size = w.heap.size + 1 := by simp
  have hb2 : Below (w.alloc (.cells c1 t1)).heap.size (w.alloc (.cells c1 t1)) ((w.alloc (.cells c1 t1)).alloc (.cells c2 t2)) := (Below.refl _ _).alloc (Nat.le_refl _) _
  have h1 : (w.alloc (.cells c1 t1)).heap[w.heap.size]? = some (.cells c1 t1 (0, 0)) := heap_alloc_new w _
  have h2 : ((w.alloc (.cells c1 t1)).alloc (.cells c2 t2)).heap[(w.alloc (.cells c1 t1)).heap.size]? = some (.cells c2 t2 (0, 0)) := heap_alloc_new _ _
  rw [hs1] at h2
  exact ⟨bel_then hb1 hb1.size hb2, (hb2.block _ (by omega)).trans h1, h2, by simp⟩

set_option maxHeartbeats 2000000 in
set_option maxRecDepth 100000 in
theorem same12_any (a b : Rx) (w : World) (ha : a.at w) (hb : b.at w) :
    Calls Try.prog 35 #[.agg (encRx a).toArray, .agg (encRx b).toArray] w fun e w' => e = .returned (.bool (decide (a.rg = b.rg))) ∧ Below w.heap.size w w' := by
  obtain ⟨hbV, h1, h2, hs⟩ := two_boxes w (encRx a).toArray (encRx b).toArray 34 34
  obtain ⟨V, hV⟩ : ∃ V, (w.alloc (.cells (encRx a).toArray 34)).alloc (.cells (encRx b).toArray 34) = V := ⟨_, rfl⟩
  obtain ⟨M, hM⟩ : ∃ M, w.heap.size = M := ⟨_, rfl⟩
  rw [hV] at hbV h1 h2 hs
  rw [hM] at h1 h2 hs
  have HS := hid (rsameM_any a.sl b.sl a.tm b.tm V (ha.on hbV).1 (hb.on hbV).1 ha.2.1.1)
  have HB := hid hbV
  obtain ⟨at', ap, ac, am⟩ := a
  obtain ⟨bt, bp, bc, bm⟩ := b
  simp only [encRx, Rx.sl, Rx.rg] at *
  have c0 : V.cell? ⟨M, 0, none⟩ = some (.string at') := by rw [Lib.cell_of_heap h1]; rfl
  have c1 : V.cell? ⟨M, 1, none⟩ = some (.slice ap am.length ac) := by rw [Lib.cell_of_heap h1]; rfl
  have d0 : V.cell? ⟨M + 1, 0, none⟩ = some (.string bt) := by rw [Lib.cell_of_heap h2]; rfl
  have d1 : V.cell? ⟨M + 1, 1, none⟩ = some (.slice bp bm.length bc) := by rw [Lib.cell_of_heap h2]; rfl
  clear ha hb hbV h1 h2 hs
  go_enter Try.func35, Try.ntmps35
  by_cases ht : at' = bt
  · have q1 : (at'.toList == bt.toList) = true := seq_true ht
    have HD : Hid (decide ((at', am) = (bt, bm)) = decide (am = bm)) := by show _ = _; rw [ht]; simp
    clear ht
    go_wp2_with fail
    try rw [hV]
    refine HS.out.mono ?_
    rintro e w1 ⟨rfl, n, rfl⟩
    generalize decide (am = bm) = R at *
    go_wp2_with fail
    go_ret
    exact ⟨ret_bool HD.out.symm, bel_drewN HB.out n⟩
  · have q1 : (at'.toList == bt.toList) = false := seq_false ht
    have HD : Hid (decide ((at', am) = (bt, bm)) = false) := by show _ = _; rw [decide_eq_false_iff_not]; intro h; exact ht (congrArg Prod.fst h)
    clear ht
    go_wp2_with fail
    try rw [hV]
    go_ret
    exact ⟨ret_bool HD.out.symm, HB.out⟩

/-- What put leaves: the row, one longer or as it was. -/
def PutRPost (N : Nat) (W : World) (l : List Rx) (r : Rx) (e : Ending) (w' : World) : Prop :=
  ∃ p c l', e = .returned (.slice p l'.length c) ∧ RowSt KRx N W (.slice p l'.length c) l' w' ∧ l'.map Rx.rg = putR (l.map Rx.rg) r.rg ∧ ∀ x ∈ l', x ∈ l ∨ x = r

set_option maxHeartbeats 4000000 in
set_option maxRecDepth 100000 in
theorem put12_any {N : Nat} {W : World} {v : Value} {l : List Rx} {w : World} (hst : RowSt KRx N W v l w) (he : ∀ x ∈ l, x.at w) (r : Rx) (hr : r.at w) (hl : l.length < 3000000000000) :
    Calls Try.prog 34 #[v, .agg (encRx r).toArray] w fun e w' => PutRPost N W l r e w' := by
  obtain ⟨i0, hi0, hz0, hz1, hz2⟩ := info_parts Try.infoRx
  have HI0 := hid hi0
  obtain ⟨p, cap, rfl⟩ := Kind.own_shape hst.own
  obtain ⟨V, hV⟩ : ∃ V, w.alloc (.cells (encRx r).toArray 34) = V := ⟨_, rfl⟩
  obtain ⟨M, hM⟩ : ∃ M, w.heap.size = M := ⟨_, rfl⟩
  have hbV : Below w.heap.size w V := by rw [← hV]; exact (Below.refl _ _).alloc (Nat.le_refl _) _
  have hVo : V.heap[M]? = some (.cells (encRx r).toArray 34 (0, 0)) := by rw [← hV, ← hM]; exact heap_alloc_new w _
  have hVs : V.heap.size = M + 1 := by rw [← hV, ← hM]; simp
  have HST := hid (hst.on hbV)
  have HIS : Hid (∀ W', Below V.heap.size V W' → KRx.Is W' (.slice p l.length cap) l ∧ (∀ x ∈ l, x.at W') ∧ r.at W' ∧ W'.heap[M]? = V.heap[M]?) := fun W' hW => by
    have hb : Below w.heap.size w W' := bel_then hbV hbV.size hW
    exact ⟨Kind.is_kept hst.is hb, fun x hx => (he x hx).on hb, hr.on hb, hW.block M (by omega)⟩
  have HBX : Hid (∀ W' : World, W'.heap[M]? = V.heap[M]? → W'.cell? ⟨M, 0, none⟩ = some (.string r.typ) ∧ W'.cell? ⟨M, 1, none⟩ = some r.sl) := fun W' h => by
    have := h.trans hVo
    exact ⟨by rw [Lib.cell_of_heap this]; rfl, by rw [Lib.cell_of_heap this]; rfl⟩
  clear hst he hr hbV hVo hi0 hVs
  obtain ⟨rt, rp, rc, rm⟩ := r
  simp only [encRx, Rx.sl] at *
  obtain ⟨c0, c1⟩ := HBX.out V rfl
  go_enter Try.func34, Try.ntmps34
  go_wp2_with fail
  try rw [hV]
  try rw [hM]
  go_loopg [5] l.length (fun gg vi wr => ∃ i : Nat, vi = .int .i64 i ∧ i ≤ l.length ∧ l.length - i ≤ gg ∧ Hid (Below V.heap.size V wr ∧ ∀ x ∈ l.take i, x.rg ≠ (rt, rm)))
  case atStart => exact ⟨0, rfl, by omega, by omega, Below.refl _ _, fun x hx => by simp at hx⟩
  case round =>
    clear c0 c1 hV
    obtain ⟨i, rfl, hi, hgk, HI⟩ := hrel
    obtain ⟨his, hea, hra, hbx⟩ := HIS.out wr HI.out.1
    by_cases hlt : i < l.length
    · have hltz : (i : Int) < (l.length : Int) := by omega
      have hiz : (0 : Int) ≤ i := by omega
      obtain ⟨b1, o1, rfl, k1⟩ : ∃ b off, p = some ⟨b, off, none⟩ ∧ KRx.At wr b off l := by
        obtain ⟨p', c', he, h⟩ := his
        injection he with e1 _ _
        subst e1
        rcases h with h | h
        · rw [h] at hlt; simp at hlt
        · exact h
      obtain ⟨y0, y1⟩ := krx_at k1 i hlt
      obtain ⟨c0, c1⟩ := HBX.out wr hbx
      have hxa := hea _ (List.getElem_mem hlt)
      have hmem : l[i] ∈ l := List.getElem_mem hlt
      have htk : l.take (i + 1) = l.take i ++ [l[i]] := List.take_succ_eq_append_getElem hlt
      have HSM : Hid (∀ n, Calls Try.prog 35 #[.agg (encRx l[i]).toArray, .agg #[.string rt, .slice rp rm.length rc]] (wr.drewN n) fun e w' => e = .returned (.bool (decide ((l[i]).rg = (rt, rm)))) ∧ Below (wr.drewN n).heap.size (wr.drewN n) w') := fun n => same12_any l[i] ⟨rt, rp, rc, rm⟩ (wr.drewN n) (hxa.on (bel_drewN (Below.refl _ _) n)) (hra.on (bel_drewN (Below.refl _ _) n))
      have HNO : Hid (¬ (l[i]).rg = (rt, rm) → ∀ x ∈ l.take (i + 1), x.rg ≠ (rt, rm)) := fun h x hx => by
        rw [htk] at hx
        rcases List.mem_append.1 hx with hx | hx
        · exact HI.out.2 x hx
        · rw [List.mem_singleton.1 hx]; exact h
      have HYES : Hid ((l[i]).rg = (rt, rm) → putR (l.map Rx.rg) (rt, rm) = l.map Rx.rg) := fun h => by
        unfold putR
        rw [if_pos (any_mem.2 (by rw [← h]; exact List.mem_map_of_mem hmem))]
      have HBR := hid HI.out.1
      have HAT : Hid (∀ W', Below V.heap.size V W' → W'.cell? ⟨b1, o1 + i * 2, none⟩ = some (.string (l[i]).typ) ∧ W'.cell? ⟨b1, o1 + i * 2 + 1, none⟩ = some (l[i]).sl) := fun W' hW => by
        obtain ⟨his, _⟩ := HIS.out W' hW
        obtain ⟨p', c', he, h⟩ := his
        injection he with e1 _ _
        subst e1
        rcases h with h | ⟨b, off, he, h⟩
        · rw [h] at hlt; simp at hlt
        · injection he with he
          injection he with hb ho _
          subst hb ho
          exact krx_at h i hlt
      clear his hea hra hbx hxa hmem htk k1 HI
      generalize l[i] = x at *
      obtain ⟨xt, xp, xc, xm⟩ := x
      simp only [encRx, Rx.sl] at *
      go_wp2_with fail
      refine wp_region_held_drew (S := fun w' => w'.cell? ⟨b1, o1 + i * 2, none⟩ = some (.string xt) ∧ w'.cell? ⟨b1, o1 + i * 2 + 1, none⟩ = some (.slice xp xm.length xc) ∧ w'.cell? ⟨M, 0, none⟩ = some (.string rt) ∧ w'.cell? ⟨M, 1, none⟩ = some (.slice rp rm.length rc)) (by kernel_rfl) ⟨y0, y1, c0, c1⟩ (fun hHeld => ?_)
      refine take_val (i := 0) (.slice (some ⟨b1, o1, none⟩) l.length cap) rfl (by kernel_rfl) (by kernel_rfl) (by kernel_rfl) (fun _ _ _ h => h) (by rfl) (fun w hSw => by go_simp) hHeld ?_
      simp only [Act.put, List.setIfInBounds_toArray, List.set_cons_zero, List.set_cons_succ]
      refine take_val (i := 1) (.int .i64 i) rfl (by kernel_rfl) (by kernel_rfl) (by kernel_rfl) (fun _ _ _ h => h) (by rfl) (fun w hSw => by go_simp) hHeld ?_
      simp only [Act.put, List.setIfInBounds_toArray, List.set_cons_zero, List.set_cons_succ]
      refine take_val (i := 2) (.pointer (some ⟨b1, o1 + i * 2, none⟩)) rfl (by kernel_rfl) (by kernel_rfl) (by kernel_rfl) (fun _ _ _ h => h) (by rfl) (fun w hSw => by go_simp) hHeld ?_
      simp only [Act.put, List.setIfInBounds_toArray, List.set_cons_zero, List.set_cons_succ]
      refine take_val (i := 3) (.agg #[.string xt, .slice xp xm.length xc]) rfl (by kernel_rfl) (by kernel_rfl) (by kernel_rfl) (fun _ _ _ h => h) (by rfl) (fun w hSw => by go_simp) hHeld ?_
      simp only [Act.put, List.setIfInBounds_toArray, List.set_cons_zero, List.set_cons_succ]
      refine take_val (i := 4) (.agg #[.string rt, .slice rp rm.length rc]) rfl (by kernel_rfl) (by kernel_rfl) (by kernel_rfl) (fun _ _ _ h => h) (by rfl) (fun w hSw => by go_simp) hHeld ?_
      simp only [Act.put, List.setIfInBounds_toArray, List.set_cons_zero, List.set_cons_succ]
      clear hHeld y0 y1 c0 c1
      refine wpAnyH_ready (rs := [5]) (by kernel_rfl) (by simp) ?_
      refine AllReadyH.cons (at_drop0 rfl) (fun K hK => ?_) AllReadyH.nil
      rw [if_pos (by rfl)]
      go_simp
      refine (HSM.out 1).mono ?_
      rintro e w3 ⟨rfl, hb3⟩
      have hb3' : Below V.heap.size V w3 := bel_then (bel_drewN HBR.out 1) HBR.out.size hb3
      obtain ⟨his, hea, hra, hbx⟩ := HIS.out w3 hb3'
      obtain ⟨c0, c1⟩ := HBX.out w3 hbx
      obtain ⟨y0, y1⟩ := HAT.out w3 hb3'
      clear his hea hra hbx HAT
      have HB3 := hid hb3'
      have HST3 := hid (HST.out.on hb3')
      clear hb3 hb3'
      by_cases hq : (⟨xt, xp, xc, xm⟩ : Rx).rg = (rt, rm)
      · have HY := hid (HYES.out hq)
        rw [decide_eq_true hq]
        clear HNO HYES HSM hq
        go_wp2_with fail
        refine hK.out _ _ (⟨y0, y1, c0, c1⟩) (fun hHeld => ?_)
        clear hK K
        try simp only [Act.put, List.setIfInBounds_toArray, List.set_cons_zero, List.set_cons_succ]
        refine wpAnyH_done (by kernel_rfl) ?_ _
        clear hHeld y0 y1 c0 c1
        go_wp2_with fail
        go_ret
        exact ⟨_, cap, l, rfl, HST3.out, HY.out.symm, fun x hx => Or.inl hx⟩
      · have HN := hid (HNO.out hq)
        rw [decide_eq_false hq]
        clear HNO HYES HSM hq
        go_wp2_with fail
        refine hK.out _ _ (⟨y0, y1, c0, c1⟩) (fun hHeld => ?_)
        clear hK K
        try simp only [Act.put, List.setIfInBounds_toArray, List.set_cons_zero, List.set_cons_succ]
        refine wpAnyH_done (by kernel_rfl) ?_ _
        clear hHeld y0 y1 c0 c1
        go_wp2_with fail
        go_roundg (l.length - (i + 1))
        case measure => omega
        exact ⟨i + 1, by go_num, by omega, by omega, HB3.out, HN.out⟩
    · have hltz : ¬ (i : Int) < (l.length : Int) := by omega
      obtain ⟨c0, c1⟩ := HBX.out wr hbx
      have hti : l.take i = l := List.take_of_length_le (by omega)
      have hno := HI.out.2
      rw [hti] at hno
      have HNP : Hid (putR (l.map Rx.rg) (rt, rm) = l.map Rx.rg ++ [(rt, rm)]) := by
        show putR _ _ = _
        unfold putR
        rw [if_neg fun h => ?_]
        obtain ⟨x, hx, e⟩ := List.mem_map.1 (any_mem.1 h)
        exact hno x hx e
      obtain ⟨W1, hW1⟩ : ∃ W1, wr.alloc (.cells #[.string rt, .slice rp rm.length rc] 34) = W1 := ⟨_, rfl⟩
      have hb1 : Below wr.heap.size wr W1 := by rw [← hW1]; exact (Below.refl _ _).alloc (Nat.le_refl _) _
      have HN1 : Hid (W1.heap[wr.heap.size]? = some (.cells #[.string rt, .slice rp rm.length rc] 34 (0, 0))) := by rw [← hW1]; exact heap_alloc_new wr _
      have HO1 := hid ((HST.out.on HI.out.1).on hb1)
      clear his hea hra hbx hti hno hb1 HI
      go_wp2_with (at_builtin; refine wpList_push KRx rfl _ _ 23 rfl i0 _ 40 Try.underlying23 HI0.out hz0 hz1 hz2 rfl N W _ l rfl HO1.out ⟨rt, rp, rc, rm⟩ _ _ _ rfl rfl _ _ HN1.out (by unfold maxLen; omega) (by omega) ?_
                   intro g3 c3 w3 hst3 _ _
                   have HS3 := hid hst3
                   clear hst3)
      go_ret
      refine ⟨some ⟨g3, 0, none⟩, c3, l ++ [⟨rt, rp, rc, rm⟩], by rw [List.length_append]; rfl, by rw [List.length_append]; exact HS3.out, ?_, fun x hx => ?_⟩
      · rw [List.map_append]
        exact HNP.out.symm
      · rcases List.mem_append.1 hx with hx | hx
        · exact Or.inl hx
        · exact Or.inr (List.mem_singleton.1 hx)

/-- What ranges leaves: a row of its own, with the same ranges. -/
def RowRPost (W : World) (l : List Rx) (e : Ending) (w' : World) : Prop :=
  ∃ p c, e = .returned (.slice p l.length c) ∧ RowSt KRx W.heap.size W (.slice p l.length c) l w'

set_option maxHeartbeats 4000000 in
set_option maxRecDepth 100000 in
theorem ranges12_any (v : Value) (l : List Rx) (w : World) (hv : KRx.Is w v l) (hl : l.length < 3000000000000) :
    Calls Try.prog 32 #[v] w fun e w' => RowRPost w l e w' := by
  obtain ⟨i0, hi0, hz0, hz1, hz2⟩ := info_parts Try.infoRx
  have HI0 := hid hi0
  obtain ⟨p, cap, rfl, hd⟩ := hv
  have HD := hid hd
  have HST0 : Hid (RowSt KRx w.heap.size w (.slice none 0 0) (l.take 0) w) := RowSt.nil KRx (Below.refl _ _) (Nat.le_refl _)
  clear hd hi0
  go_enter Try.func32, Try.ntmps32
  go_wp2_with fail
  go_loopg [3, 4] l.length (fun gg v3 vi wr => ∃ (i : Nat) (p' : Option Addr) (c' : Nat), vi = .int .i64 i ∧ v3 = .slice p' (l.take i).length c' ∧ i ≤ l.length ∧ l.length - i ≤ gg ∧ Hid (RowSt KRx w.heap.size w (.slice p' (l.take i).length c') (l.take i) wr))
  case atStart => exact ⟨0, none, 0, rfl, rfl, by omega, by omega, HST0.out⟩
  case round =>
    clear HST0
    obtain ⟨i, p', c', rfl, rfl, hi, hgk, HI⟩ := hrel
    by_cases hlt : i < l.length
    · have hltz : (i : Int) < (l.length : Int) := by omega
      have hiz : (0 : Int) ≤ i := by omega
      obtain ⟨b1, o1, rfl, k1⟩ : ∃ b off, p = some ⟨b, off, none⟩ ∧ KRx.At w b off l := by
        rcases HD.out with h | h
        · rw [h] at hlt; simp at hlt
        · exact h
      obtain ⟨y0, y1⟩ := krx_at (Kind.at_kept k1 HI.out.bel) i hlt
      have htk : l.take (i + 1) = l.take i ++ [l[i]] := List.take_succ_eq_append_getElem hlt
      have hkl : (l.take i).length ≤ l.length := by rw [List.length_take]; omega
      have HTK := hid htk
      clear htk k1
      generalize l[i] = x at *
      generalize l.take i = a at *
      obtain ⟨xt, xp, xc, xm⟩ := x
      simp only [Rx.sl] at *
      obtain ⟨W1, hW1⟩ : ∃ W1, wr.alloc (.cells #[.string xt, .slice xp xm.length xc] 34) = W1 := ⟨_, rfl⟩
      have hb1 : Below wr.heap.size wr W1 := by rw [← hW1]; exact (Below.refl _ _).alloc (Nat.le_refl _) _
      have HN1 : Hid (W1.heap[wr.heap.size]? = some (.cells #[.string xt, .slice xp xm.length xc] 34 (0, 0))) := by rw [← hW1]; exact heap_alloc_new wr _
      have HO1 := hid (HI.out.on hb1)
      clear hb1 HI
      go_wp2_with (at_builtin; refine wpList_push KRx rfl _ _ 23 rfl i0 _ 40 Try.underlying23 HI0.out hz0 hz1 hz2 rfl w.heap.size w _ a rfl HO1.out ⟨xt, xp, xc, xm⟩ _ _ _ rfl rfl _ _ HN1.out (by unfold maxLen; omega) (by omega) ?_
                   intro g3 c3 w3 hst3 _ _
                   have HS3 := hid hst3
                   clear hst3)
      go_roundg (l.length - (i + 1))
      case measure => omega
      exact ⟨i + 1, some ⟨g3, 0, none⟩, c3, by go_num, by rw [HTK.out, List.length_append]; rfl, by omega, by omega, by rw [HTK.out, List.length_append]; exact HS3.out⟩
    · have hltz : ¬ (i : Int) < (l.length : Int) := by omega
      have hti : l.take i = l := List.take_of_length_le (by omega)
      rw [hti] at HI ⊢
      have HE := hid HI.out
      clear HI
      go_wp2_with fail
      go_ret
      exact ⟨p', c', rfl, HE.out⟩

/-- What Sort of the reference leaves: keys of its own, rising, each once. -/
def KeyRPost (W : World) (l : List Ky) (e : Ending) (w' : World) : Prop := ∃ u, e = .returned u ∧ KK.Own W.heap.size w' u l ∧ Below W.heap.size W w'

set_option maxHeartbeats 4000000 in
set_option maxRecDepth 100000 in
theorem sort12_any (v : Value) (l : List Ky) (w : World) (hv : KK.Is w v l) (hl : l.length < 4398046511104) :
    Calls Try.prog 28 #[v] w fun e w' => KeyRPost w (sortK l) e w' := by
  obtain ⟨p, cap, rfl, hd⟩ := hv
  have HD := hid hd
  have HSN : Hid (∀ i, (h : i < l.length) → sortK (l.take (i + 1)) = insR ltKy l[i] (sortK (l.take i))) := fun i h => by
    rw [List.take_succ_eq_append_getElem h]
    unfold sortK
    rw [List.foldl_append]
    rfl
  have HSL : Hid (∀ i, i ≤ l.length → (sortK (l.take i)).length ≤ l.length) := fun i h => by
    have := inss_len (l.take i) []
    rw [List.length_take, List.length_nil] at this
    unfold sortK
    omega
  clear hd
  go_enter Try.func28, Try.ntmps28
  go_wp2_with fail
  go_loopg [3, 4] l.length (fun gg v3 vi wr => ∃ i : Nat, vi = .int .i64 i ∧ i ≤ l.length ∧ l.length - i ≤ gg ∧ Hid (KK.Own w.heap.size wr v3 (sortK (l.take i)) ∧ Below w.heap.size w wr))
  case atStart => exact ⟨0, rfl, by omega, by omega, Kind.own_nil _ _ _, Below.refl _ _⟩
  case round =>
    rename_i v3 _
    obtain ⟨i, rfl, hi, hgk, HI⟩ := hrel
    by_cases hlt : i < l.length
    · have hltz : (i : Int) < (l.length : Int) := by omega
      have hiz : (0 : Int) ≤ i := by omega
      obtain ⟨b1, o1, rfl, k1⟩ : ∃ b off, p = some ⟨b, off, none⟩ ∧ KK.At w b off l := by
        rcases HD.out with h | h
        · rw [h] at hlt; simp at hlt
        · exact h
      obtain ⟨y0, y1⟩ := kk_at (Kind.at_kept k1 HI.out.2) i hlt
      have HP := hid (kput12 w.heap.size _ _ l[i] wr HI.out.1 HI.out.2.size (sortK_spec _).1 (by have := HSL.out i hi; omega))
      rw [← HSN.out i hlt] at HP
      have HB := hid HI.out.2
      clear k1 HI
      generalize l[i] = x at *
      obtain ⟨xa, xb⟩ := x
      simp only at *
      go_wp2_with fail
      refine HP.out.mono ?_
      rintro e w3 ⟨u3, rfl, ho3, hb3⟩
      have HE : Hid (KK.Own w.heap.size w3 u3 (sortK (l.take (i + 1))) ∧ Below w.heap.size w w3) := ⟨ho3, HB.out.trans hb3⟩
      clear ho3 hb3 HP
      go_wp2_with fail
      go_roundg (l.length - (i + 1))
      case measure => omega
      exact ⟨i + 1, by go_num, by omega, by omega, HE.out⟩
    · have hltz : ¬ (i : Int) < (l.length : Int) := by omega
      have hti : l.take i = l := List.take_of_length_le (by omega)
      rw [hti] at HI
      have HE := hid HI.out
      clear HI
      go_wp2_with fail
      go_ret
      exact ⟨_, rfl, HE.out⟩

set_option maxHeartbeats 4000000 in
set_option maxRecDepth 100000 in
theorem touches12_any (r : Rx) (c : Cx) (w : World) (hr : r.at w) (hc : CIn w c) :
    Calls Try.prog 24 #[.agg (encRx r).toArray, .agg (encCx c).toArray] w fun e w' => e = .returned (.bool (touchesM r.rg c.ch)) ∧ Below w.heap.size w w' := by
  obtain ⟨hbV, h1, h2, hs⟩ := two_boxes w (encRx r).toArray (encCx c).toArray 34 43
  obtain ⟨V, hV⟩ : ∃ V, (w.alloc (.cells (encRx r).toArray 34)).alloc (.cells (encCx c).toArray 43) = V := ⟨_, rfl⟩
  obtain ⟨M, hM⟩ : ∃ M, w.heap.size = M := ⟨_, rfl⟩
  rw [hV] at hbV h1 h2 hs
  rw [hM] at h1 h2 hs
  have HMT : Hid (∀ W', Below V.heap.size V W' → (Calls Try.prog 48 #[r.sl, .slice c.wp c.wo.length c.wc] W' fun e w' => e = .returned (.bool (matchM r.tm (c.wo.map Fx.fld))) ∧ Below W'.heap.size W' w') ∧ (Calls Try.prog 48 #[r.sl, .slice c.ip c.io.length c.ic] W' fun e w' => e = .returned (.bool (matchM r.tm (c.io.map Fx.fld))) ∧ Below W'.heap.size W' w')) := fun W' hW => by
    have hb : Below w.heap.size w W' := bel_then hbV hbV.size hW
    have hr' := hr.on hb
    have hc' := hc.on hb
    exact ⟨(rmatch_any _ _ r.tm c.wo W' hr'.1 hr'.2.1 hc'.was hc'.wfit).mono fun e w' q => ⟨q.1, q.2.below⟩, (rmatch_any _ _ r.tm c.io W' hr'.1 hr'.2.1 hc'.is hc'.ifit).mono fun e w' q => ⟨q.1, q.2.below⟩⟩
  have HB := hid hbV
  have HBX : Hid (∀ W' : World, Below V.heap.size V W' → (W'.cell? ⟨M, 0, none⟩ = some (.string r.typ) ∧ W'.cell? ⟨M, 1, none⟩ = some r.sl) ∧ W'.cell? ⟨M + 1, 0, none⟩ = some (.string c.a) ∧ W'.cell? ⟨M + 1, 1, none⟩ = some (.string c.b) ∧ W'.cell? ⟨M + 1, 2, none⟩ = some (.bool c.wl) ∧ W'.cell? ⟨M + 1, 3, none⟩ = some (.slice c.wp c.wo.length c.wc) ∧ W'.cell? ⟨M + 1, 4, none⟩ = some (.bool c.il) ∧ W'.cell? ⟨M + 1, 5, none⟩ = some (.slice c.ip c.io.length c.ic)) := fun W' hW => by
    have e1 := (hW.block M (by omega)).trans h1
    have e2 := (hW.block (M + 1) (by omega)).trans h2
    exact ⟨⟨by rw [Lib.cell_of_heap e1]; rfl, by rw [Lib.cell_of_heap e1]; rfl⟩, by rw [Lib.cell_of_heap e2]; rfl, by rw [Lib.cell_of_heap e2]; rfl, by rw [Lib.cell_of_heap e2]; rfl, by rw [Lib.cell_of_heap e2]; rfl, by rw [Lib.cell_of_heap e2]; rfl, by rw [Lib.cell_of_heap e2]; rfl⟩
  clear hr hc hbV h1 h2 hs
  obtain ⟨rt, rp, rc, rm⟩ := r
  obtain ⟨ca, cb, wl, wp, wc, wo, il, ip, ic, io⟩ := c
  have HTV : Hid (∀ R1 R2, matchM rm (wo.map Fx.fld) = R1 → matchM rm (io.map Fx.fld) = R2 → touchesM (⟨rt, rp, rc, rm⟩ : Rx).rg (⟨ca, cb, wl, wp, wc, wo, il, ip, ic, io⟩ : Cx).ch = (decide (rt = ca) && ((wl && R1) || (il && R2)))) := by rintro _ _ rfl rfl; rfl
  generalize touchesM (⟨rt, rp, rc, rm⟩ : Rx).rg (⟨ca, cb, wl, wp, wc, wo, il, ip, ic, io⟩ : Cx).ch = TT at *
  simp only [encRx, encCx, Rx.sl] at *
  obtain ⟨⟨a0, a1⟩, b0, b1, b2, b3, b4, b5⟩ := HBX.out V (Below.refl _ _)
  go_enter Try.func24, Try.ntmps24
  by_cases ht : rt = ca
  · have q1 : (rt.toList == ca.toList) = true := seq_true ht
    have q2 : (rt.toList != ca.toList) = false := by simp [bne, q1]
    obtain ⟨R1, hR1⟩ : ∃ R1, matchM rm (wo.map Fx.fld) = R1 := ⟨_, rfl⟩
    obtain ⟨R2, hR2⟩ : ∃ R2, matchM rm (io.map Fx.fld) = R2 := ⟨_, rfl⟩
    have HT := hid (HTV.out R1 R2 hR1 hR2)
    rw [decide_eq_true ht] at HT
    rw [hR1, hR2] at HMT
    clear ht hR1 hR2 HTV
    obtain ⟨HM1, HM2⟩ := HMT.out V (Below.refl _ _)
    have H1 := hid HM1
    have H2 := hid HM2
    have HM3 : Hid (∀ W', Below V.heap.size V W' → Calls Try.prog 48 #[.slice rp rm.length rc, .slice ip io.length ic] W' fun e w' => e = .returned (.bool R2) ∧ Below W'.heap.size W' w') := fun W' hW => (HMT.out W' hW).2
    clear HM1 HM2 HMT
    cases wl with
    | true =>
      go_wp2_with fail
      try rw [hV]
      refine H1.out.mono ?_
      rintro e w1 ⟨rfl, hb1⟩
      have HB1 := hid (bel_then HB.out HB.out.size hb1)
      have H3 := hid (HM3.out w1 hb1)
      obtain ⟨⟨a0, a1⟩, b0, b1, b2, b3, b4, b5⟩ := HBX.out w1 hb1
      clear hb1 H1 H2 HM3
      cases R1 with
      | true =>
        go_wp2_with fail
        go_ret
        exact ⟨ret_bool HT.out.symm, HB1.out⟩
      | false =>
        cases il with
        | true =>
          go_wp2_with fail
          refine H3.out.mono ?_
          rintro e w2 ⟨rfl, hb2⟩
          have HB2 := hid (bel_then HB1.out HB1.out.size hb2)
          clear hb2 H3
          go_wp2_with fail
          go_ret
          exact ⟨ret_bool (by rw [HT.out]; cases R2 <;> rfl), HB2.out⟩
        | false =>
          go_wp2_with fail
          go_ret
          exact ⟨ret_bool HT.out.symm, HB1.out⟩
    | false =>
      cases il with
      | true =>
        go_wp2_with fail
        try rw [hV]
        refine H2.out.mono ?_
        rintro e w2 ⟨rfl, hb2⟩
        have HB2 := hid (bel_then HB.out HB.out.size hb2)
        clear hb2 H1 H2 HM3
        go_wp2_with fail
        go_ret
        exact ⟨ret_bool (by rw [HT.out]; cases R2 <;> rfl), HB2.out⟩
      | false =>
        go_wp2_with fail
        try rw [hV]
        go_ret
        exact ⟨ret_bool HT.out.symm, HB.out⟩
  · have q1 : (rt.toList == ca.toList) = false := seq_false ht
    have q2 : (rt.toList != ca.toList) = true := by simp [bne, q1]
    have HT := hid (HTV.out _ _ rfl rfl)
    rw [decide_eq_false ht] at HT
    clear ht HTV
    go_wp2_with fail
    try rw [hV]
    go_ret
    exact ⟨ret_bool HT.out.symm, HB.out⟩

end Go.Proofs.Ythdakljoabbghaa

/-
  The reference's marks (stage 12): Hit, Hits, Which, Equal.
-/
namespace Go.Proofs.Ythdakljoabbghaa
open Go.RowKit

def FewM (m : Mx) : Prop := m.ks.length < 1500000000000 ∧ m.rs.length < 1500000000000
/-- As many as may come in. -/
def LenM (m : Mx) : Prop := m.ks.length < 4500000000000 ∧ m.rs.length < 4500000000000
/-- As many as the sizes of what came in leave. -/
def LotM (m : Mx) : Prop := m.ks.length ≤ 4398046511000 ∧ m.rs.length ≤ 3518437208800
theorem FewM.lot {m : Mx} (h : FewM m) : LotM m := ⟨Nat.le_trans (Nat.le_of_lt h.1) (by decide), Nat.le_trans (Nat.le_of_lt h.2) (by decide)⟩
theorem FewM.len {m : Mx} (h : FewM m) : LenM m := ⟨Nat.lt_trans h.1 (by decide), Nat.lt_trans h.2 (by decide)⟩

set_option maxHeartbeats 8000000 in
set_option maxRecDepth 100000 in
theorem hit12_any (m : Mx) (c : Cx) (w : World) (hm : MIn w m) (hw : LenM m) (hc : CIn w c) :
    Calls Try.prog 46 #[.agg (encMx m).toArray, .agg (encCx c).toArray] w fun e w' => e = .returned (.bool (hitM m.mk' c.ch)) ∧ Below w.heap.size w w' := by
  obtain ⟨hbV, h1, h2, hs⟩ := two_boxes w (encMx m).toArray (encCx c).toArray 25 43
  obtain ⟨V, hV⟩ : ∃ V, (w.alloc (.cells (encMx m).toArray 25)).alloc (.cells (encCx c).toArray 43) = V := ⟨_, rfl⟩
  obtain ⟨M, hM⟩ : ∃ M, w.heap.size = M := ⟨_, rfl⟩
  rw [hV] at hbV h1 h2 hs
  rw [hM] at h1 h2 hs
  have HIN : Hid (∀ W', Below V.heap.size V W' → MIn W' m ∧ CIn W' c ∧ Below w.heap.size w W') := fun W' hW => by
    have hb : Below w.heap.size w W' := bel_then hbV hbV.size hW
    exact ⟨hm.on hb, hc.on hb, hb⟩
  have HBX : Hid (∀ W' : World, Below V.heap.size V W' → (W'.cell? ⟨M, 0, none⟩ = some m.ksl ∧ W'.cell? ⟨M, 1, none⟩ = some m.rsl) ∧ W'.cell? ⟨M + 1, 0, none⟩ = some (.string c.a) ∧ W'.cell? ⟨M + 1, 1, none⟩ = some (.string c.b) ∧ W'.cell? ⟨M + 1, 2, none⟩ = some (.bool c.wl) ∧ W'.cell? ⟨M + 1, 3, none⟩ = some (.slice c.wp c.wo.length c.wc) ∧ W'.cell? ⟨M + 1, 4, none⟩ = some (.bool c.il) ∧ W'.cell? ⟨M + 1, 5, none⟩ = some (.slice c.ip c.io.length c.ic)) := fun W' hW => by
    have e1 := (hW.block M (by omega)).trans h1
    have e2 := (hW.block (M + 1) (by omega)).trans h2
    exact ⟨⟨by rw [Lib.cell_of_heap e1]; rfl, by rw [Lib.cell_of_heap e1]; rfl⟩, by rw [Lib.cell_of_heap e2]; rfl, by rw [Lib.cell_of_heap e2]; rfl, by rw [Lib.cell_of_heap e2]; rfl, by rw [Lib.cell_of_heap e2]; rfl, by rw [Lib.cell_of_heap e2]; rfl, by rw [Lib.cell_of_heap e2]; rfl⟩
  have HTT : Hid (∀ W' r, Below V.heap.size V W' → r ∈ m.rs → Calls Try.prog 24 #[.agg (encRx r).toArray, .agg (encCx c).toArray] W' fun e w' => e = .returned (.bool (touchesM r.rg c.ch)) ∧ Below W'.heap.size W' w') := fun W' r hW hr => touches12_any r c W' (((HIN.out W' hW).1).each r hr) (HIN.out W' hW).2.1
  have HK1 : Hid (∀ k ∈ m.ks, k = c.ch.key → hitM m.mk' c.ch = true) := fun k hk he => by
    unfold hitM
    rw [Bool.or_eq_true]
    exact Or.inl (List.any_eq_true.2 ⟨k, hk, by simp [he]⟩)
  have HK2 : Hid (∀ r ∈ m.rs, touchesM r.rg c.ch = true → hitM m.mk' c.ch = true) := fun r hr he => by
    unfold hitM
    rw [Bool.or_eq_true]
    exact Or.inr (List.any_eq_true.2 ⟨r.rg, List.mem_map_of_mem hr, he⟩)
  have HK3 : Hid ((∀ k ∈ m.ks, k ≠ c.ch.key) → (∀ r ∈ m.rs, touchesM r.rg c.ch = false) → hitM m.mk' c.ch = false) := fun q1 q2 => by
    cases hh : hitM m.mk' c.ch with
    | false => rfl
    | true =>
      unfold hitM at hh
      rw [Bool.or_eq_true] at hh
      rcases hh with hh | hh
      · obtain ⟨k, hk, he⟩ := List.any_eq_true.1 hh
        exact absurd (of_decide_eq_true he) (q1 k hk)
      · obtain ⟨r, hr, he⟩ := List.any_eq_true.1 hh
        obtain ⟨x, hx, rfl⟩ := List.mem_map.1 hr
        rw [q2 x hx] at he
        cases he
  obtain ⟨hw1, hw2⟩ := hw
  generalize hTM : hitM m.mk' c.ch = TT at *
  clear hm hc hbV h1 h2 hs hTM
  obtain ⟨kp, kc, ks, rp, rc, rs⟩ := m
  obtain ⟨ca, cb, wl, wp, wc, wo, il, ip, ic, io⟩ := c
  simp only [encMx, encCx, Mx.ksl, Mx.rsl] at *
  obtain ⟨⟨a0, a1⟩, b0, b1, b2, b3, b4, b5⟩ := HBX.out V (Below.refl _ _)
  go_enter Try.func46, Try.ntmps46
  go_wp2_with fail
  try rw [hV]
  try rw [hM]
  clear a0 a1 b0 b1 b2 b3 b4 b5 hV
  go_loopg [5] ks.length (fun gg vi wr => ∃ i : Nat, vi = .int .i64 i ∧ i ≤ ks.length ∧ ks.length - i ≤ gg ∧ Hid (Below V.heap.size V wr ∧ ∀ x ∈ ks.take i, x ≠ (ca, cb)))
  case atStart => exact ⟨0, rfl, by omega, by omega, Below.refl _ _, fun x hx => by simp at hx⟩
  case round =>
    obtain ⟨i, rfl, hi, hgk, HI⟩ := hrel
    obtain ⟨⟨a0, a1⟩, b0, b1, b2, b3, b4, b5⟩ := HBX.out wr HI.out.1
    by_cases hlt : i < ks.length
    · have hltz : (i : Int) < (ks.length : Int) := by omega
      have hiz : (0 : Int) ≤ i := by omega
      obtain ⟨b7, o7, rfl, k7⟩ : ∃ b off, kp = some ⟨b, off, none⟩ ∧ KK.At wr b off ks := by
        obtain ⟨p', c', he, h⟩ := (HIN.out wr HI.out.1).1.keys
        injection he with e1 _ _
        subst e1
        rcases h with h | h
        · have h' : ks = [] := h
          rw [h'] at hlt; simp at hlt
        · exact h
      obtain ⟨y0, y1⟩ := kk_at k7 i hlt
      have hmem : ks[i] ∈ ks := List.getElem_mem hlt
      have htk : ks.take (i + 1) = ks.take i ++ [ks[i]] := List.take_succ_eq_append_getElem hlt
      have HNO : Hid (¬ ks[i] = (ca, cb) → ∀ x ∈ ks.take (i + 1), x ≠ (ca, cb)) := fun h x hx => by
        rw [htk] at hx
        rcases List.mem_append.1 hx with hx | hx
        · exact HI.out.2 x hx
        · rw [List.mem_singleton.1 hx]; exact h
      have HYES : Hid (ks[i] = (ca, cb) → TT = true) := fun h => HK1.out _ hmem h
      have HB := hid HI.out.1
      clear k7 hmem htk HI
      generalize ks[i] = x at *
      obtain ⟨xa, xb⟩ := x
      simp only at *
      have heq := fun W => Z.eql_key xa xb ca cb W
      rw [Z.eqK_iff (xa, xb) (ca, cb)] at heq
      by_cases hq : (xa, xb) = (ca, cb)
      · rw [decide_eq_true hq] at heq
        have HT := hid (HYES.out hq)
        have HE := hid (HIN.out wr.drew (bel_drewN HB.out 1)).2.2
        clear hq HNO HYES
        go_wp2_with fail
        refine wp_region_held_drew (S := fun w' => w'.cell? ⟨M, 0, none⟩ = some (.slice (some ⟨b7, o7, none⟩) ks.length kc) ∧ w'.cell? ⟨b7, o7 + i * 2, none⟩ = some (.string xa) ∧ w'.cell? ⟨b7, o7 + i * 2 + 1, none⟩ = some (.string xb) ∧ w'.cell? ⟨M + 1, 0, none⟩ = some (.string ca) ∧ w'.cell? ⟨M + 1, 1, none⟩ = some (.string cb)) (by kernel_rfl) ⟨a0, y0, y1, b0, b1⟩ (fun hHeld => ?_)
        refine take_val (i := 0) (.pointer (some ⟨M, 0, none⟩)) rfl (by kernel_rfl) (by kernel_rfl) (by kernel_rfl) (fun _ _ _ h => h) (by rfl) (fun w hSw => by go_simp) hHeld ?_
        simp only [Act.put, List.setIfInBounds_toArray, List.set_cons_zero, List.set_cons_succ]
        refine take_val (i := 1) (.slice (some ⟨b7, o7, none⟩) ks.length kc) rfl (by kernel_rfl) (by kernel_rfl) (by kernel_rfl) (fun _ _ _ h => h) (by rfl) (fun w hSw => by go_simp) hHeld ?_
        simp only [Act.put, List.setIfInBounds_toArray, List.set_cons_zero, List.set_cons_succ]
        refine take_val (i := 2) (.int .i64 i) rfl (by kernel_rfl) (by kernel_rfl) (by kernel_rfl) (fun _ _ _ h => h) (by rfl) (fun w hSw => by go_simp) hHeld ?_
        simp only [Act.put, List.setIfInBounds_toArray, List.set_cons_zero, List.set_cons_succ]
        refine take_val (i := 3) (.pointer (some ⟨b7, o7 + i * 2, none⟩)) rfl (by kernel_rfl) (by kernel_rfl) (by kernel_rfl) (fun _ _ _ h => h) (by rfl) (fun w hSw => by go_simp) hHeld ?_
        simp only [Act.put, List.setIfInBounds_toArray, List.set_cons_zero, List.set_cons_succ]
        refine take_val (i := 4) (.agg #[.string xa, .string xb]) rfl (by kernel_rfl) (by kernel_rfl) (by kernel_rfl) (fun _ _ _ h => h) (by rfl) (fun w hSw => by go_simp) hHeld ?_
        simp only [Act.put, List.setIfInBounds_toArray, List.set_cons_zero, List.set_cons_succ]
        refine take_val (i := 5) (.pointer (some ⟨M + 1, 0, none⟩)) rfl (by kernel_rfl) (by kernel_rfl) (by kernel_rfl) (fun _ _ _ h => h) (by rfl) (fun w hSw => by go_simp) hHeld ?_
        simp only [Act.put, List.setIfInBounds_toArray, List.set_cons_zero, List.set_cons_succ]
        refine take_val (i := 6) (.agg #[.string ca, .string cb]) rfl (by kernel_rfl) (by kernel_rfl) (by kernel_rfl) (fun _ _ _ h => h) (by rfl) (fun w hSw => by go_simp) hHeld ?_
        simp only [Act.put, List.setIfInBounds_toArray, List.set_cons_zero, List.set_cons_succ]
        refine take_val (i := 7) (.bool true) rfl (by kernel_rfl) (by kernel_rfl) (by kernel_rfl) (fun _ _ _ h => h) (by rfl) (fun w hSw => by go_simp) hHeld ?_
        simp only [Act.put, List.setIfInBounds_toArray, List.set_cons_zero, List.set_cons_succ]
        refine wpAnyH_done (by kernel_rfl) ?_ _
        clear hHeld heq
        go_wp2_with fail
        go_ret
        first | exact ⟨ret_bool HT.out.symm, HE.out⟩ | exact ⟨ret_bool HT.out.symm, by rw [← hM]; exact HE.out⟩
      · rw [decide_eq_false hq] at heq
        have HN := hid (HNO.out hq)
        have HE := hid (bel_drewN HB.out 1)
        clear hq HNO HYES
        go_wp2_with fail
        refine wp_region_held_drew (S := fun w' => w'.cell? ⟨M, 0, none⟩ = some (.slice (some ⟨b7, o7, none⟩) ks.length kc) ∧ w'.cell? ⟨b7, o7 + i * 2, none⟩ = some (.string xa) ∧ w'.cell? ⟨b7, o7 + i * 2 + 1, none⟩ = some (.string xb) ∧ w'.cell? ⟨M + 1, 0, none⟩ = some (.string ca) ∧ w'.cell? ⟨M + 1, 1, none⟩ = some (.string cb)) (by kernel_rfl) ⟨a0, y0, y1, b0, b1⟩ (fun hHeld => ?_)
        refine take_val (i := 0) (.pointer (some ⟨M, 0, none⟩)) rfl (by kernel_rfl) (by kernel_rfl) (by kernel_rfl) (fun _ _ _ h => h) (by rfl) (fun w hSw => by go_simp) hHeld ?_
        simp only [Act.put, List.setIfInBounds_toArray, List.set_cons_zero, List.set_cons_succ]
        refine take_val (i := 1) (.slice (some ⟨b7, o7, none⟩) ks.length kc) rfl (by kernel_rfl) (by kernel_rfl) (by kernel_rfl) (fun _ _ _ h => h) (by rfl) (fun w hSw => by go_simp) hHeld ?_
        simp only [Act.put, List.setIfInBounds_toArray, List.set_cons_zero, List.set_cons_succ]
        refine take_val (i := 2) (.int .i64 i) rfl (by kernel_rfl) (by kernel_rfl) (by kernel_rfl) (fun _ _ _ h => h) (by rfl) (fun w hSw => by go_simp) hHeld ?_
        simp only [Act.put, List.setIfInBounds_toArray, List.set_cons_zero, List.set_cons_succ]
        refine take_val (i := 3) (.pointer (some ⟨b7, o7 + i * 2, none⟩)) rfl (by kernel_rfl) (by kernel_rfl) (by kernel_rfl) (fun _ _ _ h => h) (by rfl) (fun w hSw => by go_simp) hHeld ?_
        simp only [Act.put, List.setIfInBounds_toArray, List.set_cons_zero, List.set_cons_succ]
        refine take_val (i := 4) (.agg #[.string xa, .string xb]) rfl (by kernel_rfl) (by kernel_rfl) (by kernel_rfl) (fun _ _ _ h => h) (by rfl) (fun w hSw => by go_simp) hHeld ?_
        simp only [Act.put, List.setIfInBounds_toArray, List.set_cons_zero, List.set_cons_succ]
        refine take_val (i := 5) (.pointer (some ⟨M + 1, 0, none⟩)) rfl (by kernel_rfl) (by kernel_rfl) (by kernel_rfl) (fun _ _ _ h => h) (by rfl) (fun w hSw => by go_simp) hHeld ?_
        simp only [Act.put, List.setIfInBounds_toArray, List.set_cons_zero, List.set_cons_succ]
        refine take_val (i := 6) (.agg #[.string ca, .string cb]) rfl (by kernel_rfl) (by kernel_rfl) (by kernel_rfl) (fun _ _ _ h => h) (by rfl) (fun w hSw => by go_simp) hHeld ?_
        simp only [Act.put, List.setIfInBounds_toArray, List.set_cons_zero, List.set_cons_succ]
        refine take_val (i := 7) (.bool false) rfl (by kernel_rfl) (by kernel_rfl) (by kernel_rfl) (fun _ _ _ h => h) (by rfl) (fun w hSw => by go_simp) hHeld ?_
        simp only [Act.put, List.setIfInBounds_toArray, List.set_cons_zero, List.set_cons_succ]
        refine wpAnyH_done (by kernel_rfl) ?_ _
        clear hHeld heq
        go_wp2_with fail
        go_roundg (ks.length - (i + 1))
        case measure => omega
        exact ⟨i + 1, by go_num, by omega, by omega, HE.out, HN.out⟩
    · have hltz : ¬ (i : Int) < (ks.length : Int) := by omega
      have hti : ks.take i = ks := List.take_of_length_le (by omega)
      have HNK := hid HI.out.2
      rw [hti] at HNK
      obtain ⟨W1, hW1⟩ : ∃ W1, wr = W1 := ⟨_, rfl⟩
      rw [hW1] at HI a0 a1 b0 b1 b2 b3 b4 b5 ⊢
      have HB1 := hid HI.out.1
      clear hti HI hW1
      go_wp2_with fail
      clear hltz hi hgk hlt a0 a1 b0 b1 b2 b3 b4 b5
      go_loopg [6] rs.length (fun gg vi wr => ∃ i : Nat, vi = .int .i64 i ∧ i ≤ rs.length ∧ rs.length - i ≤ gg ∧ Hid (Below V.heap.size V wr ∧ ∀ x ∈ rs.take i, touchesM x.rg (⟨ca, cb, wl, wp, wc, wo, il, ip, ic, io⟩ : Cx).ch = false))
      case atStart => exact ⟨0, rfl, by omega, by omega, HB1.out, fun x hx => by simp at hx⟩
      case round =>
        clear HB1
        obtain ⟨i, rfl, hi, hgk, HI⟩ := hrel
        obtain ⟨⟨a0, a1⟩, b0, b1, b2, b3, b4, b5⟩ := HBX.out wr HI.out.1
        by_cases hlt : i < rs.length
        · have hltz : (i : Int) < (rs.length : Int) := by omega
          have hiz : (0 : Int) ≤ i := by omega
          obtain ⟨b7, o7, rfl, k7⟩ : ∃ b off, rp = some ⟨b, off, none⟩ ∧ KRx.At wr b off rs := by
            obtain ⟨p', c', he, h⟩ := (HIN.out wr HI.out.1).1.rows
            injection he with e1 _ _
            subst e1
            rcases h with h | h
            · have h' : rs = [] := h
              rw [h'] at hlt; simp at hlt
            · exact h
          obtain ⟨y0, y1⟩ := krx_at k7 i hlt
          have hmem : rs[i] ∈ rs := List.getElem_mem hlt
          have htk : rs.take (i + 1) = rs.take i ++ [rs[i]] := List.take_succ_eq_append_getElem hlt
          have HAT : Hid (∀ W', Below wr.heap.size wr W' → W'.cell? ⟨b7, o7 + i * 2, none⟩ = some (.string (rs[i]).typ) ∧ W'.cell? ⟨b7, o7 + i * 2 + 1, none⟩ = some (rs[i]).sl) := fun W' hW => krx_at (Kind.at_kept k7 hW) i hlt
          have HCT := hid (HTT.out wr.drew rs[i] (bel_drewN HI.out.1 1) hmem)
          have HNO : Hid (touchesM (rs[i]).rg (⟨ca, cb, wl, wp, wc, wo, il, ip, ic, io⟩ : Cx).ch = false → ∀ x ∈ rs.take (i + 1), touchesM x.rg (⟨ca, cb, wl, wp, wc, wo, il, ip, ic, io⟩ : Cx).ch = false) := fun h x hx => by
            rw [htk] at hx
            rcases List.mem_append.1 hx with hx | hx
            · exact HI.out.2 x hx
            · rw [List.mem_singleton.1 hx]; exact h
          have HYES : Hid (touchesM (rs[i]).rg (⟨ca, cb, wl, wp, wc, wo, il, ip, ic, io⟩ : Cx).ch = true → TT = true) := fun h => HK2.out _ hmem h
          have HB := hid HI.out.1
          clear k7 hmem htk HI
          generalize rs[i] = x at *
          obtain ⟨xt, xp, xc, xm⟩ := x
          simp only [encRx, Rx.sl] at *
          go_wp2_with fail
          refine wp_region_held_drew (S := fun w' => w'.cell? ⟨M, 1, none⟩ = some (.slice (some ⟨b7, o7, none⟩) rs.length rc) ∧ w'.cell? ⟨b7, o7 + i * 2, none⟩ = some (.string xt) ∧ w'.cell? ⟨b7, o7 + i * 2 + 1, none⟩ = some (.slice xp xm.length xc) ∧ w'.cell? ⟨M + 1, 0, none⟩ = some (.string ca) ∧ w'.cell? ⟨M + 1, 1, none⟩ = some (.string cb) ∧ w'.cell? ⟨M + 1, 2, none⟩ = some (.bool wl) ∧ w'.cell? ⟨M + 1, 3, none⟩ = some (.slice wp wo.length wc) ∧ w'.cell? ⟨M + 1, 4, none⟩ = some (.bool il) ∧ w'.cell? ⟨M + 1, 5, none⟩ = some (.slice ip io.length ic)) (by kernel_rfl) ⟨a1, y0, y1, b0, b1, b2, b3, b4, b5⟩ (fun hHeld => ?_)
          refine take_val (i := 0) (.pointer (some ⟨M, 1, none⟩)) rfl (by kernel_rfl) (by kernel_rfl) (by kernel_rfl) (fun _ _ _ h => h) (by rfl) (fun w hSw => by go_simp) hHeld ?_
          simp only [Act.put, List.setIfInBounds_toArray, List.set_cons_zero, List.set_cons_succ]
          refine take_val (i := 1) (.slice (some ⟨b7, o7, none⟩) rs.length rc) rfl (by kernel_rfl) (by kernel_rfl) (by kernel_rfl) (fun _ _ _ h => h) (by rfl) (fun w hSw => by go_simp) hHeld ?_
          simp only [Act.put, List.setIfInBounds_toArray, List.set_cons_zero, List.set_cons_succ]
          refine take_val (i := 2) (.int .i64 i) rfl (by kernel_rfl) (by kernel_rfl) (by kernel_rfl) (fun _ _ _ h => h) (by rfl) (fun w hSw => by go_simp) hHeld ?_
          simp only [Act.put, List.setIfInBounds_toArray, List.set_cons_zero, List.set_cons_succ]
          refine take_val (i := 3) (.pointer (some ⟨b7, o7 + i * 2, none⟩)) rfl (by kernel_rfl) (by kernel_rfl) (by kernel_rfl) (fun _ _ _ h => h) (by rfl) (fun w hSw => by go_simp) hHeld ?_
          simp only [Act.put, List.setIfInBounds_toArray, List.set_cons_zero, List.set_cons_succ]
          refine take_val (i := 4) (.agg #[.string xt, .slice xp xm.length xc]) rfl (by kernel_rfl) (by kernel_rfl) (by kernel_rfl) (fun _ _ _ h => h) (by rfl) (fun w hSw => by go_simp) hHeld ?_
          simp only [Act.put, List.setIfInBounds_toArray, List.set_cons_zero, List.set_cons_succ]
          refine take_val (i := 5) (.agg #[.string ca, .string cb, .bool wl, .slice wp wo.length wc, .bool il, .slice ip io.length ic]) rfl (by kernel_rfl) (by kernel_rfl) (by kernel_rfl) (fun _ _ _ h => h) (by rfl) (fun w hSw => by go_simp) hHeld ?_
          simp only [Act.put, List.setIfInBounds_toArray, List.set_cons_zero, List.set_cons_succ]
          clear hHeld y0 y1 a0 a1 b0 b1 b2 b3 b4 b5
          refine wpAnyH_ready (rs := [6]) (by kernel_rfl) (by simp) ?_
          refine AllReadyH.cons (at_drop0 rfl) (fun K hK => ?_) AllReadyH.nil
          rw [if_pos (by rfl)]
          go_simp
          refine HCT.out.mono ?_
          rintro e w3 ⟨rfl, hb3⟩
          have hbr : Below wr.heap.size wr w3 := (bel_drewN (Below.refl _ _) 1).trans hb3
          have hb3' : Below V.heap.size V w3 := bel_then HB.out HB.out.size hbr
          obtain ⟨y0, y1⟩ := HAT.out w3 hbr
          obtain ⟨⟨a0, a1⟩, b0, b1, b2, b3, b4, b5⟩ := HBX.out w3 hb3'
          have HB3 := hid hb3'
          have HE := hid (HIN.out w3 hb3').2.2
          clear hb3 hbr hb3' HCT HAT
          cases hq : touchesM (⟨xt, xp, xc, xm⟩ : Rx).rg (⟨ca, cb, wl, wp, wc, wo, il, ip, ic, io⟩ : Cx).ch with
          | true =>
            have HT := hid (HYES.out hq)
            clear hq HNO HYES
            go_wp2_with fail
            refine hK.out _ _ (⟨a1, y0, y1, b0, b1, b2, b3, b4, b5⟩) (fun hHeld => ?_)
            clear hK K
            try simp only [Act.put, List.setIfInBounds_toArray, List.set_cons_zero, List.set_cons_succ]
            refine wpAnyH_done (by kernel_rfl) ?_ _
            clear hHeld
            go_wp2_with fail
            go_ret
            first | exact ⟨ret_bool HT.out.symm, HE.out⟩ | exact ⟨ret_bool HT.out.symm, by rw [← hM]; exact HE.out⟩
          | false =>
            have HN := hid (HNO.out hq)
            clear hq HNO HYES
            go_wp2_with fail
            refine hK.out _ _ (⟨a1, y0, y1, b0, b1, b2, b3, b4, b5⟩) (fun hHeld => ?_)
            clear hK K
            try simp only [Act.put, List.setIfInBounds_toArray, List.set_cons_zero, List.set_cons_succ]
            refine wpAnyH_done (by kernel_rfl) ?_ _
            clear hHeld
            go_wp2_with fail
            go_roundg (rs.length - (i + 1))
            case measure => omega
            exact ⟨i + 1, by go_num, by omega, by omega, HB3.out, HN.out⟩
        · have hltz : ¬ (i : Int) < (rs.length : Int) := by omega
          have hti : rs.take i = rs := List.take_of_length_le (by omega)
          have hno := HI.out.2
          rw [hti] at hno
          have HT := hid (HK3.out HNK.out hno)
          have HE := hid (HIN.out wr HI.out.1).2.2
          clear hti hno HI
          go_wp2_with fail
          go_ret
          first | exact ⟨ret_bool HT.out.symm, HE.out⟩ | exact ⟨ret_bool HT.out.symm, by rw [← hM]; exact HE.out⟩

theorem keys_isZ12 {w : World} {v : Value} {d : List Ky} (h : KK.Is w v d) : Z.IsKeys w v d := by
  obtain ⟨p, c, rfl, h⟩ := h
  refine ⟨p, c, rfl, ?_⟩
  rcases h with h | ⟨b, off, rfl, h⟩
  · exact Or.inl h
  · exact Or.inr ⟨b, off, rfl, fun i hi => kk_at h i hi⟩

/-- One box. -/
theorem one_box (w : World) (c : Array Value) (t : TypeId) : Below w.heap.size w (w.alloc (.cells c t)) ∧ (w.alloc (.cells c t)).heap[w.heap.size]? = some (.cells c t (0, 0)) ∧ (w.alloc (.cells c t)).heap.size = w.heap.size + 1 :=
  ⟨(Below.refl _ _).alloc (Nat.le_refl _) _, heap_alloc_new w _, by simp⟩

set_option maxHeartbeats 8000000 in
set_option maxRecDepth 100000 in
theorem hits12_any (m : Mx) (v : Value) (l : List Cx) (w : World) (hm : MIn w m) (hw : LenM m) (hv : KCx.Is w v l) (hc : ∀ c ∈ l, CIn w c) (hl : l.length ≤ 9000000000000000000) :
    Calls Try.prog 20 #[.agg (encMx m).toArray, v] w fun e w' => e = .returned (.bool (hitsM m.mk' (l.map Cx.ch))) ∧ Below w.heap.size w w' := by
  obtain ⟨hbV, h1, hs⟩ := one_box w (encMx m).toArray 25
  obtain ⟨V, hV⟩ : ∃ V, w.alloc (.cells (encMx m).toArray 25) = V := ⟨_, rfl⟩
  obtain ⟨M, hM⟩ : ∃ M, w.heap.size = M := ⟨_, rfl⟩
  rw [hV] at hbV h1 hs
  rw [hM] at h1 hs
  obtain ⟨p, cap, rfl, _⟩ := id hv
  have HIN : Hid (∀ W', Below V.heap.size V W' → MIn W' m ∧ KCx.Is W' (.slice p l.length cap) l ∧ (∀ c ∈ l, CIn W' c) ∧ Below w.heap.size w W' ∧ W'.cell? ⟨M, 0, none⟩ = some m.ksl ∧ W'.cell? ⟨M, 1, none⟩ = some m.rsl) := fun W' hW => by
    have hb : Below w.heap.size w W' := bel_then hbV hbV.size hW
    have e1 := (hW.block M (by omega)).trans h1
    exact ⟨hm.on hb, Kind.is_kept hv hb, fun c h => (hc c h).on hb, hb, by rw [Lib.cell_of_heap e1]; rfl, by rw [Lib.cell_of_heap e1]; rfl⟩
  have HHT : Hid (∀ W' c, Below V.heap.size V W' → c ∈ l → Calls Try.prog 46 #[.agg (encMx m).toArray, .agg (encCx c).toArray] W' fun e w' => e = .returned (.bool (hitM m.mk' c.ch)) ∧ Below W'.heap.size W' w') := fun W' c hW h => hit12_any m c W' (HIN.out W' hW).1 hw ((HIN.out W' hW).2.2.1 c h)
  have HK1 : Hid (∀ c ∈ l, hitM m.mk' c.ch = true → hitsM m.mk' (l.map Cx.ch) = true) := fun c h he => List.any_eq_true.2 ⟨c.ch, List.mem_map_of_mem h, he⟩
  have HK2 : Hid ((∀ c ∈ l, hitM m.mk' c.ch = false) → hitsM m.mk' (l.map Cx.ch) = false) := fun q => by
    cases hh : hitsM m.mk' (l.map Cx.ch) with
    | false => rfl
    | true =>
      obtain ⟨d, hd, he⟩ := List.any_eq_true.1 hh
      obtain ⟨c, h, rfl⟩ := List.mem_map.1 hd
      rw [q c h] at he
      cases he
  generalize hTM : hitsM m.mk' (l.map Cx.ch) = TT at *
  obtain ⟨mk, hmk⟩ : ∃ mk, m.mk' = mk := ⟨_, rfl⟩
  rw [hmk] at HHT HK1 HK2
  clear hm hc hv hbV h1 hs hTM hmk hw
  obtain ⟨kp, kc, ks, rp, rc, rs⟩ := m
  simp only [encMx, Mx.ksl, Mx.rsl] at *
  obtain ⟨_, _, _, _, a0, a1⟩ := HIN.out V (Below.refl _ _)
  go_enter Try.func20, Try.ntmps20
  go_wp2_with fail
  try rw [hV]
  try rw [hM]
  clear a0 a1 hV
  go_loopg [5] l.length (fun gg vi wr => ∃ i : Nat, vi = .int .i64 i ∧ i ≤ l.length ∧ l.length - i ≤ gg ∧ Hid (Below V.heap.size V wr ∧ ∀ x ∈ l.take i, hitM mk x.ch = false))
  case atStart => exact ⟨0, rfl, by omega, by omega, Below.refl _ _, fun x hx => by simp at hx⟩
  case round =>
    obtain ⟨i, rfl, hi, hgk, HI⟩ := hrel
    obtain ⟨_, his, _, _, a0, a1⟩ := HIN.out wr HI.out.1
    by_cases hlt : i < l.length
    · have hltz : (i : Int) < (l.length : Int) := by omega
      have hiz : (0 : Int) ≤ i := by omega
      obtain ⟨b7, o7, rfl, k7⟩ : ∃ b off, p = some ⟨b, off, none⟩ ∧ KCx.At wr b off l := by
        obtain ⟨p', c', he, h⟩ := his
        injection he with e1 _ _
        subst e1
        rcases h with h | h
        · rw [h] at hlt; simp at hlt
        · exact h
      obtain ⟨y0, y1, y2, y3, y4, y5⟩ := kcx_at k7 i hlt
      have hmem : l[i] ∈ l := List.getElem_mem hlt
      have htk : l.take (i + 1) = l.take i ++ [l[i]] := List.take_succ_eq_append_getElem hlt
      have HAT : Hid (∀ W', Below wr.heap.size wr W' → _) := fun W' hW => kcx_at (Kind.at_kept k7 hW) i hlt
      have HCT := hid (HHT.out wr.drew l[i] (bel_drewN HI.out.1 1) hmem)
      have HNO : Hid (hitM mk (l[i]).ch = false → ∀ x ∈ l.take (i + 1), hitM mk x.ch = false) := fun h x hx => by
        rw [htk] at hx
        rcases List.mem_append.1 hx with hx | hx
        · exact HI.out.2 x hx
        · rw [List.mem_singleton.1 hx]; exact h
      have HYES : Hid (hitM mk (l[i]).ch = true → TT = true) := fun h => HK1.out _ hmem h
      have HB := hid HI.out.1
      clear k7 hmem htk HI his
      generalize l[i] = x at *
      obtain ⟨ca, cb, wl, wp, wc, wo, il, ip, ic, io⟩ := x
      simp only [encCx] at *
      go_wp2_with fail
      refine wp_region_held_drew (S := fun w' => w'.cell? ⟨M, 0, none⟩ = some (.slice kp ks.length kc) ∧ w'.cell? ⟨M, 1, none⟩ = some (.slice rp rs.length rc) ∧ w'.cell? ⟨b7, o7 + i * 6, none⟩ = some (.string ca) ∧ w'.cell? ⟨b7, o7 + i * 6 + 1, none⟩ = some (.string cb) ∧ w'.cell? ⟨b7, o7 + i * 6 + 2, none⟩ = some (.bool wl) ∧ w'.cell? ⟨b7, o7 + i * 6 + 3, none⟩ = some (.slice wp wo.length wc) ∧ w'.cell? ⟨b7, o7 + i * 6 + 4, none⟩ = some (.bool il) ∧ w'.cell? ⟨b7, o7 + i * 6 + 5, none⟩ = some (.slice ip io.length ic)) (by kernel_rfl) ⟨a0, a1, y0, y1, y2, y3, y4, y5⟩ (fun hHeld => ?_)
      refine take_val (i := 0) (.agg #[.slice kp ks.length kc, .slice rp rs.length rc]) rfl (by kernel_rfl) (by kernel_rfl) (by kernel_rfl) (fun _ _ _ h => h) (by rfl) (fun w hSw => by go_simp) hHeld ?_
      simp only [Act.put, List.setIfInBounds_toArray, List.set_cons_zero, List.set_cons_succ]
      refine take_val (i := 1) (.slice (some ⟨b7, o7, none⟩) l.length cap) rfl (by kernel_rfl) (by kernel_rfl) (by kernel_rfl) (fun _ _ _ h => h) (by rfl) (fun w hSw => by go_simp) hHeld ?_
      simp only [Act.put, List.setIfInBounds_toArray, List.set_cons_zero, List.set_cons_succ]
      refine take_val (i := 2) (.int .i64 i) rfl (by kernel_rfl) (by kernel_rfl) (by kernel_rfl) (fun _ _ _ h => h) (by rfl) (fun w hSw => by go_simp) hHeld ?_
      simp only [Act.put, List.setIfInBounds_toArray, List.set_cons_zero, List.set_cons_succ]
      refine take_val (i := 3) (.pointer (some ⟨b7, o7 + i * 6, none⟩)) rfl (by kernel_rfl) (by kernel_rfl) (by kernel_rfl) (fun _ _ _ h => h) (by rfl) (fun w hSw => by go_simp) hHeld ?_
      simp only [Act.put, List.setIfInBounds_toArray, List.set_cons_zero, List.set_cons_succ]
      refine take_val (i := 4) (.agg #[.string ca, .string cb, .bool wl, .slice wp wo.length wc, .bool il, .slice ip io.length ic]) rfl (by kernel_rfl) (by kernel_rfl) (by kernel_rfl) (fun _ _ _ h => h) (by rfl) (fun w hSw => by go_simp) hHeld ?_
      simp only [Act.put, List.setIfInBounds_toArray, List.set_cons_zero, List.set_cons_succ]
      clear hHeld y0 y1 y2 y3 y4 y5 a0 a1
      refine wpAnyH_ready (rs := [5]) (by kernel_rfl) (by simp) ?_
      refine AllReadyH.cons (at_drop0 rfl) (fun K hK => ?_) AllReadyH.nil
      rw [if_pos (by rfl)]
      go_simp
      refine HCT.out.mono ?_
      rintro e w3 ⟨rfl, hb3⟩
      have hbr : Below wr.heap.size wr w3 := (bel_drewN (Below.refl _ _) 1).trans hb3
      have hb3' : Below V.heap.size V w3 := bel_then HB.out HB.out.size hbr
      obtain ⟨y0, y1, y2, y3, y4, y5⟩ := HAT.out w3 hbr
      obtain ⟨_, _, _, hbe, a0, a1⟩ := HIN.out w3 hb3'
      have HB3 := hid hb3'
      have HE := hid hbe
      clear hb3 hbr hb3' HCT HAT hbe
      cases hq : hitM mk (⟨ca, cb, wl, wp, wc, wo, il, ip, ic, io⟩ : Cx).ch with
      | true =>
        have HT := hid (HYES.out hq)
        clear hq HNO HYES
        go_wp2_with fail
        refine hK.out _ _ (⟨a0, a1, y0, y1, y2, y3, y4, y5⟩) (fun hHeld => ?_)
        clear hK K
        try simp only [Act.put, List.setIfInBounds_toArray, List.set_cons_zero, List.set_cons_succ]
        refine wpAnyH_done (by kernel_rfl) ?_ _
        clear hHeld
        go_wp2_with fail
        go_ret
        first | exact ⟨ret_bool HT.out.symm, HE.out⟩ | exact ⟨ret_bool HT.out.symm, by rw [← hM]; exact HE.out⟩
      | false =>
        have HN := hid (HNO.out hq)
        clear hq HNO HYES
        go_wp2_with fail
        refine hK.out _ _ (⟨a0, a1, y0, y1, y2, y3, y4, y5⟩) (fun hHeld => ?_)
        clear hK K
        try simp only [Act.put, List.setIfInBounds_toArray, List.set_cons_zero, List.set_cons_succ]
        refine wpAnyH_done (by kernel_rfl) ?_ _
        clear hHeld
        go_wp2_with fail
        go_roundg (l.length - (i + 1))
        case measure => omega
        exact ⟨i + 1, by go_num, by omega, by omega, HB3.out, HN.out⟩
    · have hltz : ¬ (i : Int) < (l.length : Int) := by omega
      have hti : l.take i = l := List.take_of_length_le (by omega)
      have hno := HI.out.2
      rw [hti] at hno
      have HT := hid (HK2.out hno)
      have HE := hid (HIN.out wr HI.out.1).2.2.2.1
      clear hti hno HI his
      go_wp2_with fail
      go_ret
      first | exact ⟨ret_bool HT.out.symm, HE.out⟩ | exact ⟨ret_bool HT.out.symm, by rw [← hM]; exact HE.out⟩

end Go.Proofs.Ythdakljoabbghaa

/-
  The reference's marks (stage 12): Which, Equal.
-/
namespace Go.Proofs.Ythdakljoabbghaa
open Go.RowKit

theorem which_len (m : Mk) (l : List Ch) : ∀ (a : List Ky), (l.foldl (fun acc c => if hitM m c then insR ltKy c.key acc else acc) a).length ≤ a.length + l.length := by
  induction l with
  | nil => intro a; simp
  | cons c l ih =>
    intro a
    rw [List.foldl_cons, List.length_cons]
    by_cases hc : hitM m c = true
    · rw [if_pos hc]
      have h1 := ih (insR ltKy c.key a)
      have h2 := insK_len c.key a
      omega
    · rw [if_neg hc]
      have h1 := ih a
      omega

set_option maxHeartbeats 8000000 in
set_option maxRecDepth 100000 in
theorem which12_any (m : Mx) (v : Value) (l : List Cx) (w : World) (hm : MIn w m) (hw : LenM m) (hv : KCx.Is w v l) (hc : ∀ c ∈ l, CIn w c) (hl : l.length < 3000000000000) :
    Calls Try.prog 22 #[.agg (encMx m).toArray, v] w fun e w' => KeyRPost w (whichM m.mk' (l.map Cx.ch)) e w' := by
  obtain ⟨hbV, h1, hs⟩ := one_box w (encMx m).toArray 25
  obtain ⟨V, hV⟩ : ∃ V, w.alloc (.cells (encMx m).toArray 25) = V := ⟨_, rfl⟩
  obtain ⟨M, hM⟩ : ∃ M, w.heap.size = M := ⟨_, rfl⟩
  rw [hV] at hbV h1 hs
  rw [hM] at h1 hs
  obtain ⟨p, cap, rfl, _⟩ := id hv
  have HIN : Hid (∀ W', Below V.heap.size V W' → MIn W' m ∧ KCx.Is W' (.slice p l.length cap) l ∧ (∀ c ∈ l, CIn W' c) ∧ Below w.heap.size w W' ∧ W'.cell? ⟨M, 0, none⟩ = some m.ksl ∧ W'.cell? ⟨M, 1, none⟩ = some m.rsl) := fun W' hW => by
    have hb : Below w.heap.size w W' := bel_then hbV hbV.size hW
    have e1 := (hW.block M (by omega)).trans h1
    exact ⟨hm.on hb, Kind.is_kept hv hb, fun c h => (hc c h).on hb, hb, by rw [Lib.cell_of_heap e1]; rfl, by rw [Lib.cell_of_heap e1]; rfl⟩
  have HHT : Hid (∀ W' c, Below V.heap.size V W' → c ∈ l → Calls Try.prog 46 #[.agg (encMx m).toArray, .agg (encCx c).toArray] W' fun e w' => e = .returned (.bool (hitM m.mk' c.ch)) ∧ Below W'.heap.size W' w') := fun W' c hW h => hit12_any m c W' (HIN.out W' hW).1 hw ((HIN.out W' hW).2.2.1 c h)
  have HWN : Hid (∀ i, (h : i < l.length) → whichM m.mk' ((l.take (i + 1)).map Cx.ch) = if hitM m.mk' (l[i]).ch = true then insR ltKy (l[i]).ch.key (whichM m.mk' ((l.take i).map Cx.ch)) else whichM m.mk' ((l.take i).map Cx.ch)) := fun i h => by
    rw [List.take_succ_eq_append_getElem h, List.map_append]
    unfold whichM
    rw [List.foldl_append]
    rfl
  have HWL : Hid (∀ i, i ≤ l.length → RisingR ltKy (whichM m.mk' ((l.take i).map Cx.ch)) ∧ (whichM m.mk' ((l.take i).map Cx.ch)).length ≤ l.length) := fun i h => by
    refine ⟨(which_spec _ _ [] List.Pairwise.nil).1, ?_⟩
    have := which_len m.mk' ((l.take i).map Cx.ch) []
    rw [List.length_map, List.length_take, List.length_nil] at this
    unfold whichM
    omega
  obtain ⟨mk, hmk⟩ : ∃ mk, m.mk' = mk := ⟨_, rfl⟩
  rw [hmk] at HHT HWN HWL ⊢
  have hVw : w.heap.size ≤ V.heap.size := hbV.size
  clear hm hc hv hbV h1 hs hmk hw
  obtain ⟨kp, kc, ks, rp, rc, rs⟩ := m
  simp only [encMx, Mx.ksl, Mx.rsl] at *
  obtain ⟨_, _, _, _, a0, a1⟩ := HIN.out V (Below.refl _ _)
  go_enter Try.func22, Try.ntmps22
  go_wp2_with fail
  try rw [hV]
  try rw [hM]
  clear a0 a1 hV
  go_loopg [5, 6] l.length (fun gg v5 vi wr => ∃ (i : Nat) (u5 : Value), vi = .int .i64 i ∧ u5 = v5 ∧ i ≤ l.length ∧ l.length - i ≤ gg ∧ Hid (Below V.heap.size V wr ∧ KK.Own V.heap.size wr v5 (whichM mk ((l.take i).map Cx.ch))))
  case atStart => exact ⟨0, _, rfl, rfl, by omega, by omega, Below.refl _ _, Kind.own_nil _ _ _⟩
  case round =>
    obtain ⟨i, v5, rfl, hv5, hi, hgk, HI⟩ := hrel
    subst hv5
    obtain ⟨_, his, _, _, a0, a1⟩ := HIN.out wr HI.out.1
    by_cases hlt : i < l.length
    · have hltz : (i : Int) < (l.length : Int) := by omega
      have hiz : (0 : Int) ≤ i := by omega
      obtain ⟨b7, o7, rfl, k7⟩ : ∃ b off, p = some ⟨b, off, none⟩ ∧ KCx.At wr b off l := by
        obtain ⟨p', c', he, h⟩ := his
        injection he with e1 _ _
        subst e1
        rcases h with h | h
        · rw [h] at hlt; simp at hlt
        · exact h
      obtain ⟨y0, y1, y2, y3, y4, y5⟩ := kcx_at k7 i hlt
      have hmem : l[i] ∈ l := List.getElem_mem hlt
      have htk : l.take (i + 1) = l.take i ++ [l[i]] := List.take_succ_eq_append_getElem hlt
      have HAT : Hid (∀ W', Below wr.heap.size wr W' → _) := fun W' hW => kcx_at (Kind.at_kept k7 hW) i hlt
      have HCT := hid (HHT.out wr.drew l[i] (bel_drewN HI.out.1 1) hmem)
      have HW1 := hid (HWN.out i hlt)
      have HOW := hid HI.out.2
      have hrl := HWL.out i hi
      have HRL := hid hrl
      clear hrl
      have HB := hid HI.out.1
      clear k7 hmem htk HI his
      generalize whichM mk ((l.take i).map Cx.ch) = A at *
      obtain ⟨A1, hA1e⟩ : ∃ A1, whichM mk ((l.take (i + 1)).map Cx.ch) = A1 := ⟨_, rfl⟩
      rw [hA1e] at HW1
      have HAE := hid hA1e
      clear hA1e
      generalize l[i] = x at *
      obtain ⟨ca, cb, wl, wp, wc, wo, il, ip, ic, io⟩ := x
      simp only [encCx] at *
      go_wp2_with fail
      refine wp_region_held_drew (S := fun w' => w'.cell? ⟨M, 0, none⟩ = some (.slice kp ks.length kc) ∧ w'.cell? ⟨M, 1, none⟩ = some (.slice rp rs.length rc) ∧ w'.cell? ⟨b7, o7 + i * 6, none⟩ = some (.string ca) ∧ w'.cell? ⟨b7, o7 + i * 6 + 1, none⟩ = some (.string cb) ∧ w'.cell? ⟨b7, o7 + i * 6 + 2, none⟩ = some (.bool wl) ∧ w'.cell? ⟨b7, o7 + i * 6 + 3, none⟩ = some (.slice wp wo.length wc) ∧ w'.cell? ⟨b7, o7 + i * 6 + 4, none⟩ = some (.bool il) ∧ w'.cell? ⟨b7, o7 + i * 6 + 5, none⟩ = some (.slice ip io.length ic)) (by kernel_rfl) ⟨a0, a1, y0, y1, y2, y3, y4, y5⟩ (fun hHeld => ?_)
      refine take_val (i := 0) (.agg #[.slice kp ks.length kc, .slice rp rs.length rc]) rfl (by kernel_rfl) (by kernel_rfl) (by kernel_rfl) (fun _ _ _ h => h) (by rfl) (fun w hSw => by go_simp) hHeld ?_
      simp only [Act.put, List.setIfInBounds_toArray, List.set_cons_zero, List.set_cons_succ]
      refine take_val (i := 1) (.slice (some ⟨b7, o7, none⟩) l.length cap) rfl (by kernel_rfl) (by kernel_rfl) (by kernel_rfl) (fun _ _ _ h => h) (by rfl) (fun w hSw => by go_simp) hHeld ?_
      simp only [Act.put, List.setIfInBounds_toArray, List.set_cons_zero, List.set_cons_succ]
      refine take_val (i := 2) (.int .i64 i) rfl (by kernel_rfl) (by kernel_rfl) (by kernel_rfl) (fun _ _ _ h => h) (by rfl) (fun w hSw => by go_simp) hHeld ?_
      simp only [Act.put, List.setIfInBounds_toArray, List.set_cons_zero, List.set_cons_succ]
      refine take_val (i := 3) (.pointer (some ⟨b7, o7 + i * 6, none⟩)) rfl (by kernel_rfl) (by kernel_rfl) (by kernel_rfl) (fun _ _ _ h => h) (by rfl) (fun w hSw => by go_simp) hHeld ?_
      simp only [Act.put, List.setIfInBounds_toArray, List.set_cons_zero, List.set_cons_succ]
      refine take_val (i := 4) (.agg #[.string ca, .string cb, .bool wl, .slice wp wo.length wc, .bool il, .slice ip io.length ic]) rfl (by kernel_rfl) (by kernel_rfl) (by kernel_rfl) (fun _ _ _ h => h) (by rfl) (fun w hSw => by go_simp) hHeld ?_
      simp only [Act.put, List.setIfInBounds_toArray, List.set_cons_zero, List.set_cons_succ]
      clear hHeld y0 y1 y2 y3 y4 y5 a0 a1
      refine wpAnyH_ready (rs := [5]) (by kernel_rfl) (by simp) ?_
      refine AllReadyH.cons (at_drop0 rfl) (fun K hK => ?_) AllReadyH.nil
      rw [if_pos (by rfl)]
      go_simp
      refine HCT.out.mono ?_
      rintro e w3 ⟨rfl, hb3⟩
      have hbr : Below wr.heap.size wr w3 := (bel_drewN (Below.refl _ _) 1).trans hb3
      have hb3' : Below V.heap.size V w3 := bel_then HB.out HB.out.size hbr
      obtain ⟨y0, y1, y2, y3, y4, y5⟩ := HAT.out w3 hbr
      obtain ⟨_, _, _, hbe, a0, a1⟩ := HIN.out w3 hb3'
      have HB3 := hid hb3'
      have hbq : Below wr.heap.size wr w3 := hbr
      clear hb3 hbr hb3' HCT HAT hbe
      have HOW3 := hid (Kind.own_on HOW.out hbq)
      have hsz3 : V.heap.size ≤ w3.heap.size := HB3.out.size
      clear hbq HOW
      cases hq : hitM mk (⟨ca, cb, wl, wp, wc, wo, il, ip, ic, io⟩ : Cx).ch with
      | true =>
        have hA1 := HW1.out
        rw [if_pos hq] at hA1
        have HP := hid (kput12 V.heap.size v5 A (ca, cb) w3 HOW3.out hsz3 HRL.out.1 (by have := HRL.out.2; omega))
        have HA : Hid (insR ltKy (ca, cb) A = A1) := hA1.symm
        clear hq HW1 hA1 HOW3 HRL
        go_wp2_with fail
        refine hK.out _ _ (⟨a0, a1, y0, y1, y2, y3, y4, y5⟩) (fun hHeld => ?_)
        clear hK K
        try simp only [Act.put, List.setIfInBounds_toArray, List.set_cons_zero, List.set_cons_succ]
        refine wpAnyH_done (by kernel_rfl) ?_ _
        clear hHeld
        go_wp2_with fail
        refine HP.out.mono ?_
        rintro e w4 ⟨u4, rfl, ho4, hb4⟩
        have HE4 : Hid (Below V.heap.size V w4 ∧ KK.Own V.heap.size w4 u4 A1) := ⟨HB3.out.trans hb4, by rw [← HA.out]; exact ho4⟩
        clear ho4 hb4 HP HA
        go_wp2_with fail
        go_roundg (l.length - (i + 1))
        case measure => omega
        exact ⟨i + 1, _, by go_num, rfl, by omega, by omega, by rw [HAE.out]; exact HE4.out⟩
      | false =>
        have hA1 := HW1.out
        rw [if_neg (by rw [hq]; exact Bool.false_ne_true)] at hA1
        have HA : Hid (A1 = A) := hA1
        clear hq HW1 hA1
        go_wp2_with fail
        refine hK.out _ _ (⟨a0, a1, y0, y1, y2, y3, y4, y5⟩) (fun hHeld => ?_)
        clear hK K
        try simp only [Act.put, List.setIfInBounds_toArray, List.set_cons_zero, List.set_cons_succ]
        refine wpAnyH_done (by kernel_rfl) ?_ _
        clear hHeld
        go_wp2_with fail
        go_roundg (l.length - (i + 1))
        case measure => omega
        exact ⟨i + 1, _, by go_num, rfl, by omega, by omega, HB3.out, by rw [HAE.out, HA.out]; exact HOW3.out⟩
    · have hltz : ¬ (i : Int) < (l.length : Int) := by omega
      have hti : l.take i = l := List.take_of_length_le (by omega)
      have hno := HI.out.2
      rw [hti] at hno
      have HE : Hid (KK.Own w.heap.size wr v5 (whichM mk (l.map Cx.ch)) ∧ Below w.heap.size w wr) := ⟨Kind.own_weak hno hVw, (HIN.out wr HI.out.1).2.2.2.1⟩
      clear hti hno HI his
      go_wp2_with fail
      go_ret
      first | exact ⟨v5, rfl, HE.out⟩ | exact ⟨v5, rfl, by rw [← hM]; exact HE.out⟩

set_option maxHeartbeats 8000000 in
set_option maxRecDepth 100000 in
theorem equal12_any (a b : Mx) (w : World) (ha : MIn w a) (hb : MIn w b) (hfa : LenM a) (hfb : LenM b) :
    Calls Try.prog 14 #[.agg (encMx a).toArray, .agg (encMx b).toArray] w fun e w' => e = .returned (.bool (decide (a.mk' = b.mk'))) ∧ Below w.heap.size w w' := by
  obtain ⟨hbV, h1, h2, hs⟩ := two_boxes w (encMx a).toArray (encMx b).toArray 25 25
  obtain ⟨V, hV⟩ : ∃ V, (w.alloc (.cells (encMx a).toArray 25)).alloc (.cells (encMx b).toArray 25) = V := ⟨_, rfl⟩
  obtain ⟨M, hM⟩ : ∃ M, w.heap.size = M := ⟨_, rfl⟩
  rw [hV] at hbV h1 h2 hs
  rw [hM] at h1 h2 hs
  obtain ⟨hfa1, hfa2⟩ := hfa
  obtain ⟨hfb1, hfb2⟩ := hfb
  have HIN : Hid (∀ W', Below V.heap.size V W' → MIn W' a ∧ MIn W' b ∧ Below w.heap.size w W' ∧ (W'.cell? ⟨M, 0, none⟩ = some a.ksl ∧ W'.cell? ⟨M, 1, none⟩ = some a.rsl) ∧ W'.cell? ⟨M + 1, 0, none⟩ = some b.ksl ∧ W'.cell? ⟨M + 1, 1, none⟩ = some b.rsl) := fun W' hW => by
    have hb' : Below w.heap.size w W' := bel_then hbV hbV.size hW
    have e1 := (hW.block M (by omega)).trans h1
    have e2 := (hW.block (M + 1) (by omega)).trans h2
    exact ⟨ha.on hb', hb.on hb', hb', ⟨by rw [Lib.cell_of_heap e1]; rfl, by rw [Lib.cell_of_heap e1]; rfl⟩, by rw [Lib.cell_of_heap e2]; rfl, by rw [Lib.cell_of_heap e2]; rfl⟩
  have HSK := hid (Z.zsame_any a.ksl b.ksl a.ks b.ks V (keys_isZ12 (HIN.out V (Below.refl _ _)).1.keys) (keys_isZ12 (HIN.out V (Below.refl _ _)).2.1.keys) (by unfold maxLen; omega) (by unfold maxLen; omega))
  have HSR : Hid (∀ W' x y, Below V.heap.size V W' → x ∈ a.rs → y ∈ b.rs → Calls Try.prog 35 #[.agg (encRx x).toArray, .agg (encRx y).toArray] W' fun e w' => e = .returned (.bool (decide (x.rg = y.rg))) ∧ Below W'.heap.size W' w') := fun W' x y hW hx hy => same12_any x y W' ((HIN.out W' hW).1.each x hx) ((HIN.out W' hW).2.1.each y hy)
  have HK1 : Hid (¬ a.ks = b.ks → decide (a.mk' = b.mk') = false) := fun h => decide_eq_false fun e => h (congrArg Prod.fst e)
  have HK2 : Hid (¬ a.rs.length = b.rs.length → decide (a.mk' = b.mk') = false) := fun h => decide_eq_false fun e => h (by
    have := congrArg List.length (congrArg Prod.snd e)
    simpa [Mx.mk'] using this)
  have HK3 : Hid (∀ i, (h : i < a.rs.length) → (h' : i < b.rs.length) → ¬ (a.rs[i]).rg = (b.rs[i]).rg → decide (a.mk' = b.mk') = false) := fun i h h' hne => decide_eq_false fun e => hne (by
    have e2 : a.rs.map Rx.rg = b.rs.map Rx.rg := congrArg Prod.snd e
    have e3 : (a.rs.map Rx.rg)[i]? = (b.rs.map Rx.rg)[i]? := by rw [e2]
    rw [List.getElem?_map, List.getElem?_map, List.getElem?_eq_getElem h, List.getElem?_eq_getElem h'] at e3
    exact Option.some.inj e3)
  have HK4 : Hid (a.ks = b.ks → (hl : a.rs.length = b.rs.length) → (∀ i, (h : i < a.rs.length) → (a.rs[i]).rg = (b.rs[i]'(by omega)).rg) → decide (a.mk' = b.mk') = true) := fun h hl hr => decide_eq_true (by
    have : a.rs.map Rx.rg = b.rs.map Rx.rg := List.ext_getElem (by rw [List.length_map, List.length_map]; exact hl) fun i h1 h2 => by
      rw [List.getElem_map, List.getElem_map]
      exact hr i (by simpa using h1)
    show (a.ks, a.rs.map Rx.rg) = (b.ks, b.rs.map Rx.rg)
    rw [h, this])
  generalize hTM : decide (a.mk' = b.mk') = TT at *
  clear ha hb hbV h1 h2 hs hTM
  obtain ⟨kp, kc, ks, rp, rc, rs⟩ := a
  obtain ⟨lp, lc, ls, sp, sc, ss⟩ := b
  simp only [encMx, Mx.ksl, Mx.rsl] at *
  obtain ⟨_, _, hbe, ⟨a0, a1⟩, b0, b1⟩ := HIN.out V (Below.refl _ _)
  have HBE := hid hbe
  clear hbe
  go_enter Try.func14, Try.ntmps14
  go_wp2_with fail
  try rw [hV]
  clear a0 a1 b0 b1 hV
  refine HSK.out.mono ?_
  rintro e w1 ⟨rfl, n, rfl⟩
  obtain ⟨w1, hw1⟩ : ∃ w1, V.drewN n = w1 := ⟨_, rfl⟩
  have hb1 : Below V.heap.size V w1 := by rw [← hw1]; exact bel_drewN (Below.refl _ _) n
  obtain ⟨_, _, hbe, ⟨a0, a1⟩, b0, b1⟩ := HIN.out w1 hb1
  have HBE1 := hid hbe
  have HB1 := hid hb1
  rw [hw1]
  clear hbe hb1 hw1 HSK
  by_cases hk : ks = ls
  · rw [decide_eq_true hk]
    by_cases hr : rs.length = ss.length
    · have hrz : ((rs.length : Int) != (ss.length : Int)) = false := by simp [hr]
      have HRL := hid hr
      have HKE := hid hk
      clear hr hk
      go_wp2_with fail
      clear a0 a1 b0 b1 hrz
      go_loopg [5] rs.length (fun gg vi wr => ∃ i : Nat, vi = .int .i64 i ∧ i ≤ rs.length ∧ rs.length - i ≤ gg ∧ Hid (Below V.heap.size V wr ∧ ∀ j, (h : j < rs.length) → (h' : j < ss.length) → j < i → (rs[j]).rg = (ss[j]).rg))
      case atStart => exact ⟨0, rfl, by omega, by omega, HB1.out, fun j _ _ h => by omega⟩
      case round =>
        obtain ⟨i, rfl, hi, hgk, HI⟩ := hrel
        obtain ⟨hma, hmb, hbe, ⟨a0, a1⟩, b0, b1⟩ := HIN.out wr HI.out.1
        by_cases hlt : i < rs.length
        · have hltz : (i : Int) < (rs.length : Int) := by omega
          have hlt2 : i < ss.length := by have := HRL.out; omega
          have hltz2 : (i : Int) < (ss.length : Int) := by omega
          have hiz : (0 : Int) ≤ i := by omega
          obtain ⟨b7, o7, rfl, k7⟩ : ∃ b off, rp = some ⟨b, off, none⟩ ∧ KRx.At wr b off rs := by
            obtain ⟨p', c', he, h⟩ := hma.rows
            injection he with e1 _ _
            subst e1
            rcases h with h | h
            · have h' : rs = [] := h
              rw [h'] at hlt; simp at hlt
            · exact h
          obtain ⟨b8, o8, rfl, k8⟩ : ∃ b off, sp = some ⟨b, off, none⟩ ∧ KRx.At wr b off ss := by
            obtain ⟨p', c', he, h⟩ := hmb.rows
            injection he with e1 _ _
            subst e1
            rcases h with h | h
            · have h' : ss = [] := h
              rw [h'] at hlt2; simp at hlt2
            · exact h
          obtain ⟨y0, y1⟩ := krx_at k7 i hlt
          obtain ⟨z0, z1⟩ := krx_at k8 i hlt2
          have HAT : Hid (∀ W', Below wr.heap.size wr W' → (W'.cell? ⟨b7, o7 + i * 2, none⟩ = some (.string (rs[i]).typ) ∧ W'.cell? ⟨b7, o7 + i * 2 + 1, none⟩ = some (rs[i]).sl) ∧ W'.cell? ⟨b8, o8 + i * 2, none⟩ = some (.string (ss[i]).typ) ∧ W'.cell? ⟨b8, o8 + i * 2 + 1, none⟩ = some (ss[i]).sl) := fun W' hW => ⟨krx_at (Kind.at_kept k7 hW) i hlt, krx_at (Kind.at_kept k8 hW) i hlt2⟩
          have HCS := hid (HSR.out wr.drew rs[i] ss[i] (bel_drewN HI.out.1 1) (List.getElem_mem hlt) (List.getElem_mem hlt2))
          have HNO : Hid (¬ (rs[i]).rg = (ss[i]).rg → TT = false) := fun h => HK3.out i hlt hlt2 h
          have HYES : Hid ((rs[i]).rg = (ss[i]).rg → ∀ j, (h : j < rs.length) → (h' : j < ss.length) → j < i + 1 → (rs[j]).rg = (ss[j]).rg) := fun h j h1 h2 h3 => by
            by_cases e : j = i
            · subst e; exact h
            · exact HI.out.2 j h1 h2 (by omega)
          have HB := hid HI.out.1
          clear hma hmb hbe k7 k8 HI
          generalize rs[i] = x at *
          generalize ss[i] = y at *
          obtain ⟨xt, xp, xc, xm⟩ := x
          obtain ⟨yt, yp, yc, ym⟩ := y
          simp only [encRx, Rx.sl] at *
          go_wp2_with fail
          refine wp_region_held_drew (S := fun w' => w'.cell? ⟨M, 1, none⟩ = some (.slice (some ⟨b7, o7, none⟩) rs.length rc) ∧ w'.cell? ⟨M + 1, 1, none⟩ = some (.slice (some ⟨b8, o8, none⟩) ss.length sc) ∧ w'.cell? ⟨b7, o7 + i * 2, none⟩ = some (.string xt) ∧ w'.cell? ⟨b7, o7 + i * 2 + 1, none⟩ = some (.slice xp xm.length xc) ∧ w'.cell? ⟨b8, o8 + i * 2, none⟩ = some (.string yt) ∧ w'.cell? ⟨b8, o8 + i * 2 + 1, none⟩ = some (.slice yp ym.length yc)) (by kernel_rfl) ⟨a1, b1, y0, y1, z0, z1⟩ (fun hHeld => ?_)
          refine take_val (i := 0) (.pointer (some ⟨M, 1, none⟩)) rfl (by kernel_rfl) (by kernel_rfl) (by kernel_rfl) (fun _ _ _ h => h) (by rfl) (fun w hSw => by go_simp) hHeld ?_
          simp only [Act.put, List.setIfInBounds_toArray, List.set_cons_zero, List.set_cons_succ]
          refine take_val (i := 1) (.slice (some ⟨b7, o7, none⟩) rs.length rc) rfl (by kernel_rfl) (by kernel_rfl) (by kernel_rfl) (fun _ _ _ h => h) (by rfl) (fun w hSw => by go_simp) hHeld ?_
          simp only [Act.put, List.setIfInBounds_toArray, List.set_cons_zero, List.set_cons_succ]
          refine take_val (i := 2) (.int .i64 i) rfl (by kernel_rfl) (by kernel_rfl) (by kernel_rfl) (fun _ _ _ h => h) (by rfl) (fun w hSw => by go_simp) hHeld ?_
          simp only [Act.put, List.setIfInBounds_toArray, List.set_cons_zero, List.set_cons_succ]
          refine take_val (i := 3) (.pointer (some ⟨b7, o7 + i * 2, none⟩)) rfl (by kernel_rfl) (by kernel_rfl) (by kernel_rfl) (fun _ _ _ h => h) (by rfl) (fun w hSw => by go_simp) hHeld ?_
          simp only [Act.put, List.setIfInBounds_toArray, List.set_cons_zero, List.set_cons_succ]
          refine take_val (i := 4) (.agg #[.string xt, .slice xp xm.length xc]) rfl (by kernel_rfl) (by kernel_rfl) (by kernel_rfl) (fun _ _ _ h => h) (by rfl) (fun w hSw => by go_simp) hHeld ?_
          simp only [Act.put, List.setIfInBounds_toArray, List.set_cons_zero, List.set_cons_succ]
          refine take_val (i := 5) (.pointer (some ⟨M + 1, 1, none⟩)) rfl (by kernel_rfl) (by kernel_rfl) (by kernel_rfl) (fun _ _ _ h => h) (by rfl) (fun w hSw => by go_simp) hHeld ?_
          simp only [Act.put, List.setIfInBounds_toArray, List.set_cons_zero, List.set_cons_succ]
          refine take_val (i := 6) (.slice (some ⟨b8, o8, none⟩) ss.length sc) rfl (by kernel_rfl) (by kernel_rfl) (by kernel_rfl) (fun _ _ _ h => h) (by rfl) (fun w hSw => by go_simp) hHeld ?_
          simp only [Act.put, List.setIfInBounds_toArray, List.set_cons_zero, List.set_cons_succ]
          refine take_val (i := 7) (.int .i64 i) rfl (by kernel_rfl) (by kernel_rfl) (by kernel_rfl) (fun _ _ _ h => h) (by rfl) (fun w hSw => by go_simp) hHeld ?_
          simp only [Act.put, List.setIfInBounds_toArray, List.set_cons_zero, List.set_cons_succ]
          refine take_val (i := 8) (.pointer (some ⟨b8, o8 + i * 2, none⟩)) rfl (by kernel_rfl) (by kernel_rfl) (by kernel_rfl) (fun _ _ _ h => h) (by rfl) (fun w hSw => by go_simp) hHeld ?_
          simp only [Act.put, List.setIfInBounds_toArray, List.set_cons_zero, List.set_cons_succ]
          refine take_val (i := 9) (.agg #[.string yt, .slice yp ym.length yc]) rfl (by kernel_rfl) (by kernel_rfl) (by kernel_rfl) (fun _ _ _ h => h) (by rfl) (fun w hSw => by go_simp) hHeld ?_
          simp only [Act.put, List.setIfInBounds_toArray, List.set_cons_zero, List.set_cons_succ]
          clear hHeld y0 y1 z0 z1 a0 a1 b0 b1
          refine wpAnyH_ready (rs := [10]) (by kernel_rfl) (by simp) ?_
          refine AllReadyH.cons (at_drop0 rfl) (fun K hK => ?_) AllReadyH.nil
          rw [if_pos (by rfl)]
          go_simp
          refine HCS.out.mono ?_
          rintro e w3 ⟨rfl, hb3⟩
          have hbr : Below wr.heap.size wr w3 := (bel_drewN (Below.refl _ _) 1).trans hb3
          have hb3' : Below V.heap.size V w3 := bel_then HB.out HB.out.size hbr
          obtain ⟨⟨y0, y1⟩, z0, z1⟩ := HAT.out w3 hbr
          obtain ⟨_, _, hbe, ⟨a0, a1⟩, b0, b1⟩ := HIN.out w3 hb3'
          have HB3 := hid hb3'
          have HE := hid hbe
          clear hb3 hbr hb3' HCS HAT hbe
          by_cases hq : (⟨xt, xp, xc, xm⟩ : Rx).rg = (⟨yt, yp, yc, ym⟩ : Rx).rg
          · rw [decide_eq_true hq]
            have HY := hid (HYES.out hq)
            clear hq HNO HYES
            go_wp2_with fail
            refine hK.out _ _ (⟨a1, b1, y0, y1, z0, z1⟩) (fun hHeld => ?_)
            clear hK K
            try simp only [Act.put, List.setIfInBounds_toArray, List.set_cons_zero, List.set_cons_succ]
            refine take_val (i := 11) (.bool false) rfl (by kernel_rfl) (by kernel_rfl) (by kernel_rfl) (fun _ _ _ h => h) (by rfl) (fun w hSw => by go_simp) hHeld ?_
            simp only [Act.put, List.setIfInBounds_toArray, List.set_cons_zero, List.set_cons_succ]
            refine wpAnyH_done (by kernel_rfl) ?_ _
            clear hHeld
            go_wp2_with fail
            go_roundg (rs.length - (i + 1))
            case measure => omega
            exact ⟨i + 1, by go_num, by omega, by omega, HB3.out, HY.out⟩
          · rw [decide_eq_false hq]
            have HT := hid (HNO.out hq)
            clear hq HNO HYES
            go_wp2_with fail
            refine hK.out _ _ (⟨a1, b1, y0, y1, z0, z1⟩) (fun hHeld => ?_)
            clear hK K
            try simp only [Act.put, List.setIfInBounds_toArray, List.set_cons_zero, List.set_cons_succ]
            refine take_val (i := 11) (.bool true) rfl (by kernel_rfl) (by kernel_rfl) (by kernel_rfl) (fun _ _ _ h => h) (by rfl) (fun w hSw => by go_simp) hHeld ?_
            simp only [Act.put, List.setIfInBounds_toArray, List.set_cons_zero, List.set_cons_succ]
            refine wpAnyH_done (by kernel_rfl) ?_ _
            clear hHeld
            go_wp2_with fail
            go_ret
            first | exact ⟨ret_bool HT.out.symm, HE.out⟩ | exact ⟨ret_bool HT.out.symm, by rw [← hM]; exact HE.out⟩
        · have hltz : ¬ (i : Int) < (rs.length : Int) := by omega
          have HT := hid (HK4.out HKE.out HRL.out fun j h => HI.out.2 j h (by have h2 : rs.length = ss.length := HRL.out; have h3 : j < rs.length := h; omega) (by have h3 : j < rs.length := h; omega))
          have HE := hid hbe
          clear hma hmb hbe HI
          go_wp2_with fail
          go_ret
          first | exact ⟨ret_bool HT.out.symm, HE.out⟩ | exact ⟨ret_bool HT.out.symm, by rw [← hM]; exact HE.out⟩
    · have hrz : ((rs.length : Int) != (ss.length : Int)) = true := by simp; omega
      have HT := hid (HK2.out hr)
      clear hr
      go_wp2_with fail
      go_ret
      first | exact ⟨ret_bool HT.out.symm, HBE1.out⟩ | exact ⟨ret_bool HT.out.symm, by rw [← hM]; exact HBE1.out⟩
  · rw [decide_eq_false hk]
    have HT := hid (HK1.out hk)
    clear hk
    go_wp2_with fail
    go_ret
    first | exact ⟨ret_bool HT.out.symm, HBE1.out⟩ | exact ⟨ret_bool HT.out.symm, by rw [← hM]; exact HBE1.out⟩

end Go.Proofs.Ythdakljoabbghaa

/-
  The reference's marks (stage 12): Key, Range.
-/
namespace Go.Proofs.Ythdakljoabbghaa
open Go.RowKit

/-- What a function that answers marks leaves: the ranges' row is new, their terms lie where they lay. -/
def Rx.atP (Pr : Rx → Prop) (W : World) (x : Rx) : Prop := x.at W ∧ Pr x
theorem Rx.atP.on {Pr : Rx → Prop} {W W' : World} {x : Rx} (h : x.atP Pr W) (hb : Below W.heap.size W W') : x.at W' := h.1.on hb
def MarkPost (Pr : Rx → Prop) (Kr : Value → List Ky → Prop) (W : World) (mk : Mk) (e : Ending) (w' : World) : Prop :=
  ∃ m, e = .returned (.agg (encMx m).toArray) ∧ MIn w' m ∧ m.mk' = mk ∧ Below W.heap.size W w' ∧ (KK.Own W.heap.size w' m.ksl m.ks ∨ (KK.Is W m.ksl m.ks ∧ Kr m.ksl m.ks)) ∧ KRx.Own W.heap.size w' m.rsl m.rs ∧ ∀ r ∈ m.rs, r.atP Pr W

theorem own_cell {α : Type} {K : Kind α} {N : Nat} {w : World} {v : Value} {d : List α} (h : K.Own N w v d) {b : Nat} (hb : b < N) (j : Nat) (x : Value) : K.Own N (w.setCell ⟨b, j, none⟩ x) v d :=
  Fr.row (P := fun k => k = b) (Fr.of_grown (grown_set w b j x) fun k hk => by simpa using hk.symm) (show w.ownsRow N K.T K.k v d.length (K.cells d) from h) fun k hk e => by
    have := (World.ownsRow.lt (show w.ownsRow N K.T K.k v d.length (K.cells d) from h) k hk).1
    omega

/-- Two boxes and room for the answer. -/
theorem three_boxes (w : World) (c1 c2 c3 : Array Value) (t1 t2 t3 : TypeId) (V : World) (hV : ((w.alloc (.cells c1 t1)).alloc (.cells c2 t2)).alloc (.cells c3 t3) = V) : Below w.heap.size w V ∧ V.heap[w.heap.size]? = some (.cells c1 t1 (0, 0)) ∧ V.heap[w.heap.size + 1]? = some (.cells c2 t2 (0, 0)) ∧ V.heap[w.heap.size + 2]? = some (.cells c3 t3 (0, 0)) ∧ V.heap.size = w.heap.size + 3 := by
  obtain ⟨h1, h2, h3, h4⟩ := two_boxes w c1 c2 t1 t2
  generalize (w.alloc (.cells c1 t1)).alloc (.cells c2 t2) = U at *
  subst hV
  have hb : Below U.heap.size U (U.alloc (.cells c3 t3)) := (Below.refl _ _).alloc (Nat.le_refl _) _
  have h5 : (U.alloc (.cells c3 t3)).heap[U.heap.size]? = some (.cells c3 t3 (0, 0)) := heap_alloc_new U _
  rw [h4] at h5
  exact ⟨bel_then h1 h1.size hb, (hb.block _ (by omega)).trans h2, (hb.block _ (by omega)).trans h3, h5, by simp; omega⟩

set_option maxHeartbeats 8000000 in
set_option maxRecDepth 100000 in
theorem key12_any (Pr : Rx → Prop) (Kr : Value → List Ky → Prop) (m : Mx) (k : Ky) (w : World) (hm : MIn w m) (hw : FewM m) (hpr : ∀ x ∈ m.rs, Pr x) :
    Calls Try.prog 11 #[.agg (encMx m).toArray, .agg #[.string k.1, .string k.2]] w fun e w' => MarkPost Pr Kr w (keyM m.mk' k) e w' := by
  obtain ⟨V, hV⟩ : ∃ V, ((w.alloc (.cells (encMx m).toArray 25)).alloc (.cells #[.string k.1, .string k.2] 27)).alloc (.cells #[.slice none 0 0, .slice none 0 0] 25) = V := ⟨_, rfl⟩
  obtain ⟨M, hM⟩ : ∃ M, w.heap.size = M := ⟨_, rfl⟩
  obtain ⟨hbV, h1, h2, h3, hs⟩ := three_boxes w _ _ _ _ _ _ V hV
  rw [hM] at h1 h2 h3 hs
  have HBX : Hid (∀ W' : World, (∀ b, b < M + 2 → W'.heap[b]? = V.heap[b]?) → (W'.cell? ⟨M, 0, none⟩ = some m.ksl ∧ W'.cell? ⟨M, 1, none⟩ = some m.rsl) ∧ W'.cell? ⟨M + 1, 0, none⟩ = some (.string k.1) ∧ W'.cell? ⟨M + 1, 1, none⟩ = some (.string k.2)) := fun W' hW => by
    have e1 := (hW M (by omega)).trans h1
    have e2 := (hW (M + 1) (by omega)).trans h2
    exact ⟨⟨by rw [Lib.cell_of_heap e1]; rfl, by rw [Lib.cell_of_heap e1]; rfl⟩, by rw [Lib.cell_of_heap e2]; rfl, by rw [Lib.cell_of_heap e2]; rfl⟩
  have HRS : Hid (∀ W' : World, Below V.heap.size V W' → (W'.cell? ⟨M + 2, 0, none⟩ = some (.slice none 0 0) ∧ W'.cell? ⟨M + 2, 1, none⟩ = some (.slice none 0 0)) ∧ W'.frozen? ⟨M + 2, 0, none⟩ = false ∧ W'.frozen? ⟨M + 2, 1, none⟩ = false) := fun W' hW => by
    have e3 := (hW.block (M + 2) (by omega)).trans h3
    exact ⟨⟨by rw [Lib.cell_of_heap e3]; rfl, by rw [Lib.cell_of_heap e3]; rfl⟩, Lib.frozen_of_heap e3 0, Lib.frozen_of_heap e3 1⟩
  have HIN : Hid (∀ W', Below V.heap.size V W' → MIn W' m) := fun W' hW => hm.on (bel_then hbV hbV.size hW)
  have HB0 : Hid (∀ W', Below V.heap.size V W' → Below w.heap.size w W') := fun W' hW => bel_then hbV hbV.size hW
  have HEA : Hid (∀ x ∈ m.rs, x.atP Pr w) := fun x hx => ⟨hm.each x hx, hpr x hx⟩
  have HD1 := hid (sort12_any m.ksl m.ks V.drew (HIN.out _ (bel_drewN (Below.refl _ _) 1)).keys (by have := hw.1; omega))
  have hw1 := hw.1
  have hw2 := hw.2
  have hsl := inss_len m.ks []
  have hsl2 : (sortK m.ks).length ≤ m.ks.length := by unfold sortK; simpa using hsl
  have HKM : Hid (keyM m.mk' k = (insR ltKy k (sortK m.ks), m.rs.map Rx.rg)) := rfl
  obtain ⟨⟨a0, a1⟩, b0, b1⟩ := HBX.out V (fun _ _ => rfl)
  clear hm hw hbV h1 h2 h3 hsl hpr
  obtain ⟨kp, kc, ks, rp, rc, rs⟩ := m
  obtain ⟨ka, kb⟩ := k
  simp only [encMx, Mx.ksl, Mx.rsl] at *
  generalize keyM _ _ = KM' at *
  go_enter Try.func11, Try.ntmps11
  go_wp2_with fail
  try rw [hV]
  try rw [hM]
  clear hV
  refine wp_region_held_drew (S := fun w' => w'.cell? ⟨M, 0, none⟩ = some (.slice kp ks.length kc) ∧ w'.cell? ⟨M, 1, none⟩ = some (.slice rp rs.length rc) ∧ w'.cell? ⟨M + 1, 0, none⟩ = some (.string ka) ∧ w'.cell? ⟨M + 1, 1, none⟩ = some (.string kb)) (by kernel_rfl) ⟨a0, a1, b0, b1⟩ (fun hHeld => ?_)
  refine take_val (i := 0) (.pointer (some ⟨M, 0, none⟩)) rfl (by kernel_rfl) (by kernel_rfl) (by kernel_rfl) (fun _ _ _ h => h) (by rfl) (fun w hSw => by go_simp) hHeld ?_
  simp only [Act.put, List.setIfInBounds_toArray, List.set_cons_zero, List.set_cons_succ]
  refine take_val (i := 1) (.slice kp ks.length kc) rfl (by kernel_rfl) (by kernel_rfl) (by kernel_rfl) (fun _ _ _ h => h) (by rfl) (fun w hSw => by go_simp) hHeld ?_
  simp only [Act.put, List.setIfInBounds_toArray, List.set_cons_zero, List.set_cons_succ]
  refine take_val (i := 3) (.agg #[.string ka, .string kb]) rfl (by kernel_rfl) (by kernel_rfl) (by kernel_rfl) (fun _ _ _ h => h) (by rfl) (fun w hSw => by go_simp) hHeld ?_
  simp only [Act.put, List.setIfInBounds_toArray, List.set_cons_zero, List.set_cons_succ]
  refine take_val (i := 5) (.pointer (some ⟨M, 1, none⟩)) rfl (by kernel_rfl) (by kernel_rfl) (by kernel_rfl) (fun _ _ _ h => h) (by rfl) (fun w hSw => by go_simp) hHeld ?_
  simp only [Act.put, List.setIfInBounds_toArray, List.set_cons_zero, List.set_cons_succ]
  refine take_val (i := 6) (.slice rp rs.length rc) rfl (by kernel_rfl) (by kernel_rfl) (by kernel_rfl) (fun _ _ _ h => h) (by rfl) (fun w hSw => by go_simp) hHeld ?_
  simp only [Act.put, List.setIfInBounds_toArray, List.set_cons_zero, List.set_cons_succ]
  clear hHeld a0 a1 b0 b1
  refine wpAnyH_ready (rs := [2]) (by kernel_rfl) (by simp) ?_
  refine AllReadyH.cons (at_drop0 rfl) (fun K hK => ?_) AllReadyH.nil
  rw [if_pos (by rfl)]
  go_simp
  refine HD1.out.mono ?_
  rintro e w1 ⟨u1, rfl, ho1, hb1⟩
  have hb1' : Below V.heap.size V w1 := (bel_drewN (Below.refl _ _) 1).trans hb1
  obtain ⟨⟨a0, a1⟩, b0, b1⟩ := HBX.out w1 (fun b hb => hb1'.block b (by omega))
  have HP := hid (kput12 V.heap.size u1 (sortK ks) (ka, kb) w1 ho1 hb1'.size (sortK_spec ks).1 (by omega))
  have HB1 := hid hb1'
  clear ho1 hb1 hb1' HD1
  go_wp2_with fail
  refine hK.out _ _ (⟨a0, a1, b0, b1⟩) (fun hHeld => ?_)
  clear hK K
  try simp only [Act.put, List.setIfInBounds_toArray, List.set_cons_zero, List.set_cons_succ]
  clear hHeld a0 a1 b0 b1
  refine wpAnyH_ready (rs := [4]) (by kernel_rfl) (by simp) ?_
  refine AllReadyH.cons (at_drop0 rfl) (fun K hK => ?_) AllReadyH.nil
  rw [if_pos (by rfl)]
  go_simp
  refine HP.out.mono ?_
  rintro e w2 ⟨u2, rfl, ho2, hb2⟩
  obtain ⟨L1, hL1⟩ : ∃ L1, insR ltKy (ka, kb) (sortK ks) = L1 := ⟨_, rfl⟩
  rw [hL1] at ho2 HKM
  obtain ⟨p2, c2, rfl⟩ := Kind.own_shape ho2
  have hb2' : Below V.heap.size V w2 := HB1.out.trans hb2
  obtain ⟨⟨a0, a1⟩, b0, b1⟩ := HBX.out w2 (fun b hb => hb2'.block b (by omega))
  have HR := hid (ranges12_any (.slice rp rs.length rc) rs w2 (HIN.out w2 hb2').rows (by omega))
  have HO2 := hid ho2
  have HB2 := hid hb2'
  clear ho2 hb2 hb2' HP hL1 HB1
  go_wp2_with fail
  refine hK.out _ _ (⟨a0, a1, b0, b1⟩) (fun hHeld => ?_)
  clear hK K
  try simp only [Act.put, List.setIfInBounds_toArray, List.set_cons_zero, List.set_cons_succ]
  clear hHeld a0 a1 b0 b1
  refine wpAnyH_ready (rs := [7]) (by kernel_rfl) (by simp) ?_
  refine AllReadyH.cons (at_drop0 rfl) (fun K hK => ?_) AllReadyH.nil
  rw [if_pos (by rfl)]
  go_simp
  refine HR.out.mono ?_
  rintro e w3 ⟨p3, c3, rfl, hst3⟩
  have hb3' : Below V.heap.size V w3 := bel_then HB2.out HB2.out.size hst3.bel
  obtain ⟨⟨a0, a1⟩, b0, b1⟩ := HBX.out w3 (fun b hb => hb3'.block b (by omega))
  obtain ⟨⟨q0, q1⟩, r0, r1⟩ := HRS.out w3 hb3'
  have HO3 := hid (Kind.own_on HO2.out hst3.bel)
  have HS3 : Hid (KRx.Own V.heap.size w3 (.slice p3 rs.length c3) rs) := Kind.own_weak hst3.own HB2.out.size
  have HB3 := hid hb3'
  obtain ⟨W4, hW4⟩ : ∃ W4, (w3.setCell ⟨M + 2, 0, none⟩ (.slice p2 L1.length c2)).setCell ⟨M + 2, 1, none⟩ (.slice p3 rs.length c3) = W4 := ⟨_, rfl⟩
  obtain ⟨⟨e0, e1⟩, e2, e3⟩ := HBX.out W4 (fun b hb => by
    rw [← hW4, heap_setCell_other _ _ b _ (by show b ≠ M + 2; omega), heap_setCell_other _ _ b _ (by show b ≠ M + 2; omega)]
    exact hb3'.block b (by omega))
  have g0 : W4.cell? ⟨M + 2, 0, none⟩ = some (.slice p2 L1.length c2) := by rw [← hW4]; simp [go_sem, q0]
  have g1 : W4.cell? ⟨M + 2, 1, none⟩ = some (.slice p3 rs.length c3) := by rw [← hW4]; simp [go_sem, q1]
  have HG := hid (And.intro g0 g1)
  have HB4 : Hid (Below w.heap.size w W4) := by
    rw [← hW4]
    have h3 := HB0.out w3 hb3'
    rw [hM] at h3 ⊢
    exact (h3.setCell (show M ≤ M + 2 by omega) _).setCell (show M ≤ M + 2 by omega) _
  have HK4 : Hid (KK.Own V.heap.size W4 (.slice p2 L1.length c2) L1 ∧ KRx.Own V.heap.size W4 (.slice p3 rs.length c3) rs) := by
    rw [← hW4]
    exact ⟨own_cell (own_cell HO3.out (by omega) _ _) (by omega) _ _, own_cell (own_cell HS3.out (by omega) _ _) (by omega) _ _⟩
  clear hst3 hb3' HR HO2 g0 g1
  go_wp2_with fail
  refine hK.out _ _ (⟨a0, a1, b0, b1⟩) (fun hHeld => ?_)
  clear hK K
  try simp only [Act.put, List.setIfInBounds_toArray, List.set_cons_zero, List.set_cons_succ]
  refine take_val (i := 8) (.agg #[.slice p2 L1.length c2, .slice p3 rs.length c3]) rfl (by kernel_rfl) (by kernel_rfl) (by kernel_rfl) (fun _ _ _ h => h) (by rfl) (fun w hSw => by go_simp) hHeld ?_
  simp only [Act.put, List.setIfInBounds_toArray, List.set_cons_zero, List.set_cons_succ]
  clear hHeld a0 a1 b0 b1
  refine wpAnyH_ready (rs := [9]) (by kernel_rfl) (by simp) ?_
  refine AllReadyH.cons (at_drop0 rfl) (fun K hK => ?_) AllReadyH.nil
  rw [if_pos (by rfl)]
  go_simp
  go_wp2_with fail
  try rw [hW4]
  refine hK.out _ _ (⟨e0, e1, e2, e3⟩) (fun hHeld => ?_)
  clear hK K
  try simp only [Act.put, List.setIfInBounds_toArray, List.set_cons_zero, List.set_cons_succ]
  refine wpAnyH_done (by kernel_rfl) ?_ _
  clear hHeld e0 e1 e2 e3 q0 q1 r0 r1
  obtain ⟨g0, g1⟩ := HG.out
  have hwV : w.heap.size ≤ V.heap.size := by omega
  go_wp2_with fail
  refine bodyPost_ret (v := .agg #[.slice p2 L1.length c2, .slice p3 rs.length c3]) (by simp [results, Try.results11, go_sem, g0, g1]) rfl ⟨⟨p2, c2, L1, p3, c3, rs⟩, rfl, ⟨Kind.own_is HK4.out.1, Kind.own_is HK4.out.2, fun r hr => (HEA.out r hr).on HB4.out⟩, HKM.out.symm, HB4.out, Or.inl (Kind.own_weak HK4.out.1 hwV), Kind.own_weak HK4.out.2 hwV, HEA.out⟩

set_option maxHeartbeats 8000000 in
set_option maxRecDepth 100000 in
theorem range12_any (Pr : Rx → Prop) (Kr : Value → List Ky → Prop) (m : Mx) (r : Rx) (w : World) (hm : MIn w m) (hw : FewM m) (hr : r.at w) (hpr : ∀ x ∈ m.rs, Pr x) (hpx : Pr r) (hkr : Kr m.ksl m.ks) :
    Calls Try.prog 17 #[.agg (encMx m).toArray, .string r.typ, r.sl] w fun e w' => MarkPost Pr Kr w (rangeM m.mk' r.rg) e w' := by
  obtain ⟨V, hV⟩ : ∃ V, (w.alloc (.cells (encMx m).toArray 25)).alloc (.cells #[.slice none 0 0, .slice none 0 0] 25) = V := ⟨_, rfl⟩
  obtain ⟨M, hM⟩ : ∃ M, w.heap.size = M := ⟨_, rfl⟩
  obtain ⟨hbV, h1, h2, hs⟩ := two_boxes w (encMx m).toArray #[.slice none 0 0, .slice none 0 0] 25 25
  rw [hV] at hbV h1 h2 hs
  rw [hM] at h1 h2 hs
  have HBX : Hid (∀ W' : World, W'.heap[M]? = V.heap[M]? → W'.cell? ⟨M, 0, none⟩ = some m.ksl ∧ W'.cell? ⟨M, 1, none⟩ = some m.rsl) := fun W' hW => by
    have e1 := hW.trans h1
    exact ⟨by rw [Lib.cell_of_heap e1]; rfl, by rw [Lib.cell_of_heap e1]; rfl⟩
  have HRS : Hid (∀ W' : World, Below V.heap.size V W' → (W'.cell? ⟨M + 1, 0, none⟩ = some (.slice none 0 0) ∧ W'.cell? ⟨M + 1, 1, none⟩ = some (.slice none 0 0)) ∧ W'.frozen? ⟨M + 1, 0, none⟩ = false ∧ W'.frozen? ⟨M + 1, 1, none⟩ = false) := fun W' hW => by
    have e3 := (hW.block (M + 1) (by omega)).trans h2
    exact ⟨⟨by rw [Lib.cell_of_heap e3]; rfl, by rw [Lib.cell_of_heap e3]; rfl⟩, Lib.frozen_of_heap e3 0, Lib.frozen_of_heap e3 1⟩
  have HIN : Hid (∀ W', Below V.heap.size V W' → MIn W' m ∧ r.at W') := fun W' hW => ⟨hm.on (bel_then hbV hbV.size hW), hr.on (bel_then hbV hbV.size hW)⟩
  have HB0 : Hid (∀ W', Below V.heap.size V W' → Below w.heap.size w W') := fun W' hW => bel_then hbV hbV.size hW
  have HEA : Hid ((∀ x ∈ m.rs, x.atP Pr w) ∧ r.atP Pr w ∧ KK.Is w m.ksl m.ks ∧ Kr m.ksl m.ks) := ⟨fun x hx => ⟨hm.each x hx, hpr x hx⟩, ⟨hr, hpx⟩, hm.keys, hkr⟩
  have HD1 := hid (ranges12_any m.rsl m.rs V.drew (HIN.out _ (bel_drewN (Below.refl _ _) 1)).1.rows (by have := hw.2; omega))
  have hw1 := hw.1
  have hw2 := hw.2
  have HKM : Hid (rangeM m.mk' r.rg = (m.ks, putR (m.rs.map Rx.rg) r.rg)) := rfl
  obtain ⟨a0, a1⟩ := HBX.out V rfl
  clear hm hw hbV h1 h2 hr
  obtain ⟨kp, kc, ks, rp, rc, rs⟩ := m
  obtain ⟨rt, tp, tc, tm⟩ := r
  simp only [encMx, Mx.ksl, Mx.rsl, Rx.sl] at *
  generalize rangeM _ _ = KM' at *
  go_enter Try.func17, Try.ntmps17
  go_wp2_with fail
  try rw [hV]
  try rw [hM]
  clear hV
  refine wp_region_held_drew (S := fun w' => w'.cell? ⟨M, 0, none⟩ = some (.slice kp ks.length kc) ∧ w'.cell? ⟨M, 1, none⟩ = some (.slice rp rs.length rc)) (by kernel_rfl) ⟨a0, a1⟩ (fun hHeld => ?_)
  refine take_val (i := 0) (.pointer (some ⟨M, 0, none⟩)) rfl (by kernel_rfl) (by kernel_rfl) (by kernel_rfl) (fun _ _ _ h => h) (by rfl) (fun w hSw => by go_simp) hHeld ?_
  simp only [Act.put, List.setIfInBounds_toArray, List.set_cons_zero, List.set_cons_succ]
  refine take_val (i := 1) (.slice kp ks.length kc) rfl (by kernel_rfl) (by kernel_rfl) (by kernel_rfl) (fun _ _ _ h => h) (by rfl) (fun w hSw => by go_simp) hHeld ?_
  simp only [Act.put, List.setIfInBounds_toArray, List.set_cons_zero, List.set_cons_succ]
  refine take_val (i := 2) (.pointer (some ⟨M, 1, none⟩)) rfl (by kernel_rfl) (by kernel_rfl) (by kernel_rfl) (fun _ _ _ h => h) (by rfl) (fun w hSw => by go_simp) hHeld ?_
  simp only [Act.put, List.setIfInBounds_toArray, List.set_cons_zero, List.set_cons_succ]
  refine take_val (i := 3) (.slice rp rs.length rc) rfl (by kernel_rfl) (by kernel_rfl) (by kernel_rfl) (fun _ _ _ h => h) (by rfl) (fun w hSw => by go_simp) hHeld ?_
  simp only [Act.put, List.setIfInBounds_toArray, List.set_cons_zero, List.set_cons_succ]
  refine take_val (i := 5) (.string rt) rfl (by kernel_rfl) (by kernel_rfl) (by kernel_rfl) (fun _ _ _ h => h) (by rfl) (fun w hSw => by go_simp) hHeld ?_
  simp only [Act.put, List.setIfInBounds_toArray, List.set_cons_zero, List.set_cons_succ]
  refine take_val (i := 6) (.slice tp tm.length tc) rfl (by kernel_rfl) (by kernel_rfl) (by kernel_rfl) (fun _ _ _ h => h) (by rfl) (fun w hSw => by go_simp) hHeld ?_
  simp only [Act.put, List.setIfInBounds_toArray, List.set_cons_zero, List.set_cons_succ]
  refine take_val (i := 7) (.agg #[.string rt, .slice tp tm.length tc]) rfl (by kernel_rfl) (by kernel_rfl) (by kernel_rfl) (fun _ _ _ h => h) (by rfl) (fun w hSw => by go_simp) hHeld ?_
  simp only [Act.put, List.setIfInBounds_toArray, List.set_cons_zero, List.set_cons_succ]
  clear hHeld a0 a1
  refine wpAnyH_ready (rs := [4]) (by kernel_rfl) (by simp) ?_
  refine AllReadyH.cons (at_drop0 rfl) (fun K hK => ?_) AllReadyH.nil
  rw [if_pos (by rfl)]
  go_simp
  refine HD1.out.mono ?_
  rintro e w1 ⟨p1, c1, rfl, hst1⟩
  have hb1' : Below V.heap.size V w1 := (bel_drewN (Below.refl _ _) 1).trans hst1.bel
  obtain ⟨a0, a1⟩ := HBX.out w1 (hb1'.block M (by omega))
  have HP := hid (put12_any hst1 (fun x hx => (HEA.out.1 x hx).on (HB0.out w1 hb1')) ⟨rt, tp, tc, tm⟩ (HIN.out w1 hb1').2 (by omega))
  have HB1 := hid hb1'
  simp only [encRx, Rx.sl] at HP
  clear hst1 hb1' HD1
  go_wp2_with fail
  refine hK.out _ _ (⟨a0, a1⟩) (fun hHeld => ?_)
  clear hK K
  try simp only [Act.put, List.setIfInBounds_toArray, List.set_cons_zero, List.set_cons_succ]
  clear hHeld a0 a1
  refine wpAnyH_ready (rs := [8]) (by kernel_rfl) (by simp) ?_
  refine AllReadyH.cons (at_drop0 rfl) (fun K hK => ?_) AllReadyH.nil
  rw [if_pos (by rfl)]
  go_simp
  refine HP.out.mono ?_
  rintro e w2 ⟨p2, c2, l2, rfl, hst2, hl2, hm2⟩
  have hb2' : Below V.heap.size V w2 := (bel_drewN (Below.refl _ _) 1).trans hst2.bel
  obtain ⟨a0, a1⟩ := HBX.out w2 (hb2'.block M (by omega))
  obtain ⟨⟨q0, q1⟩, r0, r1⟩ := HRS.out w2 hb2'
  have HS2 : Hid (KRx.Own V.heap.size w2 (.slice p2 l2.length c2) l2) := hst2.own
  have HE2 : Hid (∀ x ∈ l2, x.atP Pr w) := fun x hx => by
    rcases hm2 x hx with h | h
    · exact HEA.out.1 x h
    · rw [h]; exact HEA.out.2.1
  obtain ⟨W4, hW4⟩ : ∃ W4, (w2.setCell ⟨M + 1, 0, none⟩ (.slice kp ks.length kc)).setCell ⟨M + 1, 1, none⟩ (.slice p2 l2.length c2) = W4 := ⟨_, rfl⟩
  obtain ⟨e0, e1⟩ := HBX.out W4 (by
    rw [← hW4, heap_setCell_other _ _ M _ (by show M ≠ M + 1; omega), heap_setCell_other _ _ M _ (by show M ≠ M + 1; omega)]
    exact hb2'.block M (by omega))
  have g0 : W4.cell? ⟨M + 1, 0, none⟩ = some (.slice kp ks.length kc) := by rw [← hW4]; simp [go_sem, q0]
  have g1 : W4.cell? ⟨M + 1, 1, none⟩ = some (.slice p2 l2.length c2) := by rw [← hW4]; simp [go_sem, q1]
  have HG := hid (And.intro g0 g1)
  have HB4 : Hid (Below w.heap.size w W4) := by
    rw [← hW4]
    have h3 := HB0.out w2 hb2'
    rw [hM] at h3 ⊢
    exact (h3.setCell (show M ≤ M + 1 by omega) _).setCell (show M ≤ M + 1 by omega) _
  have HK4 : Hid (KRx.Own V.heap.size W4 (.slice p2 l2.length c2) l2) := by
    rw [← hW4]
    exact own_cell (own_cell HS2.out (by omega) _ _) (by omega) _ _
  have HL2 := hid hl2
  clear hst2 hb2' hl2 hm2 HP g0 g1
  go_wp2_with fail
  refine hK.out _ _ (⟨a0, a1⟩) (fun hHeld => ?_)
  clear hK K
  try simp only [Act.put, List.setIfInBounds_toArray, List.set_cons_zero, List.set_cons_succ]
  refine take_val (i := 9) (.agg #[.slice kp ks.length kc, .slice p2 l2.length c2]) rfl (by kernel_rfl) (by kernel_rfl) (by kernel_rfl) (fun _ _ _ h => h) (by rfl) (fun w hSw => by go_simp) hHeld ?_
  simp only [Act.put, List.setIfInBounds_toArray, List.set_cons_zero, List.set_cons_succ]
  clear hHeld a0 a1
  refine wpAnyH_ready (rs := [10]) (by kernel_rfl) (by simp) ?_
  refine AllReadyH.cons (at_drop0 rfl) (fun K hK => ?_) AllReadyH.nil
  rw [if_pos (by rfl)]
  go_simp
  go_wp2_with fail
  try rw [hW4]
  refine hK.out _ _ (⟨e0, e1⟩) (fun hHeld => ?_)
  clear hK K
  try simp only [Act.put, List.setIfInBounds_toArray, List.set_cons_zero, List.set_cons_succ]
  refine wpAnyH_done (by kernel_rfl) ?_ _
  clear hHeld e0 e1 q0 q1 r0 r1
  obtain ⟨g0, g1⟩ := HG.out
  have hwV : w.heap.size ≤ V.heap.size := by omega
  go_wp2_with fail
  refine bodyPost_ret (v := .agg #[.slice kp ks.length kc, .slice p2 l2.length c2]) (by simp [results, Try.results17, go_sem, g0, g1]) rfl ⟨⟨kp, kc, ks, p2, c2, l2⟩, rfl, ⟨Kind.is_kept HEA.out.2.2.1 HB4.out, Kind.own_is HK4.out, fun r hr => (HE2.out r hr).on HB4.out⟩, ?_, HB4.out, Or.inr HEA.out.2.2, Kind.own_weak HK4.out hwV, HE2.out⟩
  rw [HKM.out, ← HL2.out]
  rfl

end Go.Proofs.Ythdakljoabbghaa

/-
  The reference's marks (stage 12): Union.
-/
namespace Go.Proofs.Ythdakljoabbghaa
open Go.RowKit

/-- On the way: of V's blocks only the local marks' has turned, and they say kv, rv. -/
structure UnSt (V : World) (G : Nat) (kv rv : Value) (w : World) : Prop where
  fr : Fr (fun k => k = G) V w
  loc : w.heap[G]? = some (.cells #[kv, rv] 25 (0, 0))

section
variable {V : World} {G : Nat} {kv rv : Value} {w : World}
theorem UnSt.on {w' : World} (h : UnSt V G kv rv w) (hG : G < V.heap.size) (hb : Below V.heap.size w w') : UnSt V G kv rv w' :=
  ⟨h.fr.then (Q := fun k => V.heap.size ≤ k) ⟨hb.os, hb.tape, hb.output, hb.size, fun k _ hn => hb.block k (by omega)⟩ fun _ hk => Or.inr hk, (hb.block G hG).trans h.loc⟩
theorem UnSt.key (h : UnSt V G kv rv w) (x : Value) : UnSt V G x rv (w.setCell ⟨G, 0, none⟩ x) :=
  ⟨h.fr.then (Q := fun k => k = G) ⟨rfl, rfl, rfl, by simp, fun k _ hn => heap_setCell_other w _ k _ hn⟩ fun k hk => Or.inl hk, heap_setCell_same w G 0 _ _ x h.loc⟩
theorem UnSt.row (h : UnSt V G kv rv w) (x : Value) : UnSt V G kv x (w.setCell ⟨G, 1, none⟩ x) :=
  ⟨h.fr.then (Q := fun k => k = G) ⟨rfl, rfl, rfl, by simp, fun k _ hn => heap_setCell_other w _ k _ hn⟩ fun k hk => Or.inl hk, heap_setCell_same w G 1 _ _ x h.loc⟩
theorem UnSt.cells (h : UnSt V G kv rv w) : (w.cell? ⟨G, 0, none⟩ = some kv ∧ w.cell? ⟨G, 1, none⟩ = some rv) ∧ w.frozen? ⟨G, 0, none⟩ = false ∧ w.frozen? ⟨G, 1, none⟩ = false :=
  ⟨⟨by rw [Lib.cell_of_heap h.loc]; rfl, by rw [Lib.cell_of_heap h.loc]; rfl⟩, Lib.frozen_of_heap h.loc 0, Lib.frozen_of_heap h.loc 1⟩
theorem UnSt.then {V' : World} {kv' rv' : Value} (h : UnSt V G kv rv V') (h' : UnSt V' G kv' rv' w) : UnSt V G kv' rv' w :=
  ⟨h.fr.then h'.fr fun _ hk => Or.inl hk, h'.loc⟩
end

/-- Four boxes. -/
theorem four_boxes (w : World) (c1 c2 c3 c4 : Array Value) (t : TypeId) (V : World) (hV : (((w.alloc (.cells c1 t)).alloc (.cells c2 t)).alloc (.cells c3 t)).alloc (.cells c4 t) = V) : Below w.heap.size w V ∧ V.heap[w.heap.size]? = some (.cells c1 t (0, 0)) ∧ V.heap[w.heap.size + 1]? = some (.cells c2 t (0, 0)) ∧ V.heap[w.heap.size + 2]? = some (.cells c3 t (0, 0)) ∧ V.heap[w.heap.size + 3]? = some (.cells c4 t (0, 0)) ∧ V.heap.size = w.heap.size + 4 := by
  obtain ⟨U, hU⟩ : ∃ U, ((w.alloc (.cells c1 t)).alloc (.cells c2 t)).alloc (.cells c3 t) = U := ⟨_, rfl⟩
  obtain ⟨h1, h2, h3, h4, h5⟩ := three_boxes w c1 c2 c3 t t t U hU
  rw [hU] at hV
  subst hV
  have hb : Below U.heap.size U (U.alloc (.cells c4 t)) := (Below.refl _ _).alloc (Nat.le_refl _) _
  have h6 : (U.alloc (.cells c4 t)).heap[U.heap.size]? = some (.cells c4 t (0, 0)) := heap_alloc_new U _
  rw [h5] at h6
  exact ⟨bel_then h1 h1.size hb, (hb.block _ (by omega)).trans h2, (hb.block _ (by omega)).trans h3, (hb.block _ (by omega)).trans h4, h6, by simp; omega⟩

set_option maxHeartbeats 16000000 in
set_option maxRecDepth 100000 in
theorem union12_any (Pr : Rx → Prop) (Kr : Value → List Ky → Prop) (a b : Mx) (w : World) (ha : MIn w a) (hb : MIn w b) (hfa : FewM a) (hfb : FewM b) (hpa : ∀ x ∈ a.rs, Pr x) (hpb : ∀ x ∈ b.rs, Pr x) :
    Calls Try.prog 13 #[.agg (encMx a).toArray, .agg (encMx b).toArray] w fun e w' => MarkPost Pr Kr w (unionM a.mk' b.mk') e w' := by
  obtain ⟨V, hV⟩ : ∃ V, (((w.alloc (.cells (encMx a).toArray 25)).alloc (.cells (encMx b).toArray 25)).alloc (.cells #[.slice none 0 0, .slice none 0 0] 25)).alloc (.cells #[.slice none 0 0, .slice none 0 0] 25) = V := ⟨_, rfl⟩
  obtain ⟨M, hM⟩ : ∃ M, w.heap.size = M := ⟨_, rfl⟩
  obtain ⟨hbV, h1, h2, h3, h4, hs⟩ := four_boxes w _ _ _ _ _ V hV
  rw [hM] at h1 h2 h3 h4 hs
  obtain ⟨hfa1, hfa2⟩ := hfa
  obtain ⟨hfb1, hfb2⟩ := hfb
  have HIN : Hid (∀ W', Fr (fun k => k = M + 3) V W' → MIn W' a ∧ MIn W' b ∧ Below w.heap.size w W' ∧ (W'.cell? ⟨M, 0, none⟩ = some a.ksl ∧ W'.cell? ⟨M, 1, none⟩ = some a.rsl) ∧ (W'.cell? ⟨M + 1, 0, none⟩ = some b.ksl ∧ W'.cell? ⟨M + 1, 1, none⟩ = some b.rsl) ∧ (W'.cell? ⟨M + 2, 0, none⟩ = some (.slice none 0 0) ∧ W'.cell? ⟨M + 2, 1, none⟩ = some (.slice none 0 0)) ∧ W'.frozen? ⟨M + 2, 0, none⟩ = false ∧ W'.frozen? ⟨M + 2, 1, none⟩ = false) := fun W' hW => by
    have hb' : Below w.heap.size w W' := by
      have h9 : Below w.heap.size V W' := hW.below (by omega) fun k hk => by omega
      exact hbV.trans h9
    have e1 := (hW.block M (by omega) (by omega)).trans h1
    have e2 := (hW.block (M + 1) (by omega) (by omega)).trans h2
    have e3 := (hW.block (M + 2) (by omega) (by omega)).trans h3
    exact ⟨ha.on hb', hb.on hb', hb', ⟨by rw [Lib.cell_of_heap e1]; rfl, by rw [Lib.cell_of_heap e1]; rfl⟩, ⟨by rw [Lib.cell_of_heap e2]; rfl, by rw [Lib.cell_of_heap e2]; rfl⟩, ⟨by rw [Lib.cell_of_heap e3]; rfl, by rw [Lib.cell_of_heap e3]; rfl⟩, Lib.frozen_of_heap e3 0, Lib.frozen_of_heap e3 1⟩
  have HEA : Hid ((∀ x ∈ a.rs, x.atP Pr w) ∧ ∀ x ∈ b.rs, x.atP Pr w) := ⟨fun x hx => ⟨ha.each x hx, hpa x hx⟩, fun x hx => ⟨hb.each x hx, hpb x hx⟩⟩
  have HEB : Hid (KK.Is w b.ksl b.ks ∧ KRx.Is w a.rsl a.rs ∧ KRx.Is w b.rsl b.rs) := ⟨hb.keys, ha.rows, hb.rows⟩
  have HU0 : Hid (UnSt V (M + 3) (.slice none 0 0) (.slice none 0 0) V) := ⟨Fr.refl _ _, h4⟩
  have HD1 := hid (sort12_any a.ksl a.ks V (HIN.out V (Fr.refl _ _)).1.keys (by omega))
  have hsl2 : (sortK a.ks).length ≤ a.ks.length := by have := inss_len a.ks []; unfold sortK; simpa using this
  have HKM : Hid (unionM a.mk' b.mk' = (b.ks.foldl (fun acc k => insR ltKy k acc) (sortK a.ks), (b.rs.map Rx.rg).foldl putR ((a.rs.map Rx.rg).foldl putR []))) := rfl
  obtain ⟨_, _, _, ⟨a0, a1⟩, _⟩ := HIN.out V (Fr.refl _ _)
  clear ha hb hbV h1 h2 h3 h4
  obtain ⟨kp, kc, ks, rp, rc, rs⟩ := a
  obtain ⟨lp, lc, ls, sp, sc, ss⟩ := b
  simp only [encMx, Mx.ksl, Mx.rsl] at *
  generalize unionM _ _ = KM' at *
  have HSK := hid (sortK_spec ks).1
  generalize sortK ks = K0 at *
  obtain ⟨⟨q0, q1⟩, r0, r1⟩ := HU0.out.cells
  go_enter Try.func13, Try.ntmps13
  go_wp2_with fail
  try rw [hV]
  try rw [hM]
  clear hV a0 a1 q0 q1 r0 r1
  refine HD1.out.mono ?_
  rintro e w1 ⟨u1, rfl, ho1, hb1⟩
  obtain ⟨p1, c1, rfl⟩ := Kind.own_shape ho1
  have hu1 := HU0.out.on (show M + 3 < V.heap.size by omega) hb1
  obtain ⟨⟨q0, q1⟩, r0, r1⟩ := hu1.cells
  have HU1 := hid (hu1.key (.slice p1 K0.length c1))
  have HO1 : Hid (KK.Own V.heap.size (w1.setCell ⟨M + 3, 0, none⟩ (.slice p1 K0.length c1)) (.slice p1 K0.length c1) K0) := own_cell ho1 (by omega) _ _
  clear hu1 ho1 hb1 HD1 HU0
  go_wp2_with fail
  clear q0 q1 r0 r1
  go_loopg [6] ls.length (fun gg vi wr => ∃ (i : Nat) (p' : Option Addr) (c' : Nat) (A : List Ky), vi = .int .i64 i ∧ i ≤ ls.length ∧ ls.length - i ≤ gg ∧ A.length ≤ K0.length + i ∧ Hid (UnSt V (M + 3) (.slice p' A.length c') (.slice none 0 0) wr ∧ KK.Own V.heap.size wr (.slice p' A.length c') A ∧ A = (ls.take i).foldl (fun acc k => insR ltKy k acc) K0))
  case atStart => exact ⟨0, p1, c1, K0, rfl, by omega, by omega, by omega, HU1.out, HO1.out, rfl⟩
  case round =>
    clear HU1 HO1
    obtain ⟨i, p', c', A, rfl, hi, hgk, hAl, HI⟩ := hrel
    obtain ⟨_, _, hbe, ⟨a0, a1⟩, ⟨b0, b1⟩, _⟩ := HIN.out wr HI.out.1.fr
    obtain ⟨⟨q0, q1⟩, r0, r1⟩ := HI.out.1.cells
    by_cases hlt : i < ls.length
    · have hltz : (i : Int) < (ls.length : Int) := by omega
      have hiz : (0 : Int) ≤ i := by omega
      obtain ⟨b7, o7, rfl, k7⟩ : ∃ b off, lp = some ⟨b, off, none⟩ ∧ KK.At w b off ls := by
        obtain ⟨p', c', he, h⟩ := HEB.out.1
        injection he with e1 _ _
        subst e1
        rcases h with h | h
        · have h' : ls = [] := h
          rw [h'] at hlt; simp at hlt
        · exact h
      obtain ⟨y0, y1⟩ := kk_at (Kind.at_kept k7 hbe) i hlt
      have hri : RisingR ltKy A := by rw [HI.out.2.2]; exact (inss_spec _ _ HSK.out).1
      have HP := hid (kput12 V.heap.size _ A ls[i] wr.drew HI.out.2.1 HI.out.1.fr.size hri (by omega))
      have hAn : insR ltKy ls[i] A = (ls.take (i + 1)).foldl (fun acc k => insR ltKy k acc) K0 := by
        rw [List.take_succ_eq_append_getElem hlt, List.foldl_append, ← HI.out.2.2]
        rfl
      have hAm := insK_len ls[i] A
      obtain ⟨A1, hA1⟩ : ∃ A1, insR ltKy ls[i] A = A1 := ⟨_, rfl⟩
      rw [hA1] at HP hAn hAm
      have HAN := hid hAn
      have HNX : Hid (∀ w3, Below V.heap.size wr.drew w3 → UnSt V (M + 3) (.slice p' A.length c') (.slice none 0 0) w3) := fun w3 h3 => (HI.out.1.on (by omega) (bel_drewN (Below.refl _ _) 1)).on (by omega) h3
      have HAT : Hid (∀ W', Below w.heap.size w W' → W'.cell? ⟨b7, o7 + i * 2, none⟩ = some (.string (ls[i]).1) ∧ W'.cell? ⟨b7, o7 + i * 2 + 1, none⟩ = some (.string (ls[i]).2)) := fun W' hW => kk_at (Kind.at_kept k7 hW) i hlt
      clear hbe hri hA1 hAn k7 HI
      generalize ls[i] = x at *
      obtain ⟨xa, xb⟩ := x
      simp only at *
      go_wp2_with fail
      refine wp_region_held_drew (S := fun w' => w'.cell? ⟨M + 1, 0, none⟩ = some (.slice (some ⟨b7, o7, none⟩) ls.length lc) ∧ w'.cell? ⟨b7, o7 + i * 2, none⟩ = some (.string xa) ∧ w'.cell? ⟨b7, o7 + i * 2 + 1, none⟩ = some (.string xb)) (by kernel_rfl) ⟨b0, y0, y1⟩ (fun hHeld => ?_)
      refine take_val (i := 0) (.pointer (some ⟨M + 3, 0, none⟩)) rfl (by kernel_rfl) (by kernel_rfl) (by kernel_rfl) (fun _ _ _ h => h) (by rfl) (fun w hSw => by go_simp) hHeld ?_
      simp only [Act.put, List.setIfInBounds_toArray, List.set_cons_zero, List.set_cons_succ]
      refine take_val (i := 2) (.pointer (some ⟨M + 1, 0, none⟩)) rfl (by kernel_rfl) (by kernel_rfl) (by kernel_rfl) (fun _ _ _ h => h) (by rfl) (fun w hSw => by go_simp) hHeld ?_
      simp only [Act.put, List.setIfInBounds_toArray, List.set_cons_zero, List.set_cons_succ]
      refine take_val (i := 3) (.slice (some ⟨b7, o7, none⟩) ls.length lc) rfl (by kernel_rfl) (by kernel_rfl) (by kernel_rfl) (fun _ _ _ h => h) (by rfl) (fun w hSw => by go_simp) hHeld ?_
      simp only [Act.put, List.setIfInBounds_toArray, List.set_cons_zero, List.set_cons_succ]
      refine take_val (i := 4) (.int .i64 i) rfl (by kernel_rfl) (by kernel_rfl) (by kernel_rfl) (fun _ _ _ h => h) (by rfl) (fun w hSw => by go_simp) hHeld ?_
      simp only [Act.put, List.setIfInBounds_toArray, List.set_cons_zero, List.set_cons_succ]
      refine take_val (i := 5) (.pointer (some ⟨b7, o7 + i * 2, none⟩)) rfl (by kernel_rfl) (by kernel_rfl) (by kernel_rfl) (fun _ _ _ h => h) (by rfl) (fun w hSw => by go_simp) hHeld ?_
      simp only [Act.put, List.setIfInBounds_toArray, List.set_cons_zero, List.set_cons_succ]
      refine take_val (i := 6) (.agg #[.string xa, .string xb]) rfl (by kernel_rfl) (by kernel_rfl) (by kernel_rfl) (fun _ _ _ h => h) (by rfl) (fun w hSw => by go_simp) hHeld ?_
      simp only [Act.put, List.setIfInBounds_toArray, List.set_cons_zero, List.set_cons_succ]
      refine wpAnyH_ready (rs := [1]) (by kernel_rfl) (by simp) ?_
      refine AllReadyH.cons (at_drop0 rfl) (fun K hK => ?_) AllReadyH.nil
      rw [if_pos (by rfl)]
      go_simp
      try go_wp2_with fail
      refine hK.out _ _ hHeld (fun hHeld => ?_)
      clear hK K
      try simp only [Act.put, List.setIfInBounds_toArray, List.set_cons_zero, List.set_cons_succ]
      clear hHeld a0 a1 b0 b1 q0 q1 r0 r1 y0 y1
      refine wpAnyH_ready (rs := [7]) (by kernel_rfl) (by simp) ?_
      refine AllReadyH.cons (at_drop0 rfl) (fun K hK => ?_) AllReadyH.nil
      rw [if_pos (by rfl)]
      go_simp
      refine HP.out.mono ?_
      rintro e w3 ⟨u3, rfl, ho3, hb3⟩
      obtain ⟨p3, c3, rfl⟩ := Kind.own_shape ho3
      have hu3 := HNX.out w3 hb3
      obtain ⟨_, _, hbe3, _, ⟨b0, b1⟩, _⟩ := HIN.out w3 hu3.fr
      obtain ⟨⟨q0, q1⟩, r0, r1⟩ := hu3.cells
      obtain ⟨y0, y1⟩ := HAT.out w3 hbe3
      obtain ⟨W4, hW4⟩ : ∃ W4, w3.setCell ⟨M + 3, 0, none⟩ (.slice p3 A1.length c3) = W4 := ⟨_, rfl⟩
      have hu4 := hu3.key (.slice p3 A1.length c3)
      rw [hW4] at hu4
      obtain ⟨_, _, hbe4, _, ⟨b0', b1'⟩, _⟩ := HIN.out W4 hu4.fr
      obtain ⟨y0', y1'⟩ := HAT.out W4 hbe4
      have HU4 := hid hu4
      have HO4 : Hid (KK.Own V.heap.size W4 (.slice p3 A1.length c3) A1) := by rw [← hW4]; exact own_cell ho3 (by omega) _ _
      clear hu3 hu4 hbe3 hbe4 ho3 hb3 HP HNX HAT
      go_wp2_with fail
      refine hK.out _ _ (⟨b0, y0, y1⟩) (fun hHeld => ?_)
      clear hK K
      try simp only [Act.put, List.setIfInBounds_toArray, List.set_cons_zero, List.set_cons_succ]
      refine take_val (i := 8) (.pointer (some ⟨M + 3, 0, none⟩)) rfl (by kernel_rfl) (by kernel_rfl) (by kernel_rfl) (fun _ _ _ h => h) (by rfl) (fun w hSw => by go_simp) hHeld ?_
      simp only [Act.put, List.setIfInBounds_toArray, List.set_cons_zero, List.set_cons_succ]
      clear hHeld
      refine wpAnyH_ready (rs := [9]) (by kernel_rfl) (by simp) ?_
      refine AllReadyH.cons (at_drop0 rfl) (fun K hK => ?_) AllReadyH.nil
      rw [if_pos (by rfl)]
      go_simp
      go_wp2_with fail
      try rw [hW4]
      refine hK.out _ _ (⟨b0', y0', y1'⟩) (fun hHeld => ?_)
      clear hK K
      try simp only [Act.put, List.setIfInBounds_toArray, List.set_cons_zero, List.set_cons_succ]
      refine wpAnyH_done (by kernel_rfl) ?_ _
      clear hHeld b0 b1 q0 q1 r0 r1 y0 y1 b0' b1' y0' y1' hW4
      go_wp2_with fail
      go_roundg (ls.length - (i + 1))
      case measure => omega
      exact ⟨i + 1, p3, c3, A1, by go_num, by omega, by omega, by omega, HU4.out, HO4.out, HAN.out⟩
    · have hltz : ¬ (i : Int) < (ls.length : Int) := by omega
      have hti : ls.take i = ls := List.take_of_length_le (by omega)
      rw [hti] at HI
      obtain ⟨wA, hwA⟩ : ∃ wA, wr = wA := ⟨_, rfl⟩
      obtain ⟨pA, hpA⟩ : ∃ pA, p' = pA := ⟨_, rfl⟩
      obtain ⟨cA, hcA⟩ : ∃ cA, c' = cA := ⟨_, rfl⟩
      rw [hwA] at HI a0 a1 b0 b1 q0 q1 r0 r1 ⊢
      rw [hpA, hcA] at HI q0
      have HUA := hid HI.out.1
      have HOA := hid HI.out.2.1
      have HAQ := hid HI.out.2.2
      have hGA : M + 3 < wA.heap.size := by have := HI.out.1.fr.size; omega
      have hVA : V.heap.size ≤ wA.heap.size := HI.out.1.fr.size
      have HIA : Hid (UnSt wA (M + 3) (.slice pA A.length cA) (.slice none 0 0) wA) := ⟨Fr.refl _ _, HI.out.1.loc⟩
      clear HI hti hbe hwA hpA hcA
      go_wp2_with fail
      clear a0 a1 b0 b1 q0 q1 r0 r1 hltz hlt hi hgk
      go_loopg [7] rs.length (fun gg vi wr => ∃ (i : Nat) (p' : Option Addr) (c' : Nat) (R : List Rx), vi = .int .i64 i ∧ i ≤ rs.length ∧ rs.length - i ≤ gg ∧ R.length ≤ 0 + i ∧ Hid (UnSt wA (M + 3) (.slice pA A.length cA) (.slice p' R.length c') wr ∧ KRx.Own wA.heap.size wr (.slice p' R.length c') R ∧ R.map Rx.rg = ((rs.take i).map Rx.rg).foldl putR [] ∧ ∀ x ∈ R, x.atP Pr w))
      case atStart => exact ⟨0, none, 0, [], rfl, by omega, by omega, by simp, HIA.out, Kind.own_nil _ _ _, rfl, fun x hx => by simp at hx⟩
      case round =>
        clear HIA
        obtain ⟨i, p', c', R, rfl, hi, hgk, hRl, HI⟩ := hrel
        obtain ⟨_, _, hbe, ⟨a0, a1⟩, ⟨b0, b1⟩, ⟨d0, d1⟩, f0, f1⟩ := HIN.out wr (HUA.out.then HI.out.1).fr
        obtain ⟨⟨q0, q1⟩, r0, r1⟩ := HI.out.1.cells
        by_cases hlt : i < rs.length
        · have hltz : (i : Int) < (rs.length : Int) := by omega
          have hiz : (0 : Int) ≤ i := by omega
          obtain ⟨b7, o7, rfl, k7⟩ : ∃ b off, rp = some ⟨b, off, none⟩ ∧ KRx.At w b off rs := by
            obtain ⟨p', c', he, h⟩ := HEB.out.2.1
            injection he with e1 _ _
            subst e1
            rcases h with h | h
            · have h' : rs = [] := h
              rw [h'] at hlt; simp at hlt
            · exact h
          obtain ⟨y0, y1⟩ := krx_at (Kind.at_kept k7 hbe) i hlt
          have hbd : Below w.heap.size w wr.drew := bel_drewN hbe 1
          have hxa := HEA.out.1 _ (List.getElem_mem hlt)
          have HP := hid (put12_any (N := wA.heap.size) (W := wr.drew) (w := wr.drew) ⟨HI.out.2.1, Below.refl _ _, HI.out.1.fr.size⟩ (fun x hx => (HI.out.2.2.2 x hx).on hbd) rs[i] (hxa.on hbd) (by omega))
          have HAN : Hid (putR (R.map Rx.rg) (rs[i]).rg = ((rs.take (i + 1)).map Rx.rg).foldl putR []) := by
            show _ = _
            rw [List.take_succ_eq_append_getElem hlt, List.map_append, List.foldl_append, ← HI.out.2.2.1]
            rfl
          have HAE : Hid (∀ x, x ∈ R ∨ x = rs[i] → x.atP Pr w) := fun x hx => by
            rcases hx with hx | hx
            · exact HI.out.2.2.2 x hx
            · rw [hx]; exact hxa
          have HRN : Hid (∀ l' : List Rx, l'.map Rx.rg = putR (R.map Rx.rg) (rs[i]).rg → l'.length ≤ R.length + 1) := fun l' h => by
            have h1 := congrArg List.length h
            have h2 := putR_len (R.map Rx.rg) (rs[i]).rg
            rw [List.length_map] at h1 h2
            omega
          have HNX : Hid (∀ w3, Below wA.heap.size wr.drew w3 → UnSt wA (M + 3) (.slice pA A.length cA) (.slice p' R.length c') w3) := fun w3 h3 => (HI.out.1.on hGA (bel_drewN (Below.refl _ _) 1)).on hGA h3
          have HAT : Hid (∀ W', Below w.heap.size w W' → W'.cell? ⟨b7, o7 + i * 2, none⟩ = some (.string (rs[i]).typ) ∧ W'.cell? ⟨b7, o7 + i * 2 + 1, none⟩ = some (rs[i]).sl) := fun W' hW => krx_at (Kind.at_kept k7 hW) i hlt
          clear hbe hbd hxa k7 HI
          generalize rs[i] = x at *
          obtain ⟨xt, xp, xc, xm⟩ := x
          simp only [encRx, Rx.sl] at *
          go_wp2_with fail
          refine wp_region_held_drew (S := fun w' => w'.cell? ⟨M, 1, none⟩ = some (.slice (some ⟨b7, o7, none⟩) rs.length rc) ∧ w'.cell? ⟨b7, o7 + i * 2, none⟩ = some (.string xt) ∧ w'.cell? ⟨b7, o7 + i * 2 + 1, none⟩ = some (.slice xp xm.length xc)) (by kernel_rfl) ⟨a1, y0, y1⟩ (fun hHeld => ?_)
          refine take_val (i := 0) (.pointer (some ⟨M + 3, 1, none⟩)) rfl (by kernel_rfl) (by kernel_rfl) (by kernel_rfl) (fun _ _ _ h => h) (by rfl) (fun w hSw => by go_simp) hHeld ?_
          simp only [Act.put, List.setIfInBounds_toArray, List.set_cons_zero, List.set_cons_succ]
          refine take_val (i := 2) (.pointer (some ⟨M, 1, none⟩)) rfl (by kernel_rfl) (by kernel_rfl) (by kernel_rfl) (fun _ _ _ h => h) (by rfl) (fun w hSw => by go_simp) hHeld ?_
          simp only [Act.put, List.setIfInBounds_toArray, List.set_cons_zero, List.set_cons_succ]
          refine take_val (i := 3) (.slice (some ⟨b7, o7, none⟩) rs.length rc) rfl (by kernel_rfl) (by kernel_rfl) (by kernel_rfl) (fun _ _ _ h => h) (by rfl) (fun w hSw => by go_simp) hHeld ?_
          simp only [Act.put, List.setIfInBounds_toArray, List.set_cons_zero, List.set_cons_succ]
          refine take_val (i := 4) (.int .i64 i) rfl (by kernel_rfl) (by kernel_rfl) (by kernel_rfl) (fun _ _ _ h => h) (by rfl) (fun w hSw => by go_simp) hHeld ?_
          simp only [Act.put, List.setIfInBounds_toArray, List.set_cons_zero, List.set_cons_succ]
          refine take_val (i := 5) (.pointer (some ⟨b7, o7 + i * 2, none⟩)) rfl (by kernel_rfl) (by kernel_rfl) (by kernel_rfl) (fun _ _ _ h => h) (by rfl) (fun w hSw => by go_simp) hHeld ?_
          simp only [Act.put, List.setIfInBounds_toArray, List.set_cons_zero, List.set_cons_succ]
          refine take_val (i := 6) (.agg #[.string xt, .slice xp xm.length xc]) rfl (by kernel_rfl) (by kernel_rfl) (by kernel_rfl) (fun _ _ _ h => h) (by rfl) (fun w hSw => by go_simp) hHeld ?_
          simp only [Act.put, List.setIfInBounds_toArray, List.set_cons_zero, List.set_cons_succ]
          refine wpAnyH_ready (rs := [1]) (by kernel_rfl) (by simp) ?_
          refine AllReadyH.cons (at_drop0 rfl) (fun K hK => ?_) AllReadyH.nil
          rw [if_pos (by rfl)]
          go_simp
          try go_wp2_with fail
          refine hK.out _ _ hHeld (fun hHeld => ?_)
          clear hK K
          try simp only [Act.put, List.setIfInBounds_toArray, List.set_cons_zero, List.set_cons_succ]
          clear hHeld a0 a1 b0 b1 q0 q1 r0 r1 y0 y1 d0 d1 f0 f1
          refine wpAnyH_ready (rs := [7]) (by kernel_rfl) (by simp) ?_
          refine AllReadyH.cons (at_drop0 rfl) (fun K hK => ?_) AllReadyH.nil
          rw [if_pos (by rfl)]
          go_simp
          refine HP.out.mono ?_
          rintro e w3 ⟨p3, c3, l3, rfl, hst3, hl3, hm3⟩
          have hu3 := HNX.out w3 hst3.bel
          obtain ⟨_, _, hbe3, ⟨a0, a1⟩, ⟨b0, b1⟩, _⟩ := HIN.out w3 (HUA.out.then hu3).fr
          obtain ⟨⟨q0, q1⟩, r0, r1⟩ := hu3.cells
          obtain ⟨y0, y1⟩ := HAT.out w3 hbe3
          obtain ⟨W4, hW4⟩ : ∃ W4, w3.setCell ⟨M + 3, 1, none⟩ (.slice p3 l3.length c3) = W4 := ⟨_, rfl⟩
          have hu4 := hu3.row (.slice p3 l3.length c3)
          rw [hW4] at hu4
          obtain ⟨_, _, hbe4, ⟨a0', a1'⟩, ⟨b0', b1'⟩, _⟩ := HIN.out W4 (HUA.out.then hu4).fr
          obtain ⟨y0', y1'⟩ := HAT.out W4 hbe4
          have HU4 := hid hu4
          have HO4 : Hid (KRx.Own wA.heap.size W4 (.slice p3 l3.length c3) l3) := by rw [← hW4]; exact own_cell hst3.own hGA _ _
          have HE4 : Hid (l3.map Rx.rg = ((rs.take (i + 1)).map Rx.rg).foldl putR [] ∧ ∀ x ∈ l3, x.atP Pr w) := ⟨hl3.trans HAN.out, fun x hx => HAE.out x (hm3 x hx)⟩
          have hR4 := HRN.out l3 hl3
          clear hu3 hu4 hbe3 hbe4 hst3 hl3 hm3 HP HAN HAE HRN HNX HAT
          go_wp2_with fail
          refine hK.out _ _ (⟨a1, y0, y1⟩) (fun hHeld => ?_)
          clear hK K
          try simp only [Act.put, List.setIfInBounds_toArray, List.set_cons_zero, List.set_cons_succ]
          refine take_val (i := 8) (.pointer (some ⟨M + 3, 1, none⟩)) rfl (by kernel_rfl) (by kernel_rfl) (by kernel_rfl) (fun _ _ _ h => h) (by rfl) (fun w hSw => by go_simp) hHeld ?_
          simp only [Act.put, List.setIfInBounds_toArray, List.set_cons_zero, List.set_cons_succ]
          clear hHeld
          refine wpAnyH_ready (rs := [9]) (by kernel_rfl) (by simp) ?_
          refine AllReadyH.cons (at_drop0 rfl) (fun K hK => ?_) AllReadyH.nil
          rw [if_pos (by rfl)]
          go_simp
          go_wp2_with fail
          try rw [hW4]
          refine hK.out _ _ (⟨a1', y0', y1'⟩) (fun hHeld => ?_)
          clear hK K
          try simp only [Act.put, List.setIfInBounds_toArray, List.set_cons_zero, List.set_cons_succ]
          refine wpAnyH_done (by kernel_rfl) ?_ _
          clear hHeld a0 a1 b0 b1 q0 q1 r0 r1 y0 y1 a0' a1' b0' b1' y0' y1' hW4
          go_wp2_with fail
          go_roundg (rs.length - (i + 1))
          case measure => omega
          exact ⟨i + 1, p3, c3, l3, by go_num, by omega, by omega, by omega, HU4.out, HO4.out, HE4.out⟩
        · have hltz : ¬ (i : Int) < (rs.length : Int) := by omega
          have hti : rs.take i = rs := List.take_of_length_le (by omega)
          rw [hti] at HI
          obtain ⟨p2, hp2⟩ : ∃ p2, p' = p2 := ⟨_, rfl⟩
          obtain ⟨c2, hc2⟩ : ∃ c2, c' = c2 := ⟨_, rfl⟩
          obtain ⟨R2, hR2⟩ : ∃ R2, R = R2 := ⟨_, rfl⟩
          rw [hp2, hc2, hR2] at HI
          rw [hR2] at hRl
          rw [← HI.out.2.2.1] at HKM
          have hR2l : R2.length ≤ rs.length := by omega
          have HI2 : Hid (UnSt wA (M + 3) (.slice pA A.length cA) (.slice p2 R2.length c2) wr ∧ KRx.Own wA.heap.size wr (.slice p2 R2.length c2) R2 ∧ ∀ x ∈ R2, x.atP Pr w) := ⟨HI.out.1, HI.out.2.1, HI.out.2.2.2⟩
          clear HI hti hbe hp2 hc2 hR2
          go_wp2_with fail
          clear a0 a1 b0 b1 q0 q1 r0 r1 d0 d1 f0 f1 hltz hlt hi hgk
          go_loopg [8] ss.length (fun gg vi wr => ∃ (i : Nat) (p' : Option Addr) (c' : Nat) (R : List Rx), vi = .int .i64 i ∧ i ≤ ss.length ∧ ss.length - i ≤ gg ∧ R.length ≤ R2.length + i ∧ Hid (UnSt wA (M + 3) (.slice pA A.length cA) (.slice p' R.length c') wr ∧ KRx.Own wA.heap.size wr (.slice p' R.length c') R ∧ R.map Rx.rg = ((ss.take i).map Rx.rg).foldl putR (R2.map Rx.rg) ∧ ∀ x ∈ R, x.atP Pr w))
          case atStart => exact ⟨0, p2, c2, R2, rfl, by omega, by omega, by omega, HI2.out.1, HI2.out.2.1, rfl, HI2.out.2.2⟩
          case round =>
            clear HI2
            obtain ⟨i, p', c', R, rfl, hi, hgk, hRl, HI⟩ := hrel
            obtain ⟨_, _, hbe, ⟨a0, a1⟩, ⟨b0, b1⟩, ⟨d0, d1⟩, f0, f1⟩ := HIN.out wr (HUA.out.then HI.out.1).fr
            obtain ⟨⟨q0, q1⟩, r0, r1⟩ := HI.out.1.cells
            by_cases hlt : i < ss.length
            · have hltz : (i : Int) < (ss.length : Int) := by omega
              have hiz : (0 : Int) ≤ i := by omega
              obtain ⟨b7, o7, rfl, k7⟩ : ∃ b off, sp = some ⟨b, off, none⟩ ∧ KRx.At w b off ss := by
                obtain ⟨p', c', he, h⟩ := HEB.out.2.2
                injection he with e1 _ _
                subst e1
                rcases h with h | h
                · have h' : ss = [] := h
                  rw [h'] at hlt; simp at hlt
                · exact h
              obtain ⟨y0, y1⟩ := krx_at (Kind.at_kept k7 hbe) i hlt
              have hbd : Below w.heap.size w wr.drew := bel_drewN hbe 1
              have hxa := HEA.out.2 _ (List.getElem_mem hlt)
              have HP := hid (put12_any (N := wA.heap.size) (W := wr.drew) (w := wr.drew) ⟨HI.out.2.1, Below.refl _ _, HI.out.1.fr.size⟩ (fun x hx => (HI.out.2.2.2 x hx).on hbd) ss[i] (hxa.on hbd) (by omega))
              have HAN : Hid (putR (R.map Rx.rg) (ss[i]).rg = ((ss.take (i + 1)).map Rx.rg).foldl putR (R2.map Rx.rg)) := by
                show _ = _
                rw [List.take_succ_eq_append_getElem hlt, List.map_append, List.foldl_append, ← HI.out.2.2.1]
                rfl
              have HAE : Hid (∀ x, x ∈ R ∨ x = ss[i] → x.atP Pr w) := fun x hx => by
                rcases hx with hx | hx
                · exact HI.out.2.2.2 x hx
                · rw [hx]; exact hxa
              have HRN : Hid (∀ l' : List Rx, l'.map Rx.rg = putR (R.map Rx.rg) (ss[i]).rg → l'.length ≤ R.length + 1) := fun l' h => by
                have h1 := congrArg List.length h
                have h2 := putR_len (R.map Rx.rg) (ss[i]).rg
                rw [List.length_map] at h1 h2
                omega
              have HNX : Hid (∀ w3, Below wA.heap.size wr.drew w3 → UnSt wA (M + 3) (.slice pA A.length cA) (.slice p' R.length c') w3) := fun w3 h3 => (HI.out.1.on hGA (bel_drewN (Below.refl _ _) 1)).on hGA h3
              have HAT : Hid (∀ W', Below w.heap.size w W' → W'.cell? ⟨b7, o7 + i * 2, none⟩ = some (.string (ss[i]).typ) ∧ W'.cell? ⟨b7, o7 + i * 2 + 1, none⟩ = some (ss[i]).sl) := fun W' hW => krx_at (Kind.at_kept k7 hW) i hlt
              clear hbe hbd hxa k7 HI
              generalize ss[i] = x at *
              obtain ⟨xt, xp, xc, xm⟩ := x
              simp only [encRx, Rx.sl] at *
              go_wp2_with fail
              refine wp_region_held_drew (S := fun w' => w'.cell? ⟨M + 1, 1, none⟩ = some (.slice (some ⟨b7, o7, none⟩) ss.length sc) ∧ w'.cell? ⟨b7, o7 + i * 2, none⟩ = some (.string xt) ∧ w'.cell? ⟨b7, o7 + i * 2 + 1, none⟩ = some (.slice xp xm.length xc)) (by kernel_rfl) ⟨b1, y0, y1⟩ (fun hHeld => ?_)
              refine take_val (i := 0) (.pointer (some ⟨M + 3, 1, none⟩)) rfl (by kernel_rfl) (by kernel_rfl) (by kernel_rfl) (fun _ _ _ h => h) (by rfl) (fun w hSw => by go_simp) hHeld ?_
              simp only [Act.put, List.setIfInBounds_toArray, List.set_cons_zero, List.set_cons_succ]
              refine take_val (i := 2) (.pointer (some ⟨M + 1, 1, none⟩)) rfl (by kernel_rfl) (by kernel_rfl) (by kernel_rfl) (fun _ _ _ h => h) (by rfl) (fun w hSw => by go_simp) hHeld ?_
              simp only [Act.put, List.setIfInBounds_toArray, List.set_cons_zero, List.set_cons_succ]
              refine take_val (i := 3) (.slice (some ⟨b7, o7, none⟩) ss.length sc) rfl (by kernel_rfl) (by kernel_rfl) (by kernel_rfl) (fun _ _ _ h => h) (by rfl) (fun w hSw => by go_simp) hHeld ?_
              simp only [Act.put, List.setIfInBounds_toArray, List.set_cons_zero, List.set_cons_succ]
              refine take_val (i := 4) (.int .i64 i) rfl (by kernel_rfl) (by kernel_rfl) (by kernel_rfl) (fun _ _ _ h => h) (by rfl) (fun w hSw => by go_simp) hHeld ?_
              simp only [Act.put, List.setIfInBounds_toArray, List.set_cons_zero, List.set_cons_succ]
              refine take_val (i := 5) (.pointer (some ⟨b7, o7 + i * 2, none⟩)) rfl (by kernel_rfl) (by kernel_rfl) (by kernel_rfl) (fun _ _ _ h => h) (by rfl) (fun w hSw => by go_simp) hHeld ?_
              simp only [Act.put, List.setIfInBounds_toArray, List.set_cons_zero, List.set_cons_succ]
              refine take_val (i := 6) (.agg #[.string xt, .slice xp xm.length xc]) rfl (by kernel_rfl) (by kernel_rfl) (by kernel_rfl) (fun _ _ _ h => h) (by rfl) (fun w hSw => by go_simp) hHeld ?_
              simp only [Act.put, List.setIfInBounds_toArray, List.set_cons_zero, List.set_cons_succ]
              refine wpAnyH_ready (rs := [1]) (by kernel_rfl) (by simp) ?_
              refine AllReadyH.cons (at_drop0 rfl) (fun K hK => ?_) AllReadyH.nil
              rw [if_pos (by rfl)]
              go_simp
              try go_wp2_with fail
              refine hK.out _ _ hHeld (fun hHeld => ?_)
              clear hK K
              try simp only [Act.put, List.setIfInBounds_toArray, List.set_cons_zero, List.set_cons_succ]
              clear hHeld a0 a1 b0 b1 q0 q1 r0 r1 y0 y1 d0 d1 f0 f1
              refine wpAnyH_ready (rs := [7]) (by kernel_rfl) (by simp) ?_
              refine AllReadyH.cons (at_drop0 rfl) (fun K hK => ?_) AllReadyH.nil
              rw [if_pos (by rfl)]
              go_simp
              refine HP.out.mono ?_
              rintro e w3 ⟨p3, c3, l3, rfl, hst3, hl3, hm3⟩
              have hu3 := HNX.out w3 hst3.bel
              obtain ⟨_, _, hbe3, ⟨a0, a1⟩, ⟨b0, b1⟩, _⟩ := HIN.out w3 (HUA.out.then hu3).fr
              obtain ⟨⟨q0, q1⟩, r0, r1⟩ := hu3.cells
              obtain ⟨y0, y1⟩ := HAT.out w3 hbe3
              obtain ⟨W4, hW4⟩ : ∃ W4, w3.setCell ⟨M + 3, 1, none⟩ (.slice p3 l3.length c3) = W4 := ⟨_, rfl⟩
              have hu4 := hu3.row (.slice p3 l3.length c3)
              rw [hW4] at hu4
              obtain ⟨_, _, hbe4, ⟨a0', a1'⟩, ⟨b0', b1'⟩, _⟩ := HIN.out W4 (HUA.out.then hu4).fr
              obtain ⟨y0', y1'⟩ := HAT.out W4 hbe4
              have HU4 := hid hu4
              have HO4 : Hid (KRx.Own wA.heap.size W4 (.slice p3 l3.length c3) l3) := by rw [← hW4]; exact own_cell hst3.own hGA _ _
              have HE4 : Hid (l3.map Rx.rg = ((ss.take (i + 1)).map Rx.rg).foldl putR (R2.map Rx.rg) ∧ ∀ x ∈ l3, x.atP Pr w) := ⟨hl3.trans HAN.out, fun x hx => HAE.out x (hm3 x hx)⟩
              have hR4 := HRN.out l3 hl3
              clear hu3 hu4 hbe3 hbe4 hst3 hl3 hm3 HP HAN HAE HRN HNX HAT
              go_wp2_with fail
              refine hK.out _ _ (⟨b1, y0, y1⟩) (fun hHeld => ?_)
              clear hK K
              try simp only [Act.put, List.setIfInBounds_toArray, List.set_cons_zero, List.set_cons_succ]
              refine take_val (i := 8) (.pointer (some ⟨M + 3, 1, none⟩)) rfl (by kernel_rfl) (by kernel_rfl) (by kernel_rfl) (fun _ _ _ h => h) (by rfl) (fun w hSw => by go_simp) hHeld ?_
              simp only [Act.put, List.setIfInBounds_toArray, List.set_cons_zero, List.set_cons_succ]
              clear hHeld
              refine wpAnyH_ready (rs := [9]) (by kernel_rfl) (by simp) ?_
              refine AllReadyH.cons (at_drop0 rfl) (fun K hK => ?_) AllReadyH.nil
              rw [if_pos (by rfl)]
              go_simp
              go_wp2_with fail
              try rw [hW4]
              refine hK.out _ _ (⟨b1', y0', y1'⟩) (fun hHeld => ?_)
              clear hK K
              try simp only [Act.put, List.setIfInBounds_toArray, List.set_cons_zero, List.set_cons_succ]
              refine wpAnyH_done (by kernel_rfl) ?_ _
              clear hHeld a0 a1 b0 b1 q0 q1 r0 r1 y0 y1 a0' a1' b0' b1' y0' y1' hW4
              go_wp2_with fail
              go_roundg (ss.length - (i + 1))
              case measure => omega
              exact ⟨i + 1, p3, c3, l3, by go_num, by omega, by omega, by omega, HU4.out, HO4.out, HE4.out⟩
            · have hltz : ¬ (i : Int) < (ss.length : Int) := by omega
              have hti : ss.take i = ss := List.take_of_length_le (by omega)
              rw [hti] at HI
              obtain ⟨W5, hW5⟩ : ∃ W5, (wr.setCell ⟨M + 2, 0, none⟩ (.slice pA A.length cA)).setCell ⟨M + 2, 1, none⟩ (.slice p' R.length c') = W5 := ⟨_, rfl⟩
              have g0 : W5.cell? ⟨M + 2, 0, none⟩ = some (.slice pA A.length cA) := by rw [← hW5]; simp [go_sem, d0]
              have g1 : W5.cell? ⟨M + 2, 1, none⟩ = some (.slice p' R.length c') := by rw [← hW5]; simp [go_sem, d1]
              have HG := hid (And.intro g0 g1)
              have HB5 : Hid (Below w.heap.size w W5) := by
                rw [← hW5]
                rw [hM] at hbe ⊢
                exact (hbe.setCell (show M ≤ M + 2 by omega) _).setCell (show M ≤ M + 2 by omega) _
              have hkw : KK.Own V.heap.size wr (.slice pA A.length cA) A := HI.out.1.fr.row (show wA.ownsRow V.heap.size KK.T KK.k (.slice pA A.length cA) A.length (KK.cells A) from HOA.out) fun k hk e => by
                have := (World.ownsRow.lt (show wA.ownsRow V.heap.size KK.T KK.k (.slice pA A.length cA) A.length (KK.cells A) from HOA.out) k hk).1
                omega
              have HK5 : Hid (KK.Own V.heap.size W5 (.slice pA A.length cA) A ∧ KRx.Own wA.heap.size W5 (.slice p' R.length c') R) := by
                rw [← hW5]
                exact ⟨own_cell (own_cell hkw (by omega) _ _) (by omega) _ _, own_cell (own_cell HI.out.2.1 (by omega) _ _) (by omega) _ _⟩
              have HEE := hid HI.out.2.2
              clear g0 g1 hkw hbe HI
              go_wp2_with fail
              try rw [hW5]
              clear a0 a1 b0 b1 q0 q1 r0 r1 d0 d1 f0 f1
              obtain ⟨g0, g1⟩ := HG.out
              refine bodyPost_ret (v := .agg #[.slice pA A.length cA, .slice p' R.length c']) (by simp [results, Try.results13, go_sem, g0, g1]) rfl ⟨⟨pA, cA, A, p', c', R⟩, rfl, ⟨Kind.own_is HK5.out.1, Kind.own_is HK5.out.2, fun r hr => (HEE.out.2 r hr).on HB5.out⟩, ?_, HB5.out, Or.inl (Kind.own_weak HK5.out.1 (by omega)), Kind.own_weak HK5.out.2 (by omega), HEE.out.2⟩
              rw [HKM.out, ← HAQ.out]
              exact congrArg (Prod.mk A) HEE.out.1

end Go.Proofs.Ythdakljoabbghaa

/-
  What the laws of stage 12 lean on of package marks: its calls. (Filled in where the package has landed.)
-/
namespace Go.Proofs.Ythdakljoabbghaa
open Go.RowKit

/-- No two ranges share their terms' memory. -/
def ApartR (l : List Rx) : Prop := l.Pairwise fun x y => ∀ k, x.sl.ownBlock = some k → ¬ y.sl.ownBlock = some k

/-- Marks in memory of their own. -/
structure MOwn (N : Nat) (W : World) (m : Mx) : Prop where
  keys : KK.Own N W m.ksl m.ks
  rows : KRx.Own N W m.rsl m.rs
  each : ∀ r ∈ m.rs, KM.Own N W r.sl r.tm ∧ FitP r.tm
  apart : ApartR m.rs
theorem MOwn.inn {N : Nat} {W : World} {m : Mx} (h : MOwn N W m) : MIn W m := ⟨Kind.own_is h.keys, Kind.own_is h.rows, fun r hr => ⟨Kind.own_is (h.each r hr).1, (h.each r hr).2⟩⟩
theorem MOwn.on {N : Nat} {W W' : World} {m : Mx} (h : MOwn N W m) (hb : Below W.heap.size W W') : MOwn N W' m := ⟨Kind.own_on h.keys hb, Kind.own_on h.rows hb, fun r hr => ⟨Kind.own_on (h.each r hr).1 hb, (h.each r hr).2⟩, h.apart⟩
theorem MOwn.fr {N : Nat} {W W' : World} {m : Mx} {P : Nat → Prop} (h : MOwn N W m) (f : Fr P W W') (hP : ∀ k, P k → k < N) : MOwn N W' m := by
  refine ⟨f.row (show W.ownsRow N KK.T KK.k m.ksl m.ks.length (KK.cells m.ks) from h.keys) fun k hk hp => ?_, f.row (show W.ownsRow N KRx.T KRx.k m.rsl m.rs.length (KRx.cells m.rs) from h.rows) fun k hk hp => ?_, fun r hr => ⟨f.row (show W.ownsRow N KM.T KM.k r.sl r.tm.length (KM.cells r.tm) from (h.each r hr).1) fun k hk hp => ?_, (h.each r hr).2⟩, h.apart⟩
  · have h1 := (World.ownsRow.lt (show W.ownsRow N KK.T KK.k m.ksl m.ks.length (KK.cells m.ks) from h.keys) k hk).1
    have h2 := hP k hp
    omega
  · have h1 := (World.ownsRow.lt (show W.ownsRow N KRx.T KRx.k m.rsl m.rs.length (KRx.cells m.rs) from h.rows) k hk).1
    have h2 := hP k hp
    omega
  · have h1 := (World.ownsRow.lt (show W.ownsRow N KM.T KM.k r.sl r.tm.length (KM.cells r.tm) from (h.each r hr).1) k hk).1
    have h2 := hP k hp
    omega

/-- What a function of package marks that answers marks leaves. -/
def MOwnPost (W : World) (mk : Mk) (e : Ending) (w' : World) : Prop :=
  ∃ m, e = .returned (.agg (encMx m).toArray) ∧ MOwn W.heap.size w' m ∧ m.mk' = mk ∧ Below W.heap.size W w'
/-- What a function that answers a bool leaves. -/
def BoolPost (W : World) (b : Bool) (e : Ending) (w' : World) : Prop := e = .returned (.bool b) ∧ Below W.heap.size W w'

/-- Changes that came in. -/
structure ChgIn (W : World) (v : Value) (l : List Cx) : Prop where
  is : KCx.Is W v l
  each : ∀ c ∈ l, CIn W c
theorem ChgIn.on {W W' : World} {v : Value} {l : List Cx} (h : ChgIn W v l) (hb : Below W.heap.size W W') : ChgIn W' v l := ⟨Kind.is_kept h.is hb, fun c hc => (h.each c hc).on hb⟩

def FitKy12 (k : Ky) : Prop := k.1.size ≤ maxLen ∧ k.2.size ≤ maxLen

structure MarksApi where
  key : ∀ (W : World) (m : Mx) (k : Ky), MIn W m → LotM m → FitKy12 k → (∀ x ∈ m.ks, FitKy12 x) → Calls Try.prog 10 #[.agg (encMx m).toArray, .agg #[.string k.1, .string k.2]] W fun e w' => MOwnPost W (keyM m.mk' k) e w'
  range : ∀ (W : World) (m : Mx) (r : Rx), MIn W m → LotM m → r.at W → Calls Try.prog 16 #[.agg (encMx m).toArray, .string r.typ, r.sl] W fun e w' => MOwnPost W (rangeM m.mk' r.rg) e w'
  union : ∀ (W : World) (a b : Mx), MIn W a → MIn W b → FewM a → FewM b → (∀ x ∈ a.ks, FitKy12 x) → (∀ x ∈ b.ks, FitKy12 x) → Calls Try.prog 12 #[.agg (encMx a).toArray, .agg (encMx b).toArray] W fun e w' => MOwnPost W (unionM a.mk' b.mk') e w'
  touches : ∀ (W : World) (r : Rx) (c : Cx), r.at W → CIn W c → Calls Try.prog 23 #[.agg (encRx r).toArray, .agg (encCx c).toArray] W fun e w' => BoolPost W (touchesM r.rg c.ch) e w'
  hits : ∀ (W : World) (m : Mx) (v : Value) (l : List Cx), MIn W m → LenM m → ChgIn W v l → l.length < 1500000000000 → Calls Try.prog 19 #[.agg (encMx m).toArray, v] W fun e w' => BoolPost W (hitsM m.mk' (l.map Cx.ch)) e w'
  which : ∀ (W : World) (m : Mx) (v : Value) (l : List Cx), MIn W m → LenM m → ChgIn W v l → l.length < 1500000000000 → Calls Try.prog 18 #[.agg (encMx m).toArray, v] W fun e w' => KeyRPost W (whichM m.mk' (l.map Cx.ch)) e w'
  equal : ∀ (W : World) (a b : Mx), MIn W a → MIn W b → LenM a → LenM b → Calls Try.prog 15 #[.agg (encMx a).toArray, .agg (encMx b).toArray] W fun e w' => BoolPost W (decide (a.mk' = b.mk')) e w'

/-- What fixed answers. -/
def Fixed12 : Prop := ∀ W : World, Calls Try.prog 9 #[] W fun e w' => e = .returned (.bool true) ∧ Below W.heap.size W w'

end Go.Proofs.Ythdakljoabbghaa

/-
  Package marks (stage 12): ranges in rows of their own. No walk.
-/
namespace Go.Proofs.Ythdakljoabbghaa
open Go.RowKit

/-- The ranges L in rows of their own, from block N on; ahead of N all is as in W. -/
structure RgSt (N : Nat) (W : World) (v : Value) (L : List Rx) (w : World) : Prop where
  row : RowSt KRx N W v L w
  each : ∀ r ∈ L, KM.Own N w r.sl r.tm ∧ FitP r.tm
  apart : ApartR L

theorem ty_mr : KM.T ≠ KRx.T := by decide
section
variable {N : Nat} {W : World} {v : Value} {L : List Rx} {w : World}
theorem RgSt.nil (hb : Below N W w) (hN : N ≤ w.heap.size) : RgSt N W (.slice none 0 0) [] w := ⟨RowSt.nil KRx hb hN, (fun _ h => by cases h), List.Pairwise.nil⟩
theorem RgSt.on {w' : World} (h : RgSt N W v L w) (hb : Below w.heap.size w w') : RgSt N W v L w' := ⟨h.row.on hb, fun r hr => ⟨Kind.own_on (h.each r hr).1 hb, (h.each r hr).2⟩, h.apart⟩
theorem RgSt.at (h : RgSt N W v L w) : ∀ r ∈ L, r.at w := fun r hr => ⟨Kind.own_is (h.each r hr).1, (h.each r hr).2⟩

/-- What was made behind a world shares no block with what was there. -/
theorem RgSt.fresh {w' : World} {x : Rx} (h : RgSt N W v L w) (hx : KM.Own w.heap.size w' x.sl x.tm) : ∀ r ∈ L, ∀ k, r.sl.ownBlock = some k → ¬ x.sl.ownBlock = some k := fun r hr k h1 h2 => by
  have q1 := (World.ownsRow.lt (show w.ownsRow N KM.T KM.k r.sl r.tm.length (KM.cells r.tm) from (h.each r hr).1) k h1).2
  have q2 := (World.ownsRow.lt (show w'.ownsRow w.heap.size KM.T KM.k x.sl x.tm.length (KM.cells x.tm) from hx) k h2).1
  omega

/-- One more. -/
theorem RgSt.push {w' : World} {g c : Nat} {x : Rx} (h : RgSt N W v L w) (hx : KM.Own N w x.sl x.tm) (hf : FitP x.tm) (hfr : ∀ r ∈ L, ∀ k, r.sl.ownBlock = some k → ¬ x.sl.ownBlock = some k)
    (hst : RowSt KRx N W (.slice (some ⟨g, 0, none⟩) (L.length + 1) c) (L ++ [x]) w') (hg : w.grownBy w' v.ownBlock) : RgSt N W (.slice (some ⟨g, 0, none⟩) (L.length + 1) c) (L ++ [x]) w' := by
  refine ⟨hst, fun r hr => ?_, ?_⟩
  · have : KM.Own N w r.sl r.tm ∧ FitP r.tm := by
      rcases List.mem_append.1 hr with h1 | h1
      · exact h.each r h1
      · rw [List.mem_singleton.1 h1]
        exact ⟨hx, hf⟩
    exact ⟨own_else (show w.ownsRow N KM.T KM.k r.sl r.tm.length (KM.cells r.tm) from this.1) (show w.ownsRow N KRx.T KRx.k v L.length (KRx.cells L) from h.row.own) ty_mr hg, this.2⟩
  · rw [ApartR, List.pairwise_append]
    refine ⟨h.apart, List.pairwise_singleton _ _, fun r hr y hy => ?_⟩
    rw [List.mem_singleton.1 hy]
    exact hfr r hr
end

/-- What a function that answers ranges leaves. -/
def RgPost (W : World) (l : List Rg) (e : Ending) (w' : World) : Prop :=
  ∃ p c L, e = .returned (.slice p L.length c) ∧ RgSt W.heap.size W (.slice p L.length c) L w' ∧ L.map Rx.rg = l

/-- Marks of one's own, of keys and ranges. -/
theorem mown_of {N : Nat} {W : World} {kp : Option Addr} {kc : Nat} {ks : List Ky} {rp : Option Addr} {rc : Nat} {rs : List Rx} (hk : KK.Own N W (.slice kp ks.length kc) ks) (hr : KRx.Own N W (.slice rp rs.length rc) rs) (he : ∀ r ∈ rs, KM.Own N W r.sl r.tm ∧ FitP r.tm) (ha : ApartR rs) : MOwn N W ⟨kp, kc, ks, rp, rc, rs⟩ := ⟨hk, hr, he, ha⟩

theorem sortK_append (a b : List Ky) : sortK (a ++ b) = b.foldl (fun acc x => insR ltKy x acc) (sortK a) := by
  unfold sortK
  rw [List.foldl_append]
theorem sortK_snoc (a : List Ky) (k : Ky) : sortK (a ++ [k]) = insR ltKy k (sortK a) := by
  rw [sortK_append]
  rfl

end Go.Proofs.Ythdakljoabbghaa

/-
  The contracts of cmp.Or at three, of compare, and of slices.SortFunc over it.
-/
namespace Go.Proofs.Ythdakljoabbghaa
open Go.RowKit Go.Sort Go.Lib

set_option maxHeartbeats 1000000 in
theorem or_any (g : Nat) (a b c : Int) (w : World) (c0 : w.cell? ⟨g, 0, none⟩ = some (.int .i64 a)) (c1 : w.cell? ⟨g, 1, none⟩ = some (.int .i64 b)) (c2 : w.cell? ⟨g, 2, none⟩ = some (.int .i64 c)) :
    Calls Try.prog 73 #[.slice (some ⟨g, 0, none⟩) 3 3] w fun e w' => e = .returned (.int .i64 (pairI a (pairI b c))) ∧ w' = w := by
  by_cases ha : a = 0
  · subst ha
    rw [pairI_zero]
    by_cases hb : b = 0
    · subst hb
      rw [pairI_zero]
      by_cases hc : c = 0
      · subst hc
        go_enter Try.func73, Try.ntmps73
        go_wp2_with fail
        refine wp_loop_rounds 4 ?_
        rw [rounds_succ]
        go_wp2_with fail
        rw [rounds_succ]
        go_wp2_with fail
        rw [rounds_succ]
        go_wp2_with fail
        rw [rounds_succ]
        go_wp2_with fail
        go_ret
        exact ⟨rfl, rfl⟩
      · have hcn : (c != 0) = true := by simpa using hc
        go_enter Try.func73, Try.ntmps73
        go_wp2_with fail
        refine wp_loop_rounds 3 ?_
        rw [rounds_succ]
        go_wp2_with fail
        rw [rounds_succ]
        go_wp2_with fail
        rw [rounds_succ]
        go_wp2_with fail
        go_ret
        exact ⟨rfl, rfl⟩
    · have hbn : (b != 0) = true := by simpa using hb
      rw [pairI_ne hb]
      go_enter Try.func73, Try.ntmps73
      go_wp2_with fail
      refine wp_loop_rounds 2 ?_
      rw [rounds_succ]
      go_wp2_with fail
      rw [rounds_succ]
      go_wp2_with fail
      go_ret
      exact ⟨rfl, rfl⟩
  · have han : (a != 0) = true := by simpa using ha
    rw [pairI_ne ha]
    go_enter Try.func73, Try.ntmps73
    go_wp2_with fail
    refine wp_loop_rounds 1 ?_
    rw [rounds_succ]
    go_wp2_with fail
    go_ret
    exact ⟨rfl, rfl⟩

end Go.Proofs.Ythdakljoabbghaa

/-
  The contract of slices.Compact at terms.
-/
namespace Go.Proofs.Ythdakljoabbghaa
open Go.RowKit Go.Sort Go.Lib

theorem eql_term (a b : Tm) (w : World) : (binOp .eql 58 (.agg #[.string a.1, .int .i64 a.2.1, .string a.2.2]) (.agg #[.string b.1, .int .i64 b.2.1, .string b.2.2])).run Try.prog w = .ok (.bool (decide (a = b))) w := by
  obtain ⟨a1, a2, a3⟩ := a
  obtain ⟨b1, b2, b3⟩ := b
  have hS : Try.prog.underlying 58 = some (.struct (Try.prog.fieldsOf 58)) := by kernel_rfl
  have hp : Try.prog.stoodInHeld 58 = false := by kernel_rfl
  have u9 := Try.underlying9
  have a9 := Try.isAgg9
  have z9 := Try.sizeOf9
  have u3 := Try.underlying3
  have a3' := Try.isAgg3
  have z3 := Try.sizeOf3
  rw [run_eql_struct, show (10000 : Nat) = 9999 + 1 from rfl, run_equalIn_agg w 9999 58 _ _ hS hp]
  simp only [Program.fieldsOf, Try.underlying58]
  go_simp
  by_cases h1 : a1 = b1
  · subst h1
    by_cases h2 : a2 = b2
    · subst h2
      by_cases h3 : a3 = b3
      · subst h3; simp
      · have e3 := beq_eq_false_iff_ne.1 (seq_false h3)
        simp [h3, e3]
    · simp [h2]
  · have e1 := beq_eq_false_iff_ne.1 (seq_false h1)
    simp [h1, e1]

/-- clear of terms in a row. -/
theorem run_clearM (w : World) (ty : TypeId) (g o n c : Nat) (hn : 0 < n) (hc : ∀ j, j < n * 3 → (w.cell? ⟨g, o + j, none⟩).isSome = true) (hf : ∀ j, j < n * 3 → w.frozen? ⟨g, o + j, none⟩ = false) :
    ∃ zs : List Value, (Builtin.clear_ #[32] ty #[.slice (some ⟨g, o, none⟩) n c]).run Try.prog w = .ok (.tuple #[]) (w.setCells g o zs) := by
  have hv : ∀ w, (zeroValue 58).run Try.prog w = .ok (.agg #[.string ⟨#[]⟩, .int .i64 0, .string ⟨#[]⟩]) w := Try.zeroValue58
  obtain ⟨zs, hzs⟩ : ∃ zs, (Builtin.zeroCells (Value.agg #[.string ⟨#[]⟩, .int .i64 0, .string ⟨#[]⟩]).cells n).toList = zs := ⟨_, rfl⟩
  have hl : zs.length = n * 3 := by rw [← hzs, Array.length_toList, size_zeroCells]; rfl
  have h1 : ∀ v ∈ zs, v.oneCell' = true := by
    intro v hm
    rw [← hzs] at hm
    simp only [Builtin.zeroCells, Array.toList_map, List.mem_map] at hm
    obtain ⟨i, _, rfl⟩ := hm
    have h3 : i % (Value.agg #[.string ⟨#[]⟩, .int .i64 0, .string ⟨#[]⟩]).cells.size < 3 := Nat.mod_lt _ (by decide)
    obtain ⟨m, hm⟩ : ∃ m, i % (Value.agg #[.string ⟨#[]⟩, .int .i64 0, .string ⟨#[]⟩]).cells.size = m := ⟨_, rfl⟩
    rw [hm] at h3 ⊢
    rcases (show m = 0 ∨ m = 1 ∨ m = 2 by omega) with rfl | rfl | rfl <;> rfl
  refine ⟨zs, ?_⟩
  have hst := run_storeCells_cells (P := Try.prog) g o zs 0 w (by rw [hl]; simpa using hc) (by rw [hl]; simpa using hf) h1
  simp only [Nat.add_zero] at hst
  obtain ⟨m, rfl⟩ : ∃ m, n = m + 1 := ⟨n - 1, by omega⟩
  simp [Builtin.clear_, run_underlying Try.underlying32, hv, hzs, hst]

/-- A row's cells, at any place. -/
theorem own_cells {n0 g n cap : Nat} {w : World} {d : Array Tm} (h : KM.Own n0 w (.slice (some ⟨g, 0, none⟩) n cap) d.toList) (i : Nat) (hi : i < d.size) :
    w.cell? ⟨g, i * 3, none⟩ = some (.string (d[i]!).1) ∧ w.cell? ⟨g, i * 3 + 1, none⟩ = some (.int .i64 (d[i]!).2.1) ∧ w.cell? ⟨g, i * 3 + 2, none⟩ = some (.string (d[i]!).2.2) ∧
    w.frozen? ⟨g, i * 3, none⟩ = false ∧ w.frozen? ⟨g, i * 3 + 1, none⟩ = false ∧ w.frozen? ⟨g, i * 3 + 2, none⟩ = false := by
  have hH := own_holds h
  have hi' : i < d.toList.toArray.size := by simpa using hi
  have k0 := hH.cell (i := i) (c := 0) hi' (by decide)
  have k1 := hH.cell (i := i) (c := 1) hi' (by decide)
  have k2 := hH.cell (i := i) (c := 2) hi' (by decide)
  have he : d.toList.toArray[i]! = d[i]! := by simp
  rw [he] at k0 k1 k2
  simp only [Nat.zero_add, Nat.add_zero] at k0 k1 k2
  exact ⟨k0.1, k1.1, k2.1, k0.2, k1.2, k2.2⟩

theorem own_some {n0 g n cap : Nat} {w : World} {d : Array Tm} (h : KM.Own n0 w (.slice (some ⟨g, 0, none⟩) n cap) d.toList) (t : Nat) (ht : t < d.size * 3) :
    (w.cell? ⟨g, t, none⟩).isSome = true ∧ w.frozen? ⟨g, t, none⟩ = false := by
  have := own_holds h t (by rw [size_flatK]; simpa using ht)
  rw [Nat.zero_add] at this
  exact ⟨by rw [this.1]; rfl, this.2⟩

theorem own_ge {n0 g n cap : Nat} {w : World} {d : List Tm} (h : KM.Own n0 w (.slice (some ⟨g, 0, none⟩) n cap) d) : n0 ≤ g ∧ g < w.heap.size ∧ d.length ≤ cap ∧ cap ≤ maxLen := by
  rcases h.2 with ⟨hv, _⟩ | ⟨g', cap', cur, hv, h1, h2, h3, h4, _⟩
  · cases hv
  · injection hv with e1 e2 e3
    injection e1 with e1
    injection e1 with e1 _ _
    subst e1 e3
    exact ⟨h1, (Array.getElem?_eq_some_iff.1 h2).1, h3, h4⟩

theorem own_drew {n0 : Nat} {w : World} {v : Value} {d : List Tm} (h : KM.Own n0 w v d) (q : Nat) : KM.Own n0 (w.drewN q) v d := h

theorem compact_same {d : Array Tm} (h : ∀ j, j < d.size → keeps d j = true) : compactUpTo d d.size = d.toList := by
  rw [compactUpTo_all d _ h, range_map_get]

theorem comp_low {d dk : Array Tm} {m k : Nat} (h : CompInv d m k dk) (hk : k ≤ dk.size) : dk.toList.take k = compactUpTo d m := by
  apply List.ext_getElem?
  intro j
  rw [List.getElem?_take]
  by_cases hj : j < k
  · rw [if_pos hj, h.low j hj, Array.getElem?_toList, Array.getElem?_eq_getElem (by omega), getElem!_pos dk j (by omega)]
  · rw [if_neg hj, List.getElem?_eq_none (by rw [h.len]; omega)]

def CompPost (n0 g cap : Nat) (d : Array Tm) (w : World) (e : Ending) (w' : World) : Prop :=
  e = .returned (.slice (some ⟨g, 0, none⟩) (compactUpTo d d.size).length cap) ∧ KM.Own n0 w' (.slice (some ⟨g, 0, none⟩) (compactUpTo d d.size).length cap) (compactUpTo d d.size) ∧ Below n0 w w'

theorem CompPost.same {n0 g n cap : Nat} {d : Array Tm} {w : World} (h : KM.Own n0 w (.slice (some ⟨g, 0, none⟩) n cap) d.toList) (hn : d.size = n) (hk : ∀ j, j < d.size → keeps d j = true) (q : Nat) :
    CompPost n0 g cap d w (.returned (.slice (some ⟨g, 0, none⟩) n cap)) (w.drewN q) := by
  subst hn
  unfold CompPost
  rw [compact_same hk]
  refine ⟨by simp, ?_, bel_drewN (Below.refl _ _) q⟩
  have : d.toList.length = d.size := by simp
  rw [this]
  exact own_drew h q

end Go.Proofs.Ythdakljoabbghaa

/-
  The contracts of May, Norm and Equal of terms.
-/
namespace Go.Proofs.Ythdakljoabbghaa
open Go.RowKit Go.Sort Go.Lib

/-- A term whose texts a machine can hold. -/
def Tf : Type := { x : Tm // x.1.size ≤ maxLen ∧ x.2.2.size ≤ maxLen ∧ -9223372036854775808 ≤ x.2.1 ∧ x.2.1 ≤ 9223372036854775807 }
def tfNone : Tf := ⟨(⟨#[]⟩, 0, ⟨#[]⟩), Nat.zero_le _, Nat.zero_le _, by decide, by decide⟩

theorem km_enc {w : World} {b off : Nat} {p : List Tm} (h : KM.At w b off p) (j : Nat) (hj : j < p.length) (i : Nat) (v : Value) (hv : (encM p[j])[i]? = some v) : w.cell? ⟨b, off + j * 3 + i, none⟩ = some v := h j hj i v hv

theorem any_not (p : List Tm) (f : Tm → Bool) : p.any (fun x => !f x) = !p.all f := by
  induction p with
  | nil => rfl
  | cons x p ih => simp only [List.any_cons, List.all_cons, ih, Bool.not_and]

theorem pcells {w : World} {b off : Nat} {p : List Tm} (h : KM.At w b off p) (j : Nat) (u : Value) (hu : (KM.cells p)[j]? = some u) : w.cell? ⟨b, off + j, none⟩ = some u := by
  rcases Kind.src (K := KM) (w := w) (p := some ⟨b, off, none⟩) (d := p) (Or.inr ⟨b, off, rfl, h⟩) with h0 | ⟨ad, e, hc⟩
  · obtain rfl := List.length_eq_zero_iff.1 h0
    simp [Kind.cells] at hu
  · cases e
    have := hc j u hu
    rwa [addr_add] at this

set_option maxHeartbeats 2000000 in
set_option maxRecDepth 100000 in
theorem cloneM_any (v : Value) (p : List Tm) (w : World) (hv : KM.Is w v p) (hs : p.length * 40 ≤ 140737488355328) :
    Calls Try.prog 56 #[v] w fun e w' => ∃ u, e = .returned u ∧ KM.Own w.heap.size w' u p ∧ Below w.heap.size w w' := by
  obtain ⟨i0, hi, hz0, hz1, hz2⟩ := info_parts Try.infoTrm
  obtain ⟨q, cap, rfl, hd⟩ := hv
  have q22 : ∀ (w : World) (a : Option Addr) (n c n' c' : Nat), (binOp .eql 32 (.slice a n c) (.slice none n' c')).run Try.prog w = .ok (.bool a.isNone) w := fun w a n c n' c' => Lib.run_eql_slice_nil w _ _ a n c n' c' Try.underlying32
  have HD := hid hd
  clear hd
  cases q with
  | none =>
    have h0 : p = [] := by
      rcases HD.out with h | ⟨b, off, h, _⟩
      · exact h
      · cases h
    subst h0
    go_enter Try.func56, Try.ntmps56
    go_wp2_with fail
    go_ret
    exact ⟨_, rfl, KM.own_nil _ _, Below.refl _ _⟩
  | some a =>
    have hcells : ∀ j u, (KM.cells p)[j]? = some u → (w.alloc (.cells #[] 58)).cell? (a.add j) = some u := by
      rcases HD.out with h | ⟨b, off, h, hx⟩
      · subst h; intro j u hj; simp [Kind.cells] at hj
      · intro j u hj
        obtain rfl : a = ⟨b, off, none⟩ := by simpa using h
        rw [addr_add]
        have := pcells hx j u hj
        rw [World.cell?_alloc_lt _ _ ⟨b, off + j, none⟩ (cell_block this)]; exact this
    have HC := hid hcells
    clear hcells
    go_enter Try.func56, Try.ntmps56
    go_wp2_with (at_builtin; refine wpList_append_own _ rfl _ _ 32 rfl w.heap.size 58 i0 (.agg #[.string ⟨#[]⟩, .int .i64 0, .string ⟨#[]⟩]) 3 40 Try.underlying32 hi hz0 hz1 hz2 rfl (by decide) _ _ _ rfl (World.ownsRow_made w #[] 0 (Nat.le_refl _) (Nat.zero_le _) (by simp)) a p.length cap (KM.cells p) rfl ?c0 ?c1 ?c2 ?c3 ?c4 ?c5 ?_)
    case c0 => exact KM.cells_len p
    case c1 => exact HC.out
    case c2 => exact KM.cells_ones p
    case c3 => unfold maxLen; omega
    case c4 => omega
    case c5 => simp
    intro v' w1 hown hgrow hnil
    have hb1 : Below w.heap.size w w1 := ((Below.refl _ w).alloc (Nat.le_refl _) _).grown hgrow (by simp) (by intro k hk; simp [Value.ownBlock] at hk; omega)
    have HO : Hid (KM.Own w.heap.size w1 v' p) := hid (by show w1.ownsRow w.heap.size 58 3 v' p.length (KM.cells p); simpa using hown)
    clear hown hgrow hnil
    go_wp2_with fail
    go_ret
    exact ⟨_, rfl, HO.out, hb1⟩

theorem neqM_at : NeqAt Try.prog 58 (fun x : Tm => .agg (encM x).toArray) (fun x y => decide (x = y)) :=
  ⟨fun x y w => neq_term x y w, GuardAt.agg (fun x : Tm => (encM x).toArray) (by kernel_rfl)⟩

theorem allEq_decide : ∀ (p q : List Tm), Lib.allEq (fun x y => decide (x = y)) p q = decide (p = q)
  | [], [] => rfl
  | [], y :: q => by simp [Lib.allEq]
  | x :: p, [] => by simp [Lib.allEq]
  | x :: p, y :: q => by
    have := allEq_decide p q
    unfold Lib.allEq
    rw [this]
    by_cases h1 : x = y <;> by_cases h2 : p = q <;> simp [h1, h2]

set_option maxHeartbeats 1000000 in
theorem eqM_none1 (q1 q2 : Option Addr) (c1 c2 m : Nat) (hm : m ≤ maxLen) (w : World) :
    Calls Try.prog 68 #[.slice q1 0 c1, .slice q2 m c2] w fun e w' => e = .returned (.bool (decide (m = 0))) ∧ w' = w := by
  unfold maxLen at hm
  by_cases h0 : m = 0
  · subst h0
    go_enter Try.func68, Try.ntmps68
    go_wp2_with fail
    refine wp_loop_rounds 1 ?_
    rw [rounds_succ]
    go_wp2_with fail
    go_ret
    exact ⟨rfl, rfl⟩
  · have hz : ((0 : Int) != (m : Int)) = true := by simp; omega
    have hd := decide_eq_false h0
    rw [hd]
    go_enter Try.func68, Try.ntmps68
    go_wp2_with fail
    go_ret
    exact ⟨rfl, rfl⟩

set_option maxHeartbeats 1000000 in
theorem eqM_none2 (q1 q2 : Option Addr) (c1 c2 m : Nat) (hm : m ≠ 0) (w : World) :
    Calls Try.prog 68 #[.slice q1 m c1, .slice q2 0 c2] w fun e w' => e = .returned (.bool false) ∧ w' = w := by
  have hz : ((m : Int) != 0) = true := by simp; omega
  go_enter Try.func68, Try.ntmps68
  go_wp2_with fail
  go_ret
  exact ⟨rfl, rfl⟩

theorem eqM_any (v u : Value) (p q : List Tm) (w : World) (hv : KM.Is w v p) (hu : KM.Is w u q) (hl1 : p.length ≤ maxLen) (hl2 : q.length ≤ maxLen) :
    Calls Try.prog 68 #[v, u] w fun e w' => e = .returned (.bool (decide (p = q))) ∧ ∃ n, w' = w.drewN n := by
  obtain ⟨a1, k1, rfl, hd1⟩ := hv
  obtain ⟨a2, k2, rfl, hd2⟩ := hu
  by_cases h1 : p = []
  · subst h1
    refine (eqM_none1 a1 a2 k1 k2 q.length hl2 w).mono ?_
    rintro e w' ⟨rfl, rfl⟩
    refine ⟨ret_bool ?_, 0, rfl⟩
    cases q <;> simp
  · by_cases h2 : q = []
    · subst h2
      refine (eqM_none2 a1 a2 k1 k2 p.length (fun e => h1 (List.length_eq_zero_iff.1 e)) w).mono ?_
      rintro e w' ⟨rfl, rfl⟩
      exact ⟨ret_bool (by rw [decide_eq_false h1]), 0, rfl⟩
    · rcases hd1 with hd1 | ⟨b1, o1, rfl, x1⟩
      · exact absurd hd1 h1
      · rcases hd2 with hd2 | ⟨b2, o2, rfl, x2⟩
        · exact absurd hd2 h2
        · unfold maxLen at hl1 hl2
          have hc := AnyQ.slices_Equal (α := Tm) Try.eqTrm 3 Try.isAgg58 Try.sizeOf58 encM (fun _ => rfl) (fun x y => decide (x = y)) neqM_at b1 o1 p.length k1 b2 o2 q.length k2 p q w (Nat.le_refl _) (Nat.le_refl _) (by omega) (by omega)
            (fun j hj i v hv => by rw [getElem!_pos p j hj] at hv; exact km_enc x1 j hj i v hv) (fun j hj i v hv => by rw [getElem!_pos q j hj] at hv; exact km_enc x2 j hj i v hv)
          change Calls Try.prog 68 _ _ _ at hc
          refine hc.mono ?_
          rintro e w' ⟨rfl, n, rfl⟩
          exact ⟨ret_bool (by rw [List.take_length, List.take_length, allEq_decide]), n, rfl⟩

set_option maxHeartbeats 1000000 in
theorem pequal_any (v u : Value) (p q : List Tm) (w : World) (hv : KM.Is w v p) (hu : KM.Is w u q) (hl1 : p.length ≤ maxLen) (hl2 : q.length ≤ maxLen) :
    Calls Try.prog 53 #[v, u] w fun e w' => e = .returned (.bool (decide (p = q))) ∧ Below w.heap.size w w' := by
  have HE := hid (eqM_any v u p q w hv hu hl1 hl2)
  clear hv hu
  go_enter Try.func53, Try.ntmps53
  go_wp2_with (go_at_call 68; refine HE.out.mono ?_; rintro e w1 ⟨rfl, n, rfl⟩)
  go_ret
  exact ⟨rfl, bel_drewN (Below.refl _ _) n⟩

end Go.Proofs.Ythdakljoabbghaa

/-
  Package marks (stage 12): own, copied.
-/
namespace Go.Proofs.Ythdakljoabbghaa
open Go.RowKit

/-- What own leaves: the range, its terms in a row of their own. -/
def OwnPost (W : World) (r : Rx) (e : Ending) (w' : World) : Prop :=
  ∃ p c, e = .returned (.agg #[.string r.typ, .slice p r.tm.length c]) ∧ KM.Own W.heap.size w' (.slice p r.tm.length c) r.tm ∧ Below W.heap.size W w'

set_option maxHeartbeats 4000000 in
set_option maxRecDepth 100000 in
theorem mown12_any (r : Rx) (w : World) (hr : r.at w) : Calls Try.prog 41 #[.agg (encRx r).toArray] w fun e w' => OwnPost w r e w' := by
  obtain ⟨hbV, h1, h2, hs⟩ := two_boxes w (encRx r).toArray #[.string ⟨#[]⟩, .slice none 0 0] 34 34
  obtain ⟨V, hV⟩ : ∃ V, (w.alloc (.cells (encRx r).toArray 34)).alloc (.cells #[.string ⟨#[]⟩, .slice none 0 0] 34) = V := ⟨_, rfl⟩
  obtain ⟨M, hM⟩ : ∃ M, w.heap.size = M := ⟨_, rfl⟩
  rw [hV] at hbV h1 h2 hs
  rw [hM] at h1 h2 hs
  have HC := hid (cloneM_any r.sl r.tm V.drew (Kind.is_kept hr.1 hbV.drew) hr.2.2)
  have HB := hid hbV
  have HBX : Hid (∀ W' : World, Below V.heap.size V W' → (W'.cell? ⟨M, 0, none⟩ = some (.string r.typ) ∧ W'.cell? ⟨M, 1, none⟩ = some r.sl) ∧ (W'.cell? ⟨M + 1, 0, none⟩ = some (.string ⟨#[]⟩) ∧ W'.cell? ⟨M + 1, 1, none⟩ = some (.slice none 0 0)) ∧ W'.frozen? ⟨M + 1, 0, none⟩ = false ∧ W'.frozen? ⟨M + 1, 1, none⟩ = false) := fun W' hW => by
    have e1 := (hW.block M (by omega)).trans h1
    have e2 := (hW.block (M + 1) (by omega)).trans h2
    exact ⟨⟨by rw [Lib.cell_of_heap e1]; rfl, by rw [Lib.cell_of_heap e1]; rfl⟩, ⟨by rw [Lib.cell_of_heap e2]; rfl, by rw [Lib.cell_of_heap e2]; rfl⟩, Lib.frozen_of_heap e2 0, Lib.frozen_of_heap e2 1⟩
  obtain ⟨⟨a0, a1⟩, _, _⟩ := HBX.out V (Below.refl _ _)
  clear hr hbV h1 h2
  obtain ⟨rt, rp, rc, rm⟩ := r
  simp only [encRx, Rx.sl] at *
  go_enter Try.func41, Try.ntmps41
  go_wp2_with fail
  try rw [hV]
  try rw [hM]
  clear hV
  refine wp_region_held_drew (S := fun w' => w'.cell? ⟨M, 0, none⟩ = some (.string rt) ∧ w'.cell? ⟨M, 1, none⟩ = some (.slice rp rm.length rc)) (by kernel_rfl) ⟨a0, a1⟩ (fun hHeld => ?_)
  refine take_val (i := 0) (.pointer (some ⟨M, 0, none⟩)) rfl (by kernel_rfl) (by kernel_rfl) (by kernel_rfl) (fun _ _ _ h => h) (by rfl) (fun w hSw => by go_simp) hHeld ?_
  simp only [Act.put, List.setIfInBounds_toArray, List.set_cons_zero, List.set_cons_succ]
  refine take_val (i := 1) (.string rt) rfl (by kernel_rfl) (by kernel_rfl) (by kernel_rfl) (fun _ _ _ h => h) (by rfl) (fun w hSw => by go_simp) hHeld ?_
  simp only [Act.put, List.setIfInBounds_toArray, List.set_cons_zero, List.set_cons_succ]
  refine take_val (i := 2) (.pointer (some ⟨M, 1, none⟩)) rfl (by kernel_rfl) (by kernel_rfl) (by kernel_rfl) (fun _ _ _ h => h) (by rfl) (fun w hSw => by go_simp) hHeld ?_
  simp only [Act.put, List.setIfInBounds_toArray, List.set_cons_zero, List.set_cons_succ]
  refine take_val (i := 3) (.slice rp rm.length rc) rfl (by kernel_rfl) (by kernel_rfl) (by kernel_rfl) (fun _ _ _ h => h) (by rfl) (fun w hSw => by go_simp) hHeld ?_
  simp only [Act.put, List.setIfInBounds_toArray, List.set_cons_zero, List.set_cons_succ]
  clear hHeld a0 a1
  refine wpAnyH_ready (rs := [4]) (by kernel_rfl) (by simp) ?_
  refine AllReadyH.cons (at_drop0 rfl) (fun K hK => ?_) AllReadyH.nil
  rw [if_pos (by rfl)]
  go_simp
  refine HC.out.mono ?_
  rintro e w1 ⟨u1, rfl, ho1, hb1⟩
  obtain ⟨p1, c1, rfl⟩ := Kind.own_shape ho1
  have hb1' : Below V.heap.size V w1 := (bel_drewN (Below.refl _ _) 1).trans hb1
  obtain ⟨⟨a0, a1⟩, ⟨q0, q1⟩, r0, r1⟩ := HBX.out w1 hb1'
  have HO1 : Hid (KM.Own V.heap.size w1 (.slice p1 rm.length c1) rm) := ho1
  have HB1 := hid hb1'
  obtain ⟨W4, hW4⟩ : ∃ W4, (w1.setCell ⟨M + 1, 0, none⟩ (.string rt)).setCell ⟨M + 1, 1, none⟩ (.slice p1 rm.length c1) = W4 := ⟨_, rfl⟩
  have e0 : W4.cell? ⟨M, 0, none⟩ = some (.string rt) ∧ W4.cell? ⟨M, 1, none⟩ = some (.slice rp rm.length rc) := by
    rw [← hW4]
    simp [go_sem, a0, a1]
  have g0 : W4.cell? ⟨M + 1, 0, none⟩ = some (.string rt) := by rw [← hW4]; simp [go_sem, q0]
  have g1 : W4.cell? ⟨M + 1, 1, none⟩ = some (.slice p1 rm.length c1) := by rw [← hW4]; simp [go_sem, q1]
  have HG := hid (And.intro g0 g1)
  have HB4 : Hid (Below w.heap.size w W4) := by
    rw [← hW4]
    have h3 := bel_then HB.out HB.out.size hb1'
    rw [hM] at h3 ⊢
    exact (h3.setCell (show M ≤ M + 1 by omega) _).setCell (show M ≤ M + 1 by omega) _
  have HK4 : Hid (KM.Own w.heap.size W4 (.slice p1 rm.length c1) rm) := by
    rw [← hW4]
    exact Kind.own_weak (own_cell (own_cell HO1.out (by omega) _ _) (by omega) _ _) (by omega)
  clear ho1 hb1 hb1' HC g0 g1
  go_wp2_with fail
  refine hK.out _ _ (⟨a0, a1⟩) (fun hHeld => ?_)
  clear hK K
  try simp only [Act.put, List.setIfInBounds_toArray, List.set_cons_zero, List.set_cons_succ]
  refine take_val (i := 5) (.agg #[.string rt, .slice p1 rm.length c1]) rfl (by kernel_rfl) (by kernel_rfl) (by kernel_rfl) (fun _ _ _ h => h) (by rfl) (fun w hSw => by go_simp) hHeld ?_
  simp only [Act.put, List.setIfInBounds_toArray, List.set_cons_zero, List.set_cons_succ]
  clear hHeld a0 a1
  refine wpAnyH_ready (rs := [6]) (by kernel_rfl) (by simp) ?_
  refine AllReadyH.cons (at_drop0 rfl) (fun K hK => ?_) AllReadyH.nil
  rw [if_pos (by rfl)]
  go_simp
  go_wp2_with fail
  try rw [hW4]
  refine hK.out _ _ e0 (fun hHeld => ?_)
  clear hK K
  try simp only [Act.put, List.setIfInBounds_toArray, List.set_cons_zero, List.set_cons_succ]
  refine wpAnyH_done (by kernel_rfl) ?_ _
  clear hHeld e0 q0 q1 r0 r1
  obtain ⟨g0, g1⟩ := HG.out
  go_wp2_with fail
  exact bodyPost_ret (v := .agg #[.string rt, .slice p1 rm.length c1]) (by simp [results, Try.results41, go_sem, g0, g1]) rfl ⟨p1, c1, rfl, HK4.out, HB4.out⟩

theorem infoRx12 : (Try.prog.info? 34).map (fun i => (i.zero, i.size, i.bytes)) = some (some (.agg #[.string ⟨#[]⟩, .slice none 0 0]), 2, 40) := by kernel_rfl

set_option maxHeartbeats 4000000 in
set_option maxRecDepth 100000 in
theorem mcopied12_any (v : Value) (l : List Rx) (w : World) (hv : KRx.Is w v l) (he : ∀ r ∈ l, r.at w) (hl : l.length ≤ 3518437208883) :
    Calls Try.prog 30 #[v] w fun e w' => RgPost w (l.map Rx.rg) e w' := by
  obtain ⟨i0, hi0, hz0, hz1, hz2⟩ := info_parts infoRx12
  have HI0 := hid hi0
  obtain ⟨p, cap, rfl, hd⟩ := hv
  have HD := hid hd
  have HE := hid he
  clear hd hi0 he
  go_enter Try.func30, Try.ntmps30
  go_wp2_with fail
  go_loopg [3, 8] l.length (fun gg v3 vi wr => ∃ (i : Nat) (L : List Rx) (p' : Option Addr) (c' : Nat), v3 = .slice p' L.length c' ∧ vi = .int .i64 i ∧ i ≤ l.length ∧ l.length - i ≤ gg ∧ L.length ≤ i ∧ Hid (RgSt w.heap.size w (.slice p' L.length c') L wr ∧ L.map Rx.rg = (l.take i).map Rx.rg))
  case atStart => exact ⟨0, [], none, 0, rfl, rfl, by omega, by omega, by simp, RgSt.nil (Below.refl _ _) (Nat.le_refl _), by simp⟩
  case round =>
    obtain ⟨i, L, p', c', rfl, rfl, hi, hgk, hLi, HS⟩ := hrel
    by_cases hlt : i < l.length
    · have hltz : (i : Int) < (l.length : Int) := by omega
      have hiz : (0 : Int) ≤ i := by omega
      obtain ⟨b1, o1, rfl, k1⟩ : ∃ b off, p = some ⟨b, off, none⟩ ∧ KRx.At w b off l := by
        rcases HD.out with h | h
        · rw [h] at hlt; simp at hlt
        · exact h
      have hbw : Below w.heap.size w wr := HS.out.1.row.bel
      obtain ⟨y0, y1⟩ := krx_at (Kind.at_kept k1 hbw) i hlt
      have hx := HE.out _ (List.getElem_mem hlt)
      have HTK : Hid ((l.take (i + 1)).map Rx.rg = (l.take i).map Rx.rg ++ [(l[i]).rg]) := by
        show _ = _
        rw [List.take_succ_eq_append_getElem hlt, List.map_append]
        rfl
      generalize l[i] = x at *
      obtain ⟨V, hV⟩ : ∃ V, wr.alloc (.cells #[.string x.typ, x.sl] 34) = V := ⟨_, rfl⟩
      have hbV : Below wr.heap.size wr V := by rw [← hV]; exact (Below.refl _ _).alloc (Nat.le_refl _) _
      have HO := hid (mown12_any x V (hx.on (bel_then hbw hbw.size hbV)))
      have HSV := hid (HS.out.1.on hbV)
      have HM := hid HS.out.2
      have HF := hid hx.2
      obtain ⟨xt, xp, xc, xm⟩ := x
      simp only [Rx.sl, encRx] at *
      obtain ⟨Q, hQ⟩ : ∃ Q, wr.heap.size = Q := ⟨_, rfl⟩
      have hn1 : V.heap[Q]? = some (.cells #[.string xt, .slice xp xm.length xc] 34 (0, 0)) := by rw [← hV, ← hQ]; exact heap_alloc_new wr _
      have d0 : V.cell? ⟨Q, 0, none⟩ = some (.string xt) := by rw [Lib.cell_of_heap hn1]; rfl
      have d1 : V.cell? ⟨Q, 1, none⟩ = some (.slice xp xm.length xc) := by rw [Lib.cell_of_heap hn1]; rfl
      clear k1 hbw hbV hx HS hn1
      go_upto_region 5 with fail
      try rw [hQ]
      try rw [hV]
      clear hV y0 y1
      go_wp2_with fail
      clear d0 d1
      refine HO.out.mono ?_
      rintro e w1 ⟨p1, c1, rfl, ho1, hb1⟩
      have hs1 := HSV.out.on hb1
      have hfr := HSV.out.fresh (x := ⟨xt, p1, c1, xm⟩) ho1
      have hN1 := HSV.out.row.base
      simp only at ho1 hb1
      obtain ⟨W1, hW1⟩ : ∃ W1, w1.alloc (.cells #[.string xt, .slice p1 xm.length c1] 34) = W1 := ⟨_, rfl⟩
      have hb2 : Below w1.heap.size w1 W1 := by rw [← hW1]; exact (Below.refl _ _).alloc (Nat.le_refl _) _
      have HN1 : Hid (W1.heap[w1.heap.size]? = some (.cells #[.string xt, .slice p1 xm.length c1] 34 (0, 0))) := by rw [← hW1]; exact heap_alloc_new w1 _
      have HS1 := hid (hs1.on hb2)
      have HX1 : Hid (KM.Own w.heap.size W1 (.slice p1 xm.length c1) xm) := Kind.own_weak (Kind.own_on ho1 hb2) hN1
      have HFR := hid hfr
      clear hs1 hfr hN1 ho1 hb1 hb2 HO HSV
      go_wp2_with (at_builtin; refine wpList_push KRx rfl _ _ 23 rfl i0 _ 40 Try.underlying23 HI0.out hz0 hz1 hz2 rfl w.heap.size w _ L rfl HS1.out.row ⟨xt, p1, c1, xm⟩ _ _ _ rfl rfl _ _ HN1.out (by unfold maxLen; omega) (by omega) ?_
                   intro g3 c3 w3 hst3 hg3 _
                   have HS3 := hid (HS1.out.push (x := ⟨xt, p1, c1, xm⟩) HX1.out HF.out HFR.out hst3 hg3)
                   clear hst3 hg3)
      go_roundg (l.length - (i + 1))
      case measure => omega
      exact ⟨i + 1, L ++ [⟨xt, p1, c1, xm⟩], some ⟨g3, 0, none⟩, c3, by rw [List.length_append]; rfl, by go_num, by omega, by omega, by rw [List.length_append, List.length_singleton]; omega, by rw [List.length_append]; exact HS3.out, by rw [HTK.out, List.map_append, HM.out]; rfl⟩
    · have hltz : ¬ (i : Int) < (l.length : Int) := by omega
      have hti : l.take i = l := List.take_of_length_le (by omega)
      rw [hti] at HS
      go_wp2_with fail
      go_ret
      exact ⟨p', c', L, rfl, HS.out.1, HS.out.2⟩

end Go.Proofs.Ythdakljoabbghaa

/-
  The contracts of holds and Match.
-/
namespace Go.Proofs.Ythdakljoabbghaa
open Go.RowKit Go.Lib

/-- A term in a block of its own. -/
def BoxM (w : World) (g : Nat) (x : Tm) : Prop := w.heap[g]? = some (.cells #[.string x.1, .int .i64 x.2.1, .string x.2.2] 58 (0, 0))
theorem BoxM.cells {w : World} {g : Nat} {x : Tm} (h : BoxM w g x) : w.cell? ⟨g, 0, none⟩ = some (.string x.1) ∧ w.cell? ⟨g, 1, none⟩ = some (.int .i64 x.2.1) ∧ w.cell? ⟨g, 2, none⟩ = some (.string x.2.2) := by
  rw [Lib.cell_of_heap h, Lib.cell_of_heap h, Lib.cell_of_heap h]
  exact ⟨rfl, rfl, rfl⟩
theorem BoxM.lt {w : World} {g : Nat} {x : Tm} (h : BoxM w g x) : g < w.heap.size := (Array.getElem?_eq_some_iff.1 h).1
theorem BoxM.on {w w' : World} {g : Nat} {x : Tm} (h : BoxM w g x) (hb : Below w.heap.size w w') : BoxM w' g x := (hb.block g h.lt).trans h
theorem boxM_new (w : World) (x : Tm) : BoxM (w.alloc (.cells #[.string x.1, .int .i64 x.2.1, .string x.2.2] 58)) w.heap.size x := heap_alloc_new w _

/-- What a term asks of a text. -/
def meetsT (x : Tm) (t : ByteArray) : Bool :=
  if x.2.1 = 1 ∨ x.2.1 = 2 then tokenB x.2.2 t else if x.2.1 = 3 then beginsB t x.2.2 else if x.2.1 = 4 then ltB t x.2.2 else if x.2.1 = 5 then ltB x.2.2 t else true

theorem begins_prefix (s t : ByteArray) : Lib.hasPrefix s.data.toList t.data.toList = beginsB s t := by
  unfold beginsB
  rw [toList_eq]
  by_cases h : t.size ≤ s.size
  · rw [decide_eq_true h, Bool.true_and]
    rw [Bool.eq_iff_iff, decide_eq_true_iff]
    have e : (s.extract 0 t.size).data.toList = s.data.toList.take t.size := by simp
    constructor
    · intro hp
      refine ba_eq ?_
      rw [e]
      have := List.prefix_iff_eq_take.1 (List.isPrefixOf_iff_prefix.1 hp)
      simpa using this.symm
    · intro he
      refine List.isPrefixOf_iff_prefix.2 ?_
      have : t.data.toList = s.data.toList.take t.size := by rw [← e, he]
      rw [this]
      exact List.take_prefix _ _
  · rw [decide_eq_false h, Bool.false_and, Bool.eq_false_iff]
    intro hp
    have := (List.isPrefixOf_iff_prefix.1 hp).length_le
    simp at this
    exact h this

/-- A text that a machine can hold. -/
def Bt : Type := { t : ByteArray // t.size ≤ maxLen }

theorem hasT_any (f : ByteArray → Bool) (k : Nat) (lb : Array Value) (ent : ∀ args w, (callFunc k args).run Try.prog w = .ok (.enter k args) w) (p : Option Addr) (cap : Nat) (ts : List ByteArray) (w : World) (h : TxtAt w p ts) (hf : FitT ts)
    (hk : ∀ (W : World) (t : ByteArray), Below w.heap.size w W → t.size ≤ maxLen → Calls Try.prog k (#[.string t] ++ lb) W fun e w' => e = .returned (.bool (f t)) ∧ ∃ q, w' = W.drewN q) :
    Calls Try.prog 82 #[.slice p ts.length cap, .func (.func k) #[] lb] w fun e w' => e = .returned (.bool (ts.any f)) ∧ ∃ q, w' = w.drewN q := by
  rcases h with rfl | ⟨b, off, rfl, hc⟩
  · refine (Try.slices_ContainsFunc_empty (α := ByteArray) p cap _ w).mono ?_
    rintro e w' ⟨rfl, rfl⟩
    exact ⟨rfl, 0, rfl⟩
  · have hl := hf.1
    unfold maxLen at hl
    obtain ⟨zs, hzs⟩ : ∃ zs : List Bt, zs.map (·.1) = ts := ⟨ts.attachWith _ hf.2, List.attachWith_map_subtype_val ..⟩
    have hzl : zs.length = ts.length := by rw [← hzs, List.length_map]
    letI : Inhabited Bt := ⟨⟨⟨#[]⟩, Nat.zero_le _⟩⟩
    refine (Try.slices_ContainsFunc (fun t : Bt => Value.string t.1) (fun t => f t.1) k lb ent b off ts.length cap zs w (fun W x hb => hk W x.1 hb x.2) (by omega) (by omega) ?_).mono ?_
    · intro j hj
      rw [getElem!_pos zs j hj]
      have e : (zs[j]).1 = ts[j]'(by omega) := by subst hzs; simp
      rw [e]
      exact hc j (by omega)
    · rintro e w' ⟨rfl, hq⟩
      refine ⟨ret_bool ?_, hq⟩
      rw [List.take_of_length_le (by omega), ← hzs]
      simp [List.any_map, Function.comp_def]

theorem enters_h1 : ∀ args w, (callFunc 75 args).run Try.prog w = .ok (.enter 75 args) w := enters_of Try.func75 (by kernel_rfl) rfl
theorem enters_h2 : ∀ args w, (callFunc 77 args).run Try.prog w = .ok (.enter 77 args) w := enters_of Try.func77 (by kernel_rfl) rfl
theorem enters_h3 : ∀ args w, (callFunc 79 args).run Try.prog w = .ok (.enter 79 args) w := enters_of Try.func79 (by kernel_rfl) rfl
theorem enters_h4 : ∀ args w, (callFunc 80 args).run Try.prog w = .ok (.enter 80 args) w := enters_of Try.func80 (by kernel_rfl) rfl
theorem enters_h5 : ∀ args w, (callFunc 81 args).run Try.prog w = .ok (.enter 81 args) w := enters_of Try.func81 (by kernel_rfl) rfl

set_option maxHeartbeats 1000000 in
theorem h1_any (g : Nat) (x : Tm) (t : ByteArray) (W : World) (hb : BoxM W g x) (hx : x.2.2.size ≤ maxLen) (ht : t.size ≤ maxLen) :
    Calls Try.prog 75 #[.string t, .pointer (some ⟨g, 0, none⟩)] W fun e w' => e = .returned (.bool (tokenB x.2.2 t)) ∧ ∃ q, w' = W.drewN q := by
  obtain ⟨_, _, c2⟩ := hb.cells
  have HX := hid hx
  have HT := hid ht
  clear hb hx ht
  go_enter Try.func75, Try.ntmps75
  go_wp2_with (go_at_call 76; refine (Token_any _ _ _ HX.out HT.out).mono ?_; rintro e w1 ⟨rfl, n, rfl⟩)
  go_ret
  exact ⟨rfl, n, rfl⟩

set_option maxHeartbeats 1000000 in
theorem h2_any (g : Nat) (x : Tm) (t : ByteArray) (W : World) (hb : BoxM W g x) :
    Calls Try.prog 77 #[.string t, .pointer (some ⟨g, 0, none⟩)] W fun e w' => e = .returned (.bool (beginsB t x.2.2)) ∧ ∃ q, w' = W.drewN q := by
  obtain ⟨_, _, c2⟩ := hb.cells
  have HE := hid (begins_prefix t x.2.2)
  clear hb
  go_enter Try.func77, Try.ntmps77
  go_wp2_with (go_at_call 78; refine (Try.strings_HasPrefix _ _ _).mono ?_; rintro e w1 ⟨rfl, rfl⟩)
  go_ret
  exact ⟨ret_bool HE.out, 0, rfl⟩

set_option maxHeartbeats 1000000 in
theorem h3_any (g : Nat) (x : Tm) (t : ByteArray) (W : World) (hb : BoxM W g x) :
    Calls Try.prog 79 #[.string t, .pointer (some ⟨g, 0, none⟩)] W fun e w' => e = .returned (.bool (ltB t x.2.2)) ∧ ∃ q, w' = W.drewN q := by
  obtain ⟨_, _, c2⟩ := hb.cells
  have HE := hid (sless_of (rfl : ltB t x.2.2 = _))
  clear hb
  go_enter Try.func79, Try.ntmps79
  go_wp2_with fail
  go_ret
  exact ⟨ret_bool HE.out, 0, rfl⟩

set_option maxHeartbeats 1000000 in
theorem h4_any (g : Nat) (x : Tm) (t : ByteArray) (W : World) (hb : BoxM W g x) :
    Calls Try.prog 80 #[.string t, .pointer (some ⟨g, 0, none⟩)] W fun e w' => e = .returned (.bool (ltB x.2.2 t)) ∧ ∃ q, w' = W.drewN q := by
  obtain ⟨_, _, c2⟩ := hb.cells
  have HE := hid (gtr_of t x.2.2)
  have HL := hid (sless_of (rfl : ltB t x.2.2 = _))
  clear hb
  go_enter Try.func80, Try.ntmps80
  go_wp2_with fail
  go_ret
  refine ⟨ret_bool ?_, 0, rfl⟩
  rw [← HE.out, HL.out]

set_option maxHeartbeats 1000000 in
theorem h5_any (t : ByteArray) (W : World) :
    Calls Try.prog 81 #[.string t] W fun e w' => e = .returned (.bool true) ∧ ∃ q, w' = W.drewN q := by
  go_enter Try.func81, Try.ntmps81
  go_wp2_with fail
  go_ret
  exact ⟨rfl, 0, rfl⟩

theorem any_true (ts : List ByteArray) : ts.any (fun _ => true) = decide (0 < ts.length) := by
  cases ts <;> simp

set_option maxHeartbeats 4000000 in
set_option maxRecDepth 100000 in
theorem pholds_any (x : Tm) (p : Option Addr) (cap : Nat) (ts : List ByteArray) (w : World) (h : TxtAt w p ts) (hf : FitT ts) (hx : x.2.2.size ≤ maxLen) :
    Calls Try.prog 63 #[.agg #[.string x.1, .int .i64 x.2.1, .string x.2.2], .slice p ts.length cap] w fun e w' => e = .returned (.bool (holdsT x ts)) ∧ Grown w w' := by
  obtain ⟨W, hW⟩ : ∃ W, w.alloc (.cells #[.string x.1, .int .i64 x.2.1, .string x.2.2] 58) = W := ⟨_, rfl⟩
  have hbw : Below w.heap.size w W := by rw [← hW]; exact (Below.refl _ _).alloc (Nat.le_refl _) _
  have HG : Hid (Grown w W) := by rw [← hW]; exact (Grown.refl _).alloc _
  have hbox : BoxM W w.heap.size x := by rw [← hW]; exact boxM_new w x
  have hmf : ∀ (fn : Fn) (first cap : Array Value) (w : World), (Instr.makeFunc fn first cap).run Try.prog w = .ok (.func fn first cap) w := fun _ _ _ _ => rfl
  have H1 := hid (hasT_any (tokenB x.2.2) 75 #[.pointer (some ⟨w.heap.size, 0, none⟩)] enters_h1 p cap ts W (h.kept hbw) hf (fun V t hb ht => h1_any w.heap.size x t V (hbox.on hb) hx ht))
  have H2 := hid (hasT_any (fun t => beginsB t x.2.2) 77 #[.pointer (some ⟨w.heap.size, 0, none⟩)] enters_h2 p cap ts W (h.kept hbw) hf (fun V t hb ht => h2_any w.heap.size x t V (hbox.on hb)))
  have H3 := hid (hasT_any (fun t => ltB t x.2.2) 79 #[.pointer (some ⟨w.heap.size, 0, none⟩)] enters_h3 p cap ts W (h.kept hbw) hf (fun V t hb ht => h3_any w.heap.size x t V (hbox.on hb)))
  have H4 := hid (hasT_any (fun t => ltB x.2.2 t) 80 #[.pointer (some ⟨w.heap.size, 0, none⟩)] enters_h4 p cap ts W (h.kept hbw) hf (fun V t hb ht => h4_any w.heap.size x t V (hbox.on hb)))
  have H5 := hid (hasT_any (fun _ => true) 81 #[] enters_h5 p cap ts W (h.kept hbw) hf (fun V t hb ht => h5_any t V))
  obtain ⟨c0, c1, c2⟩ := hbox.cells
  obtain ⟨r, hr⟩ : ∃ r, holdsT x ts = r := ⟨_, rfl⟩
  rw [hr]
  have HR := hid hr
  obtain ⟨xf, xo, xt⟩ := x
  simp only at hW c0 c1 c2 H1 H2 H3 H4
  unfold holdsT at HR
  simp only at HR
  rw [any_true] at H5
  obtain ⟨B1, hB1⟩ : ∃ B, ts.any (tokenB xt) = B := ⟨_, rfl⟩
  rw [hB1] at H1 HR
  obtain ⟨B2, hB2⟩ : ∃ B, ts.any (fun t => beginsB t xt) = B := ⟨_, rfl⟩
  rw [hB2] at H2 HR
  obtain ⟨B3, hB3⟩ : ∃ B, ts.any (fun t => ltB t xt) = B := ⟨_, rfl⟩
  rw [hB3] at H3 HR
  obtain ⟨B4, hB4⟩ : ∃ B, ts.any (fun t => ltB xt t) = B := ⟨_, rfl⟩
  rw [hB4] at H4 HR
  have e7 : decide (ts.length = 0) = !decide (0 < ts.length) := by cases ts <;> simp
  rw [e7] at HR
  obtain ⟨B5, hB5⟩ : ∃ B, decide (0 < ts.length) = B := ⟨_, rfl⟩
  rw [hB5] at H5 HR
  clear hr h hf hx hbox hbw hB1 hB2 hB3 hB4 hB5 e7
  by_cases hr7 : 1 ≤ xo ∧ xo ≤ 7
  · rcases (show xo = 1 ∨ xo = 2 ∨ xo = 3 ∨ xo = 4 ∨ xo = 5 ∨ xo = 6 ∨ xo = 7 by omega) with rfl | rfl | rfl | rfl | rfl | rfl | rfl
    · have HV : Hid (B1 = r) := by have := HR.out; show B1 = r; simpa using this
      go_enter Try.func63, Try.ntmps63
      go_wp2_with (go_at_call 82; refine H1.out.mono ?_; rintro e w1 ⟨rfl, n, rfl⟩)
      go_ret
      refine ⟨ret_bool ?_, HG.out.drewN n⟩
      rw [← HV.out]
    · have HV : Hid ((!B1) = r) := by have := HR.out; show (!B1) = r; simpa using this
      go_enter Try.func63, Try.ntmps63
      go_wp2_with (go_at_call 82; refine H1.out.mono ?_; rintro e w1 ⟨rfl, n, rfl⟩)
      go_ret
      refine ⟨ret_bool ?_, HG.out.drewN n⟩
      rw [← HV.out]
    · have HV : Hid (B2 = r) := by have := HR.out; show B2 = r; simpa using this
      go_enter Try.func63, Try.ntmps63
      go_wp2_with (go_at_call 82; refine H2.out.mono ?_; rintro e w1 ⟨rfl, n, rfl⟩)
      go_ret
      refine ⟨ret_bool ?_, HG.out.drewN n⟩
      rw [← HV.out]
    · have HV : Hid (B3 = r) := by have := HR.out; show B3 = r; simpa using this
      go_enter Try.func63, Try.ntmps63
      go_wp2_with (go_at_call 82; refine H3.out.mono ?_; rintro e w1 ⟨rfl, n, rfl⟩)
      go_ret
      refine ⟨ret_bool ?_, HG.out.drewN n⟩
      rw [← HV.out]
    · have HV : Hid (B4 = r) := by have := HR.out; show B4 = r; simpa using this
      go_enter Try.func63, Try.ntmps63
      go_wp2_with (go_at_call 82; refine H4.out.mono ?_; rintro e w1 ⟨rfl, n, rfl⟩)
      go_ret
      refine ⟨ret_bool ?_, HG.out.drewN n⟩
      rw [← HV.out]
    · have HV : Hid (B5 = r) := by have := HR.out; show B5 = r; simpa using this
      go_enter Try.func63, Try.ntmps63
      go_wp2_with (go_at_call 82; refine H5.out.mono ?_; rintro e w1 ⟨rfl, n, rfl⟩)
      go_ret
      refine ⟨ret_bool ?_, HG.out.drewN n⟩
      rw [← HV.out]
    · have HV : Hid ((!B5) = r) := by have := HR.out; show (!B5) = r; simpa using this
      go_enter Try.func63, Try.ntmps63
      go_wp2_with (go_at_call 82; refine H5.out.mono ?_; rintro e w1 ⟨rfl, n, rfl⟩)
      go_ret
      refine ⟨ret_bool ?_, HG.out.drewN n⟩
      rw [← HV.out]
  · have HV : Hid (false = r) := by
      have := HR.out
      rw [if_neg (by omega), if_neg (by omega), if_neg (by omega), if_neg (by omega), if_neg (by omega), if_neg (by omega), if_neg (by omega)] at this
      exact this
    have n1 : (xo == 1) = false := by simp; omega
    have n2 : (xo == 2) = false := by simp; omega
    have n3 : (xo == 3) = false := by simp; omega
    have n4 : (xo == 4) = false := by simp; omega
    have n5 : (xo == 5) = false := by simp; omega
    have n6 : (xo == 6) = false := by simp; omega
    have n7 : (xo == 7) = false := by simp; omega
    clear hr7
    go_enter Try.func63, Try.ntmps63
    go_wp2_with fail
    go_ret
    exact ⟨ret_bool HV.out, HG.out⟩

set_option maxHeartbeats 8000000 in
set_option maxRecDepth 100000 in
theorem pmatch_any (u v : Value) (p : List Tm) (d : List Fx) (w : World) (hu : KM.Is w u p) (hp : FitM p) (hv : IsXs w v d) (hf : FitX d) (h16 : ∀ x ∈ d, x.txt.length * 16 ≤ 140737488355328) :
    Calls Try.prog 47 #[u, v] w fun e w' => e = .returned (.bool (matchM p (d.map Fx.fld))) ∧ Below w.heap.size w w' := by
  obtain ⟨q, cap, rfl, hd⟩ := hu
  have hl := hp.1
  unfold maxLen at hl
  have HD := hid hd
  have HV := hid hv
  have HF := hid hf
  have HP := hid hp
  have H16 := hid h16
  obtain ⟨r, hr⟩ : ∃ r, matchM p (d.map Fx.fld) = r := ⟨_, rfl⟩
  rw [hr]
  have HR := hid hr
  clear hd hv hf hp h16 hr
  go_enter Try.func47, Try.ntmps47
  go_wp2_with fail
  go_loopg [9] p.length (fun g vi wr => ∃ i : Nat, vi = .int .i64 i ∧ i ≤ p.length ∧ p.length - i ≤ g ∧ Below w.heap.size w wr ∧ Hid (∀ j (h : j < p.length), j < i → holdsM p[j] (d.map Fx.fld) = true))
  case atStart => exact ⟨0, rfl, by omega, by omega, Below.refl _ _, fun j _ h => by omega⟩
  case round =>
    obtain ⟨i, rfl, hi, hg, hb, HJ⟩ := hrel
    by_cases hlt : i < p.length
    · have hltz : (i : Int) < (p.length : Int) := by omega
      have hiz : (0 : Int) ≤ i := by omega
      obtain ⟨b, off, rfl, hat⟩ : ∃ b off, q = some ⟨b, off, none⟩ ∧ KM.At w b off p := by
        rcases HD.out with h | h
        · rw [h] at hlt; simp at hlt
        · exact h
      obtain ⟨c0, c1, c2⟩ := km_cells (Kind.at_kept hat hb) i hlt
      have hfx := HP.out.2 _ (List.getElem_mem hlt)
      have hno : holdsM p[i] (d.map Fx.fld) = false → r = false := fun h => by
        rw [← HR.out]
        unfold matchM
        rw [List.all_eq_false]
        exact ⟨_, List.getElem_mem hlt, by rw [h]; simp⟩
      have hyes : holdsM p[i] (d.map Fx.fld) = true → ∀ j (h : j < p.length), j < i + 1 → holdsM p[j] (d.map Fx.fld) = true := fun e j h hj => by
        by_cases ej : j = i
        · subst ej; exact e
        · exact HJ.out j h (by omega)
      obtain ⟨x, hx⟩ : ∃ x, p[i] = x := ⟨_, rfl⟩
      rw [hx] at c0 c1 c2 hfx hno hyes
      have HNO := hid hno
      have HYES := hid hyes
      have HB := hid hb
      have hsz := hb.size
      obtain ⟨xf, xo, xt⟩ := x
      simp only at c0 c1 c2 hfx
      clear hat hx hno hyes hb
      go_wp2_with fail
      obtain ⟨F, hF⟩ : ∃ F, wr.heap.size = F := ⟨_, rfl⟩
      obtain ⟨W, hW⟩ : ∃ W, wr.alloc (.cells #[.string xf, .int .i64 xo, .string xt] 58) = W := ⟨_, rfl⟩
      have hbox : BoxM W F (xf, xo, xt) := by rw [← hW, ← hF]; exact boxM_new wr (xf, xo, xt)
      have hbW : Below w.heap.size w W := by rw [← hW]; exact HB.out.alloc hsz _
      have HBW := hid hbW
      have HT := hid (texts_any v xf d W.drew (HV.out.kept hbW.drew) HF.out H16.out)
      have hFl : F < W.heap.size := hbox.lt
      have q0 : W.drew.cell? ⟨F, 0, none⟩ = some (.string xf) ∧ W.drew.cell? ⟨F, 1, none⟩ = some (.int .i64 xo) ∧ W.drew.cell? ⟨F, 2, none⟩ = some (.string xt) := hbox.cells
      have KS : Hid (∀ w' : World, Below W.drew.heap.size W.drew w' → w'.cell? ⟨F, 0, none⟩ = some (.string xf) ∧ w'.cell? ⟨F, 1, none⟩ = some (.int .i64 xo) ∧ w'.cell? ⟨F, 2, none⟩ = some (.string xt)) := fun w' h => (BoxM.on (w := W.drew) hbox h).cells
      have HTF : Hid (FitT (textsOf (d.map Fx.fld) xf)) := by
        show FitT _
        unfold textsOf
        cases hfd : (d.map Fx.fld).find? (fun f => decide (f.1 = xf)) with
        | none => exact ⟨Nat.zero_le _, fun t ht => by simp at ht⟩
        | some f =>
          obtain ⟨y, hy, rfl⟩ := List.mem_map.1 (List.mem_of_find?_eq_some hfd)
          exact (HF.out.2 y hy).2
      obtain ⟨ts, hts⟩ : ∃ ts, textsOf (d.map Fx.fld) xf = ts := ⟨_, rfl⟩
      rw [hts] at HT HTF
      have HXT : Hid (holdsM (xf, xo, xt) (d.map Fx.fld) = holdsT (xf, xo, xt) ts) := by show _ = _; unfold holdsM; rw [hts]
      clear hts hbox hbW
      rw [hF, hW]
      clear hF hW
      cases hB : holdsT (xf, xo, xt) ts with
      | true =>
        have HX : Hid (holdsM (xf, xo, xt) (d.map Fx.fld) = true) := by show _ = _; rw [HXT.out, hB]
        have HHD : Hid (∀ (W5 : World) p5 c5, TxtAt W5 p5 ts → Calls Try.prog 63 #[.agg #[.string xf, .int .i64 xo, .string xt], .slice p5 ts.length c5] W5 fun e w' => e = .returned (.bool true) ∧ Grown W5 w') := fun W5 p5 c5 h => by
          have := pholds_any (xf, xo, xt) p5 c5 ts W5 h HTF.out hfx.2.1
          rwa [hB] at this
        clear hB
        go_region_held3 (fun w' => w'.cell? ⟨F, 0, none⟩ = some (.string xf) ∧ w'.cell? ⟨F, 1, none⟩ = some (.int .i64 xo) ∧ w'.cell? ⟨F, 2, none⟩ = some (.string xt))
          (first | exact q0 | exact q5 | exact q6)
          (first
            | (go_at_call 64; refine HT.out.mono ?_; rintro e w5 ⟨⟨sv, rfl, hot5⟩, hb5⟩; obtain ⟨pc, capc, rfl⟩ := own_slice hot5; have q5 := KS.out w5 hb5; have htx5 := OwnT.txtAt hot5)
            | (go_at_call 63; refine (HHD.out _ _ _ htx5).mono ?_; rintro e w6 ⟨rfl, hg6⟩; have q6 := KS.out w6 (hb5.trans (hg6.below.mono hb5.size))))
        have hb6 : Below w.heap.size w w6 := (HBW.out.drew.trans (hb5.mono (by simpa using HBW.out.size))).trans (hg6.below.mono (Nat.le_trans (by simpa using HBW.out.size) hb5.size))
        have HB6 := hid hb6
        clear hb6 hg6 hb5 hot5 htx5 q5 q6 q0
        go_wp2_with fail
        go_roundg (p.length - (i + 1))
        case measure => omega
        exact ⟨i + 1, by go_num, by omega, by omega, HB6.out, HYES.out HX.out⟩
      | false =>
        have HX : Hid (holdsM (xf, xo, xt) (d.map Fx.fld) = false) := by show _ = _; rw [HXT.out, hB]
        have HHD : Hid (∀ (W5 : World) p5 c5, TxtAt W5 p5 ts → Calls Try.prog 63 #[.agg #[.string xf, .int .i64 xo, .string xt], .slice p5 ts.length c5] W5 fun e w' => e = .returned (.bool false) ∧ Grown W5 w') := fun W5 p5 c5 h => by
          have := pholds_any (xf, xo, xt) p5 c5 ts W5 h HTF.out hfx.2.1
          rwa [hB] at this
        clear hB
        go_region_held3 (fun w' => w'.cell? ⟨F, 0, none⟩ = some (.string xf) ∧ w'.cell? ⟨F, 1, none⟩ = some (.int .i64 xo) ∧ w'.cell? ⟨F, 2, none⟩ = some (.string xt))
          (first | exact q0 | exact q5 | exact q6)
          (first
            | (go_at_call 64; refine HT.out.mono ?_; rintro e w5 ⟨⟨sv, rfl, hot5⟩, hb5⟩; obtain ⟨pc, capc, rfl⟩ := own_slice hot5; have q5 := KS.out w5 hb5; have htx5 := OwnT.txtAt hot5)
            | (go_at_call 63; refine (HHD.out _ _ _ htx5).mono ?_; rintro e w6 ⟨rfl, hg6⟩; have q6 := KS.out w6 (hb5.trans (hg6.below.mono hb5.size))))
        have hb6 : Below w.heap.size w w6 := (HBW.out.drew.trans (hb5.mono (by simpa using HBW.out.size))).trans (hg6.below.mono (Nat.le_trans (by simpa using HBW.out.size) hb5.size))
        have HB6 := hid hb6
        clear hb6 hg6 hb5 hot5 htx5 q5 q6 q0
        go_wp2_with fail
        go_ret
        exact ⟨ret_bool (HNO.out HX.out).symm, HB6.out⟩
    · have hltz : ¬ (i : Int) < (p.length : Int) := by omega
      have H0 : Hid (r = true) := by
        show _ = _
        rw [← HR.out]
        unfold matchM
        rw [List.all_eq_true]
        intro x hx
        obtain ⟨j, hj, rfl⟩ := List.mem_iff_getElem.1 hx
        exact HJ.out j hj (by omega)
      go_wp2_with fail
      go_ret
      exact ⟨ret_bool H0.out.symm, hb⟩

end Go.Proofs.Ythdakljoabbghaa
