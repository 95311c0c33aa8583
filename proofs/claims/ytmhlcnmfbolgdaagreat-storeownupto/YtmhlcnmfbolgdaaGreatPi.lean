/-
  Texts of this claim, one behind the other: Vpq Vf2.
-/
import Derived.Test.YtmhlcnmfbolgdaaGreatPh
import Derived.Test.YtmhlcnmfbolgdaaGreatRows
import Derived.JoinedOf
import Derived.JoinedCond
namespace Go.Proofs.YtmhlcnmfbolgdaaGreat
open Go.RowKit
set_option linter.unusedSimpArgs false in
set_option maxHeartbeats 1500000 in
set_option maxRecDepth 100000 in
theorem own15_any (w : World) (pk : Option Addr) (ck : Nat) (ks : List Ky) (hk : KK.Is w (.slice pk ks.length ck) ks) (hkf : ∀ k ∈ ks, FitKy12 k) (hlen : ks.length ≤ 190000000000) (pv : Option Addr) (cv : Nat) (o : List Fx) (hv : IsXs w (.slice pv o.length cv) o) (hf : FitX o) :
    Calls Tryz.prog 7 #[.slice pk ks.length ck, .slice pv o.length cv] w fun e w' => e = .returned (.bool true) ∧ Below w.heap.size w w' := by
  have HF := hid (fixed15_any w)
  have HIN : Hid (∀ W', Below w.heap.size w W' → KK.Is W' (.slice pk ks.length ck) ks ∧ IsXs W' (.slice pv o.length cv) o) := fun W' hW => ⟨Kind.is_kept hk hW, hv.kept hW⟩
  have HKF := hid hkf
  have HFX := hid hf
  clear hk hkf hv hf
  go_enter Tryz.func7, Tryz.ntmps7
  go_wp2_with fail
  refine HF.out.mono ?_
  rintro e w1 ⟨rfl, hb1⟩
  have HB1 := hid hb1
  have HN := hid (w15_new w1 4096 64 1 0 (by decide) (by decide) rfl)
  clear hb1 HF
  go_wp2_with fail
  refine HN.out.mono ?_
  rintro e w2 ⟨h, rfl, hx2⟩
  have HBG := hid (w15_begin hx2 (by decide))
  clear hx2 HN
  go_wp2_with fail
  refine HBG.out.mono ?_
  rintro e w3 ⟨gx, rfl, hx3⟩
  have HBG2 := hid (w15_begin hx3 (by decide))
  clear hx3 HBG
  go_wp2_with fail
  refine HBG2.out.mono ?_
  rintro e w4 ⟨gy, rfl, hx4⟩
  have HX4 : Hid (Sto w1 [] 2 h [gx, gy] (own15 ([], []) ([], []) []) w4) := hx4
  have HIS : Hid (∀ {Z nr S W'}, Sto w1 Z nr h [gx, gy] S W' → KK.Is W' (.slice pk ks.length ck) ks ∧ IsXs W' (.slice pv o.length cv) o) := fun {Z nr S W'} x => HIN.out W' (bel_then HB1.out HB1.out.size x.bel)
  clear hx4 HBG2 HIN
  go_wp2_with fail
  go_loopg [32] ks.length (fun gg vi wr => ∃ (i : Nat) (m n : Mk), vi = .int .i64 i ∧ i ≤ ks.length ∧ ks.length - i ≤ gg ∧ Hid (Sto w1 [] (5 * i + 2) h [gx, gy] (own15 m n []) wr))
  case atStart => exact ⟨0, ([], []), ([], []), rfl, by omega, by omega, HX4.out⟩
  case round =>
    clear HX4
    obtain ⟨i, m, n, rfl, hi, hgk, HI⟩ := hrel
    by_cases hlt : i < ks.length
    · have hltz : (i : Int) < (ks.length : Int) := by omega
      have hiz : (0 : Int) ≤ i := by omega
      obtain ⟨b7, o7, rfl, k7⟩ : ∃ b off, pk = some ⟨b, off, none⟩ ∧ KK.At wr b off ks := by
        obtain ⟨p', c', he, h⟩ := (HIS.out HI.out).1
        injection he with e1 _ _
        subst e1
        rcases h with h | h
        · rw [h] at hlt; simp at hlt
        · exact h
      have y0 : wr.cell? ⟨b7, o7 + i * 2, none⟩ = some (.string (ks[i]).1) := k7 i hlt 0 _ rfl
      have y1 : wr.cell? ⟨b7, o7 + i * 2 + 1, none⟩ = some (.string (ks[i]).2) := k7 i hlt 1 _ rfl
      have hkk := HKF.out _ (List.getElem_mem hlt)
      generalize ks[i] = k at *
      obtain ⟨T, hT⟩ : ∃ T, wr.alloc (.cells #[.string k.1, .string k.2] 39) = T := ⟨_, rfl⟩
      obtain ⟨Q, hQ⟩ : ∃ Q, wr.heap.size = Q := ⟨_, rfl⟩
      obtain ⟨hbT, hTo, _⟩ := one_box wr #[.string k.1, .string k.2] 39
      rw [hT] at hbT hTo
      rw [hQ] at hTo
      obtain ⟨KB, hKB⟩ : ∃ KB : Obj, .cells #[.string k.1, .string k.2] 39 (0, 0) = KB := ⟨_, rfl⟩
      rw [hKB] at hTo
      have HOB := hid hKB
      clear hKB
      have hG := HI.out.pin hbT (by omega) hTo
      have HKC : Hid (∀ {w' : World} {Z nr gs S}, Sto w1 Z nr h gs S w' → (Q, KB) ∈ Z → w'.cell? ⟨Q, 0, none⟩ = some (.string k.1) ∧ w'.cell? ⟨Q, 1, none⟩ = some (.string k.2)) := fun {w' Z nr gs S} x hm => by
        have hk := x.got hm
        rw [← HOB.out] at hk
        exact ⟨by rw [Lib.cell_of_heap hk]; rfl, by rw [Lib.cell_of_heap hk]; rfl⟩
      obtain ⟨q0, q1⟩ := HKC.out hG (List.mem_singleton.2 rfl)
      have HPU := hid (w15_put hG (by omega) (i := 0) (g := gx) rfl (o15_t0 m n []) k hkk (.slice pv o.length cv) o (o.map Fx.fld) (HIS.out hG).2 HFX.out rfl)
      have HKK := hid hkk
      clear hbT hTo hG k7 hkk HI
      by_cases hcd : codePW k (o.map Fx.fld) = 0
      · have hkb := o15_key hcd
        rw [o15_put m hcd] at HPU
        have HCD := hid hcd
        have HKB := hid hkb
        clear hcd hkb
        obtain ⟨ka, kb⟩ := k
        simp only at *
        go_upto_region 8 with fail
        try rw [hT]
        try rw [hQ]
        go_wp2_with fail
        refine HPU.out.mono ?_
        rintro e w5 ⟨rfl, hx5⟩
        have hx5' : Sto w1 [(Q, KB)] (5 * i + 3) h [gx, gy] (own15 m n [((ka, kb), some (o.map Fx.fld))]) w5 := hx5
        have HR1 := hid (w15_read hx5' (by omega) (i := 0) (g := gx) rfl (o15_t0 m n _) (ka, kb) HKK.out)
        rw [show (own15 m n [((ka, kb), some (o.map Fx.fld))]).D = [] from rfl, o15_read m HKB.out] at HR1
        clear q0 q1
        obtain ⟨q0, q1⟩ := HKC.out hx5' (List.mem_singleton.2 rfl)
        clear hx5 hx5' HPU y0 y1 hT
        go_wp2_with fail
        refine HR1.out.mono ?_
        rintro e w6 ⟨va, rfl, hva, hx6⟩
        obtain ⟨R, hR⟩ : ∃ R, w6.heap.size = R := ⟨_, rfl⟩
        obtain ⟨X, hX⟩ : ∃ X, w6.alloc (.cells (encVx va).toArray 46) = X := ⟨_, rfl⟩
        obtain ⟨VB, hVB⟩ : ∃ VB : Obj, .cells (encVx va).toArray 46 (0, 0) = VB := ⟨_, rfl⟩
        have hx6b : Sto w1 [(R, VB), (Q, KB)] (5 * i + 4) h [gx, gy] (own15 (keyM m (ka, kb)) n [((ka, kb), some (o.map Fx.fld))]) X := Sto.pin (w := w6) hx6 (by rw [← hX]; exact (Below.refl _ _).alloc (Nat.le_refl _) _) (by omega) (by rw [← hX, ← hR, ← hVB]; exact heap_alloc_new w6 _)
        have n1 : va.num = 1 := congrArg Vr.num hva
        have n2 : va.stamp = 0 := congrArg Vr.stamp hva
        have n3 : va.live = true := congrArg Vr.live hva
        have n4 : va.o.length = o.length := by
          have q := congrArg List.length (congrArg Vr.val hva)
          have q' : (va.o.map Fx.fld).length = (o.map Fx.fld).length := q
          simpa using q'
        have HVC : Hid (∀ {w' : World} {Z nr gs S}, Sto w1 Z nr h gs S w' → (R, VB) ∈ Z → w'.cell? ⟨R, 0, none⟩ = some (.int .i64 1) ∧ w'.cell? ⟨R, 1, none⟩ = some (.int .u64 0) ∧ w'.cell? ⟨R, 3, none⟩ = some (.bool true) ∧ w'.cell? ⟨R, 4, none⟩ = some (.slice va.p o.length va.cap)) := fun {w' Z nr gs S} x hm => by
          have hk := x.got hm
          rw [← hVB] at hk
          rw [Lib.cell_of_heap hk, Lib.cell_of_heap hk, Lib.cell_of_heap hk, Lib.cell_of_heap hk, ← n1, ← n2, ← n3, ← n4]
          exact ⟨rfl, rfl, rfl, rfl⟩
        have HR2 := hid (w15_read hx6b (by omega) (i := 1) (g := gy) rfl (o15_t1 _ n _) (ka, kb) HKK.out)
        rw [show (own15 (keyM m (ka, kb)) n [((ka, kb), some (o.map Fx.fld))]).D = [] from rfl, o15_none n HKB.out] at HR2
        clear q0 q1
        obtain ⟨q0, q1⟩ := HKC.out hx6b (List.mem_cons_of_mem _ (List.mem_singleton.2 rfl))
        unfold encVx Vx.sl at hX
        unfold encVx Vx.sl
        clear hx6 hx6b HR1 hva hVB n1 n2 n3 n4
        go_upto_region 10 with fail
        try rw [hX]
        try rw [hR]
        go_wp2_with fail
        refine HR2.out.mono ?_
        rintro e w7 ⟨vb, rfl, _, hx7⟩
        obtain ⟨Y, hY⟩ : ∃ Y, w7.alloc (.cells (encVx vb).toArray 46) = Y := ⟨_, rfl⟩
        have hx7b : Sto w1 [(R, VB), (Q, KB)] (5 * i + 5) h [gx, gy] (own15 (keyM m (ka, kb)) (keyM n (ka, kb)) [((ka, kb), some (o.map Fx.fld))]) Y := Sto.on (w := w7) hx7 (by rw [← hY]; exact (Below.refl _ _).alloc (Nat.le_refl _) _)
        have HDE := hid (w15_delete hx7b (by omega) (i := 0) (g := gx) rfl (o15_t0 _ _ _) (ka, kb) HKK.out)
        rw [show (own15 (keyM m (ka, kb)) (keyM n (ka, kb)) [((ka, kb), some (o.map Fx.fld))]).D = [] from rfl, o15_del _ HKB.out] at HDE
        clear q0 q1
        obtain ⟨q0, q1⟩ := HKC.out hx7b (List.mem_cons_of_mem _ (List.mem_singleton.2 rfl))
        obtain ⟨c0, c1, c3, c4⟩ := HVC.out hx7b (List.mem_cons_self ..)
        unfold encVx Vx.sl at hY
        unfold encVx Vx.sl
        clear hx7 hx7b HR2
        go_upto_region 11 with fail
        try rw [hY]
        go_wp2_with fail
        refine HDE.out.mono ?_
        rintro e w8 ⟨rfl, hx8⟩
        have hx8' : Sto w1 [(R, VB), (Q, KB)] (5 * i + 6) h [gx, gy] (own15 (keyM (keyM m (ka, kb)) (ka, kb)) (keyM n (ka, kb)) []) w8 := hx8
        have HR3 := hid (w15_read hx8' (by omega) (i := 0) (g := gx) rfl (o15_t0 _ _ _) (ka, kb) HKK.out)
        rw [show (own15 (keyM (keyM m (ka, kb)) (ka, kb)) (keyM n (ka, kb)) []).D = [] from rfl, o15_none _ HKB.out] at HR3
        clear q0 q1 c0 c1 c3 c4
        obtain ⟨q0, q1⟩ := HKC.out hx8' (List.mem_cons_of_mem _ (List.mem_singleton.2 rfl))
        clear hx8 hx8' HDE hY
        go_wp2_with fail
        refine HR3.out.mono ?_
        rintro e w9 ⟨vc, rfl, _, hx9⟩
        obtain ⟨U, hU⟩ : ∃ U, w9.alloc (.cells (encVx vc).toArray 46) = U := ⟨_, rfl⟩
        have HX9 : Hid (Sto w1 [] (5 * (i + 1) + 2) h [gx, gy] (own15 (keyM (keyM (keyM m (ka, kb)) (ka, kb)) (ka, kb)) (keyM n (ka, kb)) []) U) := Sto.sub (Z := [(R, VB), (Q, KB)]) (Sto.on (w := w9) hx9 (by rw [← hU]; exact (Below.refl _ _).alloc (Nat.le_refl _) _)) (fun p hp => by cases hp)
        unfold encVx Vx.sl at hU
        unfold encVx Vx.sl
        clear hx9 HR3 q0 q1
        go_upto_region 16 with fail
        try rw [hU]
        go_wp2_with fail
        go_roundg (ks.length - (i + 1))
        case measure => omega
        exact ⟨i + 1, _, _, by go_num, by omega, by omega, HX9.out⟩
      · have hcz : (codePW k (o.map Fx.fld) == 0) = false := by simpa using hcd
        rw [o15_not m hcd] at HPU
        obtain ⟨cd, hcdE⟩ : ∃ cd, codePW k (o.map Fx.fld) = cd := ⟨_, rfl⟩
        rw [hcdE] at HPU hcz
        clear hcd hcdE
        obtain ⟨ka, kb⟩ := k
        simp only at *
        go_upto_region 8 with fail
        try rw [hT]
        try rw [hQ]
        go_wp2_with fail
        refine HPU.out.mono ?_
        rintro e w5 ⟨rfl, hx5⟩
        have HX5 : Hid (Sto w1 [] (5 * (i + 1) + 2) h [gx, gy] (own15 m n []) w5) := Sto.mono (nr := 5 * i + 3) (Sto.sub (Z := [(Q, KB)]) hx5 (fun p hp => by cases hp)) (by omega)
        clear hx5 HPU y0 y1 hT q0 q1
        go_wp2_with fail
        go_roundg (ks.length - (i + 1))
        case measure => omega
        exact ⟨i + 1, _, _, by go_num, by omega, by omega, HX5.out⟩
    · have hltz : ¬ (i : Int) < (ks.length : Int) := by omega
      obtain ⟨e1, e2, e3⟩ := o15_com m n
      have HCM := hid (w15_commit HI.out (by omega) (i := 0) (g := gx) rfl (o15_t0 m n []))
      rw [e1] at HCM
      have HE2 := hid e2
      have HE3 := hid e3
      clear e1 e2 e3 HI
      go_wp2_with fail
      refine HCM.out.mono ?_
      rintro e w5 ⟨rfl, hx5⟩
      have HCO := hid (w15_count hx5 (by omega))
      rw [HE2.out] at HCO
      rw [show countD [] = 0 from rfl] at HCO
      clear hx5 HCM
      go_wp2_with fail
      refine HCO.out.mono ?_
      rintro e w6 ⟨rfl, hx6⟩
      have HCH := hid (w15_changes hx6 (by omega) (i := 0) (g := gx) rfl HE3.out)
      clear hx6 HCO
      go_wp2_with fail
      refine HCH.out.mono ?_
      rintro e w7 ⟨p, c, cs, rfl, hcs, hx7⟩
      have HBE := hid (bel_then HB1.out HB1.out.size hx7.bel)
      have hcn : cs = [] := List.map_eq_nil_iff.1 (hcs.trans rfl)
      subst hcn
      simp only [List.length_nil]
      clear HCH hcs hx7
      go_wp2_with fail
      go_ret
      exact ⟨rfl, HBE.out⟩
end Go.Proofs.YtmhlcnmfbolgdaaGreat

namespace Go.Proofs.YtmhlcnmfbolgdaaGreat
theorem and_storeOwn {a b : Bool} (ha : a = true) (hb : b = true) : (a && b) = true := by rw [ha, hb]; rfl
theorem fact_storeOwn_0 : (Rows.storeOwnUptoRow.wf (OpenSpec.ofChange (Rows.OpenSpec.upto Rows.storeOwnSpec).bare)) = true := by kernel_rfl
theorem fact_storeOwn_1 : (laidOutB Tryz.pinned.checked.prog) = true := by kernel_rfl
theorem fact_storeOwn_2 : (mapsRowed Tryz.pinned.checked.prog) = true := by kernel_rfl
theorem fact_storeOwn_3 : (Tryz.f7.params.all (Tryz.pinned.checked.prog.readableRec ·)) = true := by kernel_rfl
theorem fact_storeOwn_4 : (namedTie Tryz.pinned.checked.prog Rows.storeOwnUptoRow.named (Rows.OpenSpec.upto Rows.storeOwnSpec).bare.vars) = true := by kernel_rfl
theorem fact_storeOwn_5 : ((Rows.storeOwnUptoRow.stops == [])) = true := by kernel_rfl
theorem fact_storeOwn_6 : ((Tryz.pinned.checked.prog.stops == [])) = true := by kernel_rfl
theorem fact_storeOwn_7 : ((Rows.storeOwnUptoRow.knobs == [])) = true := by kernel_rfl
theorem fact_storeOwn_8 : ((Tryz.pinned.checked.prog.stopKnobs == [])) = true := by kernel_rfl
theorem fact_storeOwn_9 : ((Rows.storeOwnUptoRow.inPlace == Tryz.pinned.checked.prog.inPlace 7)) = true := by kernel_rfl
theorem fact_storeOwn_10 : ((Rows.storeOwnUptoRow.unfollowed == Tryz.pinned.checked.prog.unfollowed 7)) = true := by kernel_rfl
theorem fact_storeOwn_11 : ((Rows.storeOwnUptoRow.recurses == Tryz.pinned.checked.prog.recurses 7)) = true := by kernel_rfl
theorem fact_storeOwn_12 : ((Rows.storeOwnUptoRow.named == Tryz.pinned.checked.prog.varsNamed 7)) = true := by kernel_rfl
theorem fact_storeOwn_13 : ((Rows.storeOwnUptoRow.maps == (Tryz.f7.params.toList ++ (Rows.OpenSpec.upto Rows.storeOwnSpec).bare.plain.varTypes Tryz.pinned.checked.prog).any (Tryz.pinned.checked.prog.mapsRec ·))) = true := by kernel_rfl
theorem fact_storeOwn_14 : ((Rows.storeOwnUptoRow.ifaces == (Tryz.f7.params.toList ++ (Rows.OpenSpec.upto Rows.storeOwnSpec).bare.plain.varTypes Tryz.pinned.checked.prog).any (Tryz.pinned.checked.prog.ifacesRec ·))) = true := by kernel_rfl
theorem fact_storeOwn_15 : ((Rows.storeOwnUptoRow.mapsOut == Tryz.pinned.checked.prog.mapsAmong Tryz.f7.resultTypes.toList)) = true := by kernel_rfl
theorem fact_storeOwn_16 : ((Rows.storeOwnUptoRow.loops == (Tryz.f7.params.toList ++ (Rows.OpenSpec.upto Rows.storeOwnSpec).bare.plain.varTypes Tryz.pinned.checked.prog).any (Tryz.pinned.checked.prog.loopsFrom ·))) = true := by kernel_rfl
theorem fact_storeOwn_17 : ((Rows.storeOwnUptoRow.wideKeys == (Tryz.f7.params.toList ++ (Rows.OpenSpec.upto Rows.storeOwnSpec).bare.plain.varTypes Tryz.pinned.checked.prog ++ Tryz.f7.resultTypes.toList).any (Tryz.pinned.checked.prog.wideKeysFrom ·))) = true := by kernel_rfl
theorem fact_storeOwn_18 : ((Rows.OpenSpec.upto Rows.storeOwnSpec).bare.vars.all (Tryz.pinned.checked.prog.varReadable ·)) = true := by kernel_rfl
theorem fact_storeOwn_19 : (Tryz.f7.resultTypes.all (fun t => Tryz.pinned.checked.prog.readableRec t && decide (t < Tryz.pinned.checked.prog.types.size))) = true := by kernel_rfl
theorem fact_storeOwn_20 : ((Rows.storeOwnUptoRow.ifacesOut == Tryz.f7.resultTypes.toList.any (Tryz.pinned.checked.prog.ifacesRec ·))) = true := by kernel_rfl
theorem fact_storeOwn_21 : ((Rows.storeOwnUptoRow.loopsOut == Tryz.f7.resultTypes.toList.any (Tryz.pinned.checked.prog.loopsFrom ·))) = true := by kernel_rfl
theorem fact_storeOwn_22 : ((Rows.storeOwnUptoRow.plainKeys == Tryz.pinned.checked.prog.plainKeys)) = true := by kernel_rfl
theorem fact_storeOwn_23 : (Rows.storeOwnUptoRow.shortTexts.isNone) = true := by kernel_rfl
theorem fact_storeOwn_24 : (Tryz.pinned.checked.prog.stopsHeard) = true := by kernel_rfl
theorem fact_storeOwn_25 : (Tryz.pinned.checked.prog.mayEnter) = true := by kernel_rfl
theorem fact_storeOwn_26 : ((Rows.storeOwnUptoRow.lifted == Tryz.pinned.checked.prog.liftsFinal)) = true := by kernel_rfl
theorem fact_storeOwn_27 : ((Tryz.pinned.checked.prog.make == some Rows.storeOwnUptoRow.make)) = true := by kernel_rfl
theorem fact_storeOwn_28 : ((Rows.storeOwnUptoRow.kinds == (if Rows.storeOwnUptoRow.domain.isEmpty then [] else Tryz.f7.params.toList.map fun t => match Tryz.pinned.checked.prog.underlying t with | some (.int k) => some k | _ => none))) = true := by kernel_rfl
theorem fact_storeOwn_29 : ((Rows.storeOwnUptoRow.pinned == Rows.storeOwnUptoRow.pinnedBy)) = true := by kernel_rfl
theorem fact_storeOwn_30 : ((Rows.storeOwnUptoRow.veiled == (Tryz.f7.params.toList ++ (Rows.OpenSpec.upto Rows.storeOwnSpec).bare.plain.varTypes Tryz.pinned.checked.prog ++ Tryz.f7.resultTypes.toList).any (Tryz.pinned.checked.prog.veiledRec ·))) = true := by kernel_rfl
theorem fact_storeOwn_31 : (Rows.storeOwnUptoRow.veiledFits Tryz.pinned.checked.prog Tryz.f7.params.toList (Tryz.f7.params.toList ++ (Rows.OpenSpec.upto Rows.storeOwnSpec).bare.plain.varTypes Tryz.pinned.checked.prog ++ Tryz.f7.resultTypes.toList)) = true := by kernel_rfl
end Go.Proofs.YtmhlcnmfbolgdaaGreat
