/-
  The walk of RefsStays.
-/
import Derived.Test.YtinmagodckkedaaPe
import Derived.Test.YtinmagodckkedaaPd
namespace Go.Proofs.Ytinmagodckkedaa
open Go.RowKit

theorem stays_len {d o : List Fx} {g : ByteArray → ByteArray} (ho : o.map Fx.fld = mapT g (d.map Fx.fld)) :
    o.length = d.length ∧ (txtsX o).length = (txtsX d).length ∧ ∀ i, (h : i < d.length) → (h' : i < o.length) → (o[i]).name = (d[i]).name ∧ (o[i]).txt = (d[i]).txt.map g := by
  have hl : o.length = d.length := by
    have := congrArg List.length ho
    simpa [mapT] using this
  refine ⟨hl, ?_, fun i h h' => ?_⟩
  · have : txtsX o = (txtsX d).map g := by
      rw [← txtsX_flds, ho, ← txtsX_flds]
      unfold textsF mapT
      simp [List.flatMap_map, List.map_flatMap]
    rw [this, List.length_map]
  · have := congrArg (·[i]?) ho
    simp only [mapT, List.getElem?_map, List.getElem?_eq_getElem h, List.getElem?_eq_getElem h', Option.map_some, Option.some.injEq] at this
    exact ⟨congrArg Prod.fst this, congrArg Prod.snd this⟩

theorem own_zero {n0 : Nat} {w : World} {v : Value} (h : OwnT n0 w v []) : ∃ p c, v = .slice p 0 c := by
  rcases h.2 with ⟨hv, _⟩ | ⟨g', cap', cur, hv, _⟩
  · exact ⟨_, _, hv⟩
  · exact ⟨_, _, hv⟩

set_option maxHeartbeats 8000000 in
set_option maxRecDepth 100000 in
theorem stays_any (v vb : Value) (d : List Fx) (bs : List Bd) (w : World) (hv : IsXs w v d) (hvb : KB.Is w vb bs) (hf : FitX d) (hc : CopyX d) (hT : (txtsX d).length ≤ 2000000) (hfb : FitBd bs) :
    Calls Try.prog 5 #[v, vb] w fun e w' => e = .returned (.bool true) ∧ Below w.heap.size w w' := by
  have H1 : Hid (∀ W, Below w.heap.size w W → Calls Try.prog 9 #[v, vb] W fun e w' => AnsJ W (resAns bs (d.map Fx.fld)) (rsCode bs (d.map Fx.fld)) e w') := fun W hW => resolve_any v vb d bs W (hv.kept hW) (Kind.is_kept hvb hW) hf hc hT hfb
  have HFT : Hid (∀ o : List Fx, o.map Fx.fld = resAns bs (d.map Fx.fld) → FitX o) := fun o ho => fit_res hf ho
  have HF := hid hf.2
  have HTT := hid hT
  by_cases hC0 : rsCode bs (d.map Fx.fld) = 0
  · obtain ⟨hk, _, hall, hans⟩ := res_ok (by decide) (by decide) (by decide) hC0
    rw [hC0, hans] at H1
    rw [hans] at HFT
    have HK := hid hk
    have HALL := hid hall
    have HTM : Hid (∀ o : List Fx, o.map Fx.fld = mapT (resT bs) (d.map Fx.fld) → ∀ u W, IsXs W u o → Calls Try.prog 15 #[u] W fun e w' => ∃ p c, e = .returned (.slice p 0 c) ∧ Below W.heap.size W w') := fun o ho u W hu => by
      refine (temps_any u o W hu (HFT.out o ho) (by rw [(stays_len ho).2.1]; exact HTT.out)).mono ?_
      rintro e w' ⟨x, rfl, h1, h2⟩
      rw [ho, res_tempsF HK.out HALL.out] at h1
      obtain ⟨p, c, rfl⟩ := own_zero h1
      exact ⟨p, c, rfl, h2⟩
    obtain ⟨p, cap, rfl, hd, ht⟩ := hv
    have HD := hid hd
    have HX := hid ht
    have hl := hf.1
    unfold maxLen at hl
    have hll := int_differ (d.length : Int)
    clear hvb hf hc hT hfb hC0 hk hall hans hd ht
    go_enter Try.func5, Try.ntmps5
    go_wp2_with fail
    refine (rfixed_any _).mono ?_
    rintro e w1 ⟨rfl, hq1⟩
    have HB1 := hid hq1
    clear hq1
    go_wp2_with fail
    refine (H1.out w1 HB1.out).mono ?_
    rintro e w2 ⟨u2, o2, rfl, ho2, hm2, hq2⟩
    have HB2 := hid (bel_then HB1.out HB1.out.size hq2)
    have HTC := hid (HTM.out o2 hm2 u2 w2 ho2.1.is)
    obtain ⟨p2, c2, rfl, hd2, ht2⟩ := ho2.1.is
    obtain ⟨hl2, _, hx2⟩ := stays_len hm2
    have HD2 := hid hd2
    have HX2 := hid ht2
    have HE2 := hid hx2
    have HL2 := hid hl2
    have HF2 := hid (HFT.out o2 hm2).2
    rw [hl2] at HTC ⊢
    clear ho2 hm2 hq2 hd2 ht2 hl2 hx2 H1 HTM HB1 HFT
    go_wp2_with fail
    refine HTC.out.mono ?_
    rintro e w3 ⟨p3, c3, rfl, hq3⟩
    have HB3 := hid hq3
    clear hq3 HTC
    go_wp2_with fail
    go_loopg [52] d.length (fun g vi wr => ∃ i : Nat, vi = .int .i64 i ∧ i ≤ d.length ∧ d.length - i ≤ g ∧ Hid (Below w2.heap.size w2 wr))
    case atStart => exact ⟨0, rfl, by omega, by omega, HB3.out⟩
    case round =>
      obtain ⟨i, rfl, hi, hgk, HB⟩ := hrel
      have HBW := hid (bel_then HB2.out HB2.out.size HB.out)
      by_cases hlt : i < d.length
      · have hltz : (i : Int) < (d.length : Int) := by omega
        have hiz : (0 : Int) ≤ i := by omega
        have hlt2 : i < o2.length := by rw [HL2.out]; exact hlt
        obtain ⟨b, off, rfl, hxs⟩ : ∃ b off, p = some ⟨b, off, none⟩ ∧ XsAt w b off d := by
          rcases HD.out with h | h
          · subst h; simp at hlt
          · exact h
        obtain ⟨b2, off2, rfl, hxs2⟩ : ∃ b off, p2 = some ⟨b, off, none⟩ ∧ XsAt w2 b off o2 := by
          rcases HD2.out with h | h
          · subst h; simp at hlt2
          · exact h
        obtain ⟨c0, c1⟩ := hxs.kept HBW.out i hlt
        obtain ⟨k0, k1⟩ := hxs2.kept HB.out i hlt2
        have hxi : (d[i]).at w := HX.out _ (List.getElem_mem hlt)
        have hyi : (o2[i]).at w2 := HX2.out _ (List.getElem_mem hlt2)
        have hfi := HF.out _ (List.getElem_mem hlt)
        have hgi := HF2.out _ (List.getElem_mem hlt2)
        have hmi := List.getElem_mem hlt
        obtain ⟨e1, e2⟩ := HE2.out i hlt hlt2
        obtain ⟨x, hx⟩ : ∃ x, d[i] = x := ⟨_, rfl⟩
        obtain ⟨y, hy⟩ : ∃ y, o2[i] = y := ⟨_, rfl⟩
        rw [hx] at c0 c1 hxi hfi e1 e2 hmi
        rw [hy] at k0 k1 hyi hgi e1 e2
        obtain ⟨nm, p5, c5, ts⟩ := x
        obtain ⟨nm', p6, c6, us⟩ := y
        simp only [Fx.at, Fx.sl, Fx.fld] at c0 c1 hxi hfi k0 k1 hyi hgi e1 e2
        subst e1
        have hul : us.length = ts.length := by rw [e2, List.length_map]
        rw [hul] at k1
        have HUL := hid hul
        have HUS := hid e2
        have HXI := hid hxi
        have HYI := hid hyi
        have HFI := hid hfi
        have HGI := hid hgi
        have HMI : Hid ((nm', ts) ∈ d.map Fx.fld) := List.mem_map.2 ⟨_, hmi, rfl⟩
        have hlu := int_differ (ts.length : Int)
        have hsz := hfi.2.1
        unfold maxLen at hsz
        have HXS : Hid (∀ W, Below w.heap.size w W → W.cell? ⟨b, off + i * 2, none⟩ = some (.string nm') ∧ W.cell? ⟨b, off + i * 2 + 1, none⟩ = some (.slice p5 ts.length c5)) := fun W hW => by
          have := hxs.kept hW i hlt
          rw [hx] at this
          exact this
        have HYS : Hid (∀ W, Below w2.heap.size w2 W → W.cell? ⟨b2, off2 + i * 2, none⟩ = some (.string nm') ∧ W.cell? ⟨b2, off2 + i * 2 + 1, none⟩ = some (.slice p6 ts.length c6)) := fun W hW => by
          have := hxs2.kept hW i hlt2
          rw [hy] at this
          simp only [Fx.sl] at this
          rw [hul] at this
          exact this
        clear hxs hxs2 hxi hyi hfi hgi hx hy hmi e2 hul
        go_wp2_with fail
        go_quiet (fail)
        go_wp2_with fail
        clear c0 c1 k0 k1 hlu
        go_loopg [87] ts.length (fun g vj wr2 => ∃ j : Nat, vj = .int .i64 j ∧ j ≤ ts.length ∧ ts.length - j ≤ g ∧ Hid (Below w2.heap.size w2 wr2))
        case atStart => exact ⟨0, rfl, by omega, by omega, bel_drewN HB.out _⟩
        case round =>
          clear HB HBW
          obtain ⟨j, rfl, hj, hgj, HB⟩ := hrel
          have HBW := hid (bel_then HB2.out HB2.out.size HB.out)
          by_cases hlj : j < ts.length
          · have hljz : (j : Int) < (ts.length : Int) := by omega
            have hjz : (0 : Int) ≤ j := by omega
            have hlj2 : j < us.length := by rw [HUL.out]; exact hlj
            obtain ⟨c0, c1⟩ := HXS.out wr HBW.out
            obtain ⟨k0, k1⟩ := HYS.out wr HB.out
            obtain ⟨b5, o5, rfl, ht5⟩ : ∃ b o, p5 = some ⟨b, o, none⟩ ∧ ∀ i, (h : i < ts.length) → w.cell? ⟨b, o + i, none⟩ = some (.string ts[i]) := by
              rcases HXI.out with h | h
              · rw [h] at hlj; simp at hlj
              · exact h
            obtain ⟨b6, o6, rfl, ht6⟩ : ∃ b o, p6 = some ⟨b, o, none⟩ ∧ ∀ i, (h : i < us.length) → w2.cell? ⟨b, o + i, none⟩ = some (.string us[i]) := by
              rcases HYI.out with h | h
              · rw [h] at hlj2; simp at hlj2
              · exact h
            have t0 : wr.cell? ⟨b5, o5 + j, none⟩ = some (.string ts[j]) := (HBW.out.cell (p := ⟨b5, o5 + j, none⟩) (cell_block (ht5 j hlj))).trans (ht5 j hlj)
            have t1 : wr.cell? ⟨b6, o6 + j, none⟩ = some (.string us[j]) := (HB.out.cell (p := ⟨b6, o6 + j, none⟩) (cell_block (ht6 j hlj2))).trans (ht6 j hlj2)
            have f0 := HFI.out.2.2 _ (List.getElem_mem hlj)
            have f1 := HGI.out.2.2 _ (List.getElem_mem hlj2)
            have hmj := List.getElem_mem hlj
            have hst : us[j] = resT bs ts[j] := by
              have := HUS.out
              subst this
              simp
            obtain ⟨t, hte⟩ : ∃ t, ts[j] = t := ⟨_, rfl⟩
            obtain ⟨s, hse⟩ : ∃ s, us[j] = s := ⟨_, rfl⟩
            rw [hte] at t0 f0 hst hmj
            rw [hse] at t1 f1 hst
            obtain ⟨r1, q1, hT1, hC1⟩ := rtempT_is t f0
            obtain ⟨r2, q2, hT2, hC2⟩ := rnamed_is s f1
            have HC1 := hid hC1
            have HC2 := hid hC2
            have hsz2 := HB.out.size
            clear ht5 ht6 f0 f1 hC1 hC2 hte hse
            rcases hT1 with ⟨hT1, rfl⟩ | ⟨hT1, rfl⟩
            · obtain ⟨k, hk1, hk2⟩ := res_named HK.out hT1 (HALL.out _ HMI.out t hmj _ hT1)
              rw [← hst] at hk2
              have hq2 : q2 = true := by
                have := hT2.eq
                rw [hk2] at this
                exact this
              subst hq2
              clear hT1 hT2 hk1 hk2 hst hmj
              go_wp2_with fail
              refine (HC1.out _).mono ?_
              rintro e w5 ⟨rfl, rfl⟩
              go_wp2_with fail
              refine (HC2.out _).mono ?_
              rintro e w6 ⟨rfl, hq6⟩
              have HB6 := hid (bel_then HB.out HB.out.size hq6)
              have hsz6 := HB6.out.size
              clear hq6
              go_wp2_with fail
              go_roundg (ts.length - (j + 1))
              case measure => omega
              exact ⟨j + 1, by go_num, by omega, by omega, HB6.out.alloc hsz6 _⟩
            · rw [res_stays hT1] at hst
              subst hst
              clear hT1 hT2 hmj
              go_wp2_with fail
              refine (HC1.out _).mono ?_
              rintro e w5 ⟨rfl, rfl⟩
              go_wp2_with fail
              refine (HC2.out _).mono ?_
              rintro e w6 ⟨rfl, hq6⟩
              have HB6 := hid (bel_then HB.out HB.out.size hq6)
              have hsz6 := HB6.out.size
              have n0 := (HYS.out w6 HB6.out).1
              have n1 := (HYS.out w6 HB6.out).2
              have n2 : w6.cell? ⟨b6, o6 + j, none⟩ = some (.string s) := (hq6.cell (p := ⟨b6, o6 + j, none⟩) (cell_block t1)).trans t1
              have m1 := kept_new (.cells #[.string r2.1, .string r2.2] 31) n1
              have m2 := kept_new (.cells #[.string r2.1, .string r2.2] 31) n2
              clear hq6 c0 c1 k0 k1 t0 t1 n0 n1 n2
              go_wp2_with fail
              go_roundg (ts.length - (j + 1))
              case measure => omega
              exact ⟨j + 1, by go_num, by omega, by omega, HB6.out.alloc hsz6 _⟩
          · have hljz : ¬ (j : Int) < (ts.length : Int) := by omega
            go_wp2_with fail
            go_roundg (d.length - (i + 1))
            case measure => omega
            exact ⟨i + 1, by go_num, by omega, by omega, HB.out⟩
      · have hltz : ¬ (i : Int) < (d.length : Int) := by omega
        go_wp2_with fail
        go_ret
        exact ⟨rfl, HBW.out⟩
  · obtain ⟨hans, hcode⟩ := res_bad hC0
    rw [hans] at H1
    have hcode' : rsCode bs (d.map Fx.fld) = 2 ∨ rsCode bs (d.map Fx.fld) = 16 ∨ rsCode bs (d.map Fx.fld) = 15 := hcode
    obtain ⟨C, hC⟩ : ∃ C, rsCode bs (d.map Fx.fld) = C := ⟨_, rfl⟩
    rw [hC] at H1 hcode' hC0
    have hcn : (C != 0) = true := by rw [bne_iff_ne]; exact hC0
    have HC := hid hcode'
    clear hv hvb hf hc hT hfb hC0 hans hcode hcode' hC HFT HTT HF
    go_enter Try.func5, Try.ntmps5
    go_wp2_with fail
    refine (rfixed_any _).mono ?_
    rintro e w1 ⟨rfl, hq1⟩
    have HB1 := hid hq1
    clear hq1
    go_wp2_with fail
    refine (H1.out w1 HB1.out).mono ?_
    rintro e w2 ⟨u2, o2, rfl, ho2, hm2, hq2⟩
    have HB2 := hid (bel_then HB1.out HB1.out.size hq2)
    obtain ⟨p2, c2, rfl, _, _⟩ := ho2.1.is
    have hl0 : o2.length = 0 := by
      have := congrArg List.length hm2
      simpa using this
    rw [hl0]
    clear ho2 hm2 hq2 hl0 H1 HB1
    rcases HC.out with rfl | rfl | rfl
    all_goals
      go_wp2_with fail
      go_ret
      exact ⟨rfl, HB2.out⟩

end Go.Proofs.Ytinmagodckkedaa
