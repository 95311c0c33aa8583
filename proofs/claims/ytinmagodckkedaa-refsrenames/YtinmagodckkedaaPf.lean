/-
  Texts of this claim, one behind the other: Rnz Rnw.
-/
import Derived.Test.YtinmagodckkedaaPe
import Derived.Test.YtinmagodckkedaaPd
import Derived.Deep.RegionWith
/-
  A slice of fields that came in, and what the sizes of its rows say.
-/
namespace Go.Proofs.Ytinmagodckkedaa
open Go.ChangeShapes Go.WideShapes Go.ChangeAt Go.RowKit Go.Lib Go.Deep Go.Joins

theorem Try.bytesStr : Try.prog.bytesOf 9 = 16 := by kernel_rfl
theorem Try.bytesFld : Try.prog.bytesOf 38 = 40 := by kernel_rfl

theorem weights_all {H : Type} {P : Program} {e : TypeId} {d : DataW H} {n : Nat} (hn : n ∈ d.weights P e) : ∀ {l : List (DataW H)}, d ∈ l → n ∈ DataW.weightsAll P e l
  | x :: r, h => by
    simp only [DataW.weightsAll, List.mem_append]
    rcases List.mem_cons.1 h with rfl | h
    · exact Or.inl hn
    · exact Or.inr (weights_all hn h)

/-- A slice of texts that came in, and its row's size. -/
theorem open_txtZ {H : Type} {enc : TypeId × Value → H} {W : World} {f : Nat} {v : Value} {x : DataW H × List MemPlace} (h : DataW.trod enc Try.prog W 0 (fun _ => true) true f 35 [v] = some x) :
    ∃ p cap, ∃ ts : List ByteArray, v = .slice p ts.length cap ∧ TxtAt W p ts ∧ FitT ts ∧ (ts.length = 0 ∨ ∃ n ∈ x.1.weights Try.prog 35, ts.length * 16 ≤ n) := by
  rcases open_strings Try.underlying35 Try.underlying9 Try.cellsStr h with ⟨hcs, hx⟩ | ⟨a, l, c, ss, hcs, _, hl, hm, hz, hx, hcell, hws⟩
  · simp at hcs
    exact ⟨none, 0, [], hcs, Or.inl rfl, ⟨by unfold maxLen; simp, fun t ht => by simp at ht⟩, Or.inl rfl⟩
  · simp at hcs
    have hz' : ss.length = c := by simpa using hz
    have hlen : (ss.take l).length = l := by rw [List.length_take]; omega
    refine ⟨some a, c, ss.take l, by rw [hlen]; exact hcs, ?_, ⟨by omega, fun t ht => hws t (List.mem_of_mem_take ht)⟩, Or.inr ?_⟩
    · by_cases h0 : l = 0
      · subst h0; exact Or.inl rfl
      · right
        have hc0 := hcell 0 (by omega)
        obtain ⟨b, off, spot⟩ := a
        have hspot : spot = none := by simpa [Addr.add] using World.cell?_spot hc0
        subst hspot
        refine ⟨b, off, rfl, fun i hi => ?_⟩
        rw [hlen] at hi
        have := hcell i (by omega)
        rw [addr_add] at this
        rw [this, List.getElem_take, List.getD_eq_getElem?_getD, List.getElem?_eq_getElem (by omega)]
        rfl
    · rw [hx, hlen]
      simp only [DataW.weights, Try.underlying35]
      refine ⟨_, List.mem_cons_self, ?_⟩
      rw [Try.bytesStr]
      have hb2 : (strs (ss.take l) : List (DataW H)).length = l := by rw [show (strs (ss.take l) : List (DataW H)).length = (ss.take l).length by simp [strs], hlen]
      rw [hb2]
      exact Nat.mul_le_mul_right 16 (by omega)

set_option maxRecDepth 100000 in
theorem open_fieldsZ {H : Type} {enc : TypeId × Value → H} {W : World} {b0 : Nat} {v : Value} {dd : DataW H} {p : List MemPlace}
    (hv : Value.okWide Try.prog W .any b0 22 v) (h : DataW.Trod enc Try.prog W 0 (fun _ => true) true 22 v dd p) (hZ : ∀ n ∈ dd.weights Try.prog 22, n ≤ reachBytes) : ∃ d : List Fx, IsXs W v d ∧ FitX d ∧ CopyX d := by
  have hrb := reachBytes_lt
  obtain ⟨a0, len, cap, rfl⟩ := okWide_slice Try.underlying22 hv
  obtain ⟨fuel, hf⟩ := h
  rcases open_slice_pairs Try.underlying22 Try.underlying38 Try.cellsFld rfl rfl Try.cellsStr Try.cellsStrs hf with ⟨hcs, _⟩ | ⟨a, l, c, m, n, V0, V1, D0, D1, P0, P1, hcs, _, hl, hm, hmm, hdat, hall⟩
  · simp [Value.cells] at hcs
    obtain ⟨rfl, rfl, rfl⟩ := hcs
    exact ⟨[], ⟨none, 0, rfl, Or.inl rfl, fun x hx => by simp at hx⟩, ⟨by unfold maxLen; simp, fun x hx => by simp at hx⟩, by simp, fun x hx => by simp at hx⟩
  · simp [Value.cells] at hcs
    obtain ⟨rfl, rfl, rfl⟩ := hcs
    have hm' : m = cap := by simpa using hmm
    subst hm'
    have each : ∀ i, i < m → ∃ x : Fx, V0 i = .string x.name ∧ V1 i = x.sl ∧ TxtAt W x.p x.txt ∧ FitF x.fld ∧ (x.txt.length = 0 ∨ ∃ n ∈ (D1 i).weights Try.prog 35, x.txt.length * 16 ≤ n) := by
      intro i hi
      obtain ⟨_, _, h3, h4⟩ := hall i hi
      obtain ⟨s, e0, _, hs⟩ := DataW.trod_string Try.underlying9 h3
      simp only [List.cons.injEq, and_true] at e0
      obtain ⟨q, cc, ts, e1, ht, hft, hbk⟩ := open_txtZ h4
      exact ⟨⟨s, q, cc, ts⟩, e0, e1, ht, ⟨hs, hft⟩, hbk⟩
    have hdd : dd = .slice ((List.range len).map fun i => .agg [D0 i, D1 i]) ((List.range (m - len)).map fun j => .agg [D0 (len + j), D1 (len + j)]) := congrArg Prod.fst hdat
    have hwl : len * 40 ≤ reachBytes := by
      have := hZ ((((List.range len).map fun i => DataW.agg [D0 i, D1 i]).length + ((List.range (m - len)).map fun j => DataW.agg [D0 (len + j), D1 (len + j)]).length) * Try.prog.bytesOf 38) (by
        rw [hdd]
        simp only [DataW.weights, Try.underlying22]
        exact List.mem_cons_self)
      rw [Try.bytesFld] at this
      simp only [List.length_map, List.length_range] at this
      omega
    have hwi : ∀ i, i < len → ∀ n ∈ (D1 i).weights Try.prog 35, n ≤ reachBytes := fun i hi n hn => by
      refine hZ n ?_
      rw [hdd]
      simp only [DataW.weights, Try.underlying22]
      refine List.mem_cons_of_mem _ (List.mem_append.2 (Or.inl (weights_all (d := .agg [D0 i, D1 i]) ?_ (List.mem_map.2 ⟨i, List.mem_range.2 hi, rfl⟩))))
      simp only [DataW.weights, Try.underlying38]
      exact List.mem_append.2 (Or.inr (List.mem_append.2 (Or.inl hn)))
    by_cases h0 : len = 0
    · subst h0
      exact ⟨[], ⟨_, _, rfl, Or.inl rfl, fun x hx => by simp at hx⟩, ⟨by unfold maxLen; simp, fun x hx => by simp at hx⟩, by simp, fun x hx => by simp at hx⟩
    · have hc0 := (hall 0 (by omega)).1
      obtain ⟨b, off, spot⟩ := a
      have hspot : spot = none := by simpa [Addr.add] using World.cell?_spot hc0
      subst hspot
      let f : Nat → Fx := fun i => if h : i < m then (each i h).choose else default
      have fs : ∀ i (h : i < m), V0 i = .string (f i).name ∧ V1 i = (f i).sl ∧ TxtAt W (f i).p (f i).txt ∧ FitF (f i).fld ∧ ((f i).txt.length = 0 ∨ ∃ n ∈ (D1 i).weights Try.prog 35, (f i).txt.length * 16 ≤ n) := fun i h => by
        have e : f i = (each i h).choose := dif_pos h
        rw [e]
        exact (each i h).choose_spec
      have hlen : ((List.range len).map f).length = len := by simp
      refine ⟨(List.range len).map f, ⟨_, m, by rw [hlen], Or.inr ⟨b, off, rfl, fun i hi => ?_⟩, fun x hx => ?_⟩, ⟨by rw [hlen]; omega, fun x hx => ?_⟩, by rw [hlen]; omega, fun x hx => ?_⟩
      · have hi0 : i < len := by simpa using hi
        obtain ⟨h1, h2, _, _⟩ := hall i (by omega)
        obtain ⟨g1, g2, _⟩ := fs i (by omega)
        rw [addr_add] at h1 h2
        have ef : ((List.range len).map f)[i]'hi = f i := by simp
        rw [ef, h1, ← g1]
        refine ⟨rfl, ?_⟩
        rw [Nat.add_assoc, h2, g2]
      · obtain ⟨i, hi, rfl⟩ := List.mem_map.1 hx
        exact (fs i (by have := List.mem_range.1 hi; omega)).2.2.1
      · obtain ⟨i, hi, rfl⟩ := List.mem_map.1 hx
        exact (fs i (by have := List.mem_range.1 hi; omega)).2.2.2.1
      · obtain ⟨i, hi, rfl⟩ := List.mem_map.1 hx
        have hil := List.mem_range.1 hi
        rcases (fs i (by omega)).2.2.2.2 with h | ⟨n, hn, h⟩
        · omega
        · have := hwi i hil n hn
          omega

end Go.Proofs.Ytinmagodckkedaa

/-
  The walk of RefsRenames.
-/
namespace Go.Proofs.Ytinmagodckkedaa
open Go.RowKit

theorem copy_map {d o : List Fx} {g : ByteArray → ByteArray} (h : CopyX d) (ho : o.map Fx.fld = mapT g (d.map Fx.fld)) : CopyX o := by
  have hl : o.length = d.length := by
    have := congrArg List.length ho
    simpa [mapT] using this
  refine ⟨by rw [hl]; exact h.1, fun x hx => ?_⟩
  have hm : x.fld ∈ mapT g (d.map Fx.fld) := by rw [← ho]; exact List.mem_map.2 ⟨x, hx, rfl⟩
  obtain ⟨f, hf, he⟩ := List.mem_map.1 hm
  obtain ⟨y, hy, rfl⟩ := List.mem_map.1 hf
  have : x.txt = y.txt.map g := by
    have := congrArg Prod.snd he
    exact this.symm
  rw [this, List.length_map]
  exact h.2 y hy

theorem bool_differ (b : Bool) : (b != b) = false := by cases b <;> rfl

set_option maxHeartbeats 8000000 in
set_option maxRecDepth 100000 in
theorem renames_any (v : Value) (d : List Fx) (a b : Ky) (w : World) (hv : IsXs w v d) (hf : FitX d) (hc : CopyX d) (ha1 : a.1.size ≤ maxLen) (ha2 : a.2.size ≤ maxLen) (hb1 : b.1.size ≤ maxLen) (hb2 : b.2.size ≤ maxLen) :
    Calls Try.prog 4 #[v, .agg #[.string a.1, .string a.2], .agg #[.string b.1, .string b.2]] w fun e w' => e = .returned (.bool true) ∧ Below w.heap.size w w' := by
  have H1 : Hid (∀ W, Below w.heap.size w W → Calls Try.prog 12 #[v, .agg #[.string a.1, .string a.2], .agg #[.string b.1, .string b.2]] W fun e w' => AnsJ W (renAns a b (d.map Fx.fld)) (renCode a b) e w') := fun W hW => rename_any v d a b W (hv.kept hW) hf hc ha1 ha2 hb1 hb2
  have H2 : Hid (∀ W, Below w.heap.size w W → Calls Try.prog 13 #[v, .agg #[.string a.1, .string a.2], .agg #[.string b.1, .string b.2]] W fun e w' => AnsJ W (renAns a b (d.map Fx.fld)) (renCode a b) e w') := fun W hW => rrename_any v d a b W (hv.kept hW) hf hc ha1 ha2 hb1 hb2
  have HFT : Hid (∀ o : List Fx, o.map Fx.fld = renAns a b (d.map Fx.fld) → FitX o) := fun o ho => fit_ren hf ho
  have HBX : Hid (Below w.heap.size w ((w.alloc (.cells #[.string a.1, .string a.2] 31)).alloc (.cells #[.string b.1, .string b.2] 31))) := ((Below.refl _ _).alloc (Nat.le_refl _) _).alloc (by simp) _
  have HTB : Hid (∀ W, Below ((w.alloc (.cells #[.string a.1, .string a.2] 31)).alloc (.cells #[.string b.1, .string b.2] 31)).heap.size ((w.alloc (.cells #[.string a.1, .string a.2] 31)).alloc (.cells #[.string b.1, .string b.2] 31)) W → _) := fun W hW => two_boxes hW
  have HPV : Hid (∀ W, Below w.heap.size w W → ∀ k : Ky, k.1.size ≤ maxLen → k.2.size ≤ maxLen → Calls Try.prog 14 #[v, .agg #[.string k.1, .string k.2]] W fun e w' => e = .returned (.bool (pointsB (d.map Fx.fld) k)) ∧ Below W.heap.size W w') := fun W hW k h1 h2 => points_any v d k W (hv.kept hW) hf h1 h2
  have HVK : Hid (∀ W, Below w.heap.size w W → IsXs W v d) := fun W hW => hv.kept hW
  have HFD := hid hf
  have HCP := hid hc
  obtain ⟨C, hC⟩ : ∃ C, renCode a b = C := ⟨_, rfl⟩
  obtain ⟨G, hG⟩ : ∃ G, renAns a b (d.map Fx.fld) = G := ⟨_, rfl⟩
  rw [hC, hG] at H1 H2
  rw [hG] at HFT
  have HCG : Hid (renCode a b = C ∧ renAns a b (d.map Fx.fld) = G) := ⟨hC, hG⟩
  have hcc := int_differ C
  have HA := hid (And.intro ha1 ha2)
  have HBB := hid (And.intro hb1 hb2)
  have heq0 := fun W => Z.eql_key a.1 a.2 b.1 b.2 W
  rw [Z.eqK_iff a b] at heq0
  clear hv hf hc hC hG ha1 ha2 hb1 hb2
  have HEA : Hid (∀ p : Ky → Prop, p (a.1, a.2) → p a) := fun p h => h
  obtain ⟨a1, a2⟩ := a
  obtain ⟨b1, b2⟩ := b
  simp only at H1 H2 HBX HTB HA HBB heq0 ⊢
  go_enter Try.func4, Try.ntmps4
  go_wp2_with fail
  refine (rfixed_any _).mono ?_
  rintro e w1 ⟨rfl, hq1⟩
  have HTB1 : Hid (∀ W, Below w1.heap.size w1 W → _) := fun W hW => HTB.out W (bel_then hq1 hq1.size hW)
  have HB1 := hid (bel_then HBX.out HBX.out.size hq1)
  clear hq1 HTB HBX
  obtain ⟨x0, x1, y0, y1⟩ := HTB1.out w1 (Below.refl _ _)
  go_wp2_with fail
  clear x0 x1 y0 y1
  refine (H1.out w1 HB1.out).mono ?_
  rintro e w2 ⟨u2, o2, rfl, ho2, hm2, hq2⟩
  have HB2 := hid (bel_then HB1.out HB1.out.size hq2)
  have HQ2 := hid hq2
  have HI2 := hid ho2.1.is
  have HM2 := hid hm2
  clear ho2 hm2 hq2 H1
  obtain ⟨x0, x1, y0, y1⟩ := HTB1.out w2 HQ2.out
  go_wp2_with fail
  clear x0 x1 y0 y1
  refine (H2.out w2 HB2.out).mono ?_
  rintro e w3 ⟨u3, o3, rfl, ho3, hm3, hq3⟩
  have HB3 := hid (bel_then HB2.out HB2.out.size hq3)
  have HQ3 := hid (bel_then HQ2.out HQ2.out.size hq3)
  have HI3 := hid (HI2.out.kept hq3)
  have HS := hid (sameF_any u2 u3 o2 o3 w3 HI3.out ho3.1.is (HFT.out o2 HM2.out) (HFT.out o3 hm3))
  rw [HM2.out, hm3, decide_eq_true rfl] at HS
  clear ho3 hm3 hq3 H2 HI2
  go_wp2_with fail
  refine HS.out.mono ?_
  rintro e w4 ⟨rfl, n4, rfl⟩
  have HB4 := hid (bel_drewN HB3.out n4)
  have HQ4 := hid (bel_drewN HQ3.out n4)
  have HI4 : Hid (IsXs (w3.drewN n4) u2 o2) := HI3.out.kept (bel_drewN (Below.refl _ _) n4)
  obtain ⟨W4, hW4⟩ : ∃ W4, w3.drewN n4 = W4 := ⟨_, rfl⟩
  rw [hW4] at HB4 HQ4 HI4
  obtain ⟨x0, x1, y0, y1⟩ := HTB1.out W4 HQ4.out
  by_cases hC0 : C = 0
  · subst hC0
    have HK : Hid (keyOK (a1, a2) = true ∧ keyOK (b1, b2) = true) := by
      have := HCG.out.1
      unfold renCode at this
      split at this
      · next h => exact h
      · cases this
    have HGM : Hid (G = mapT (renT (a1, a2) (b1, b2)) (d.map Fx.fld)) := by
      show _ = _
      rw [← HCG.out.2]
      unfold renAns
      rw [if_pos HK.out]
    by_cases hab : (a1, a2) = (b1, b2)
    · have hd := decide_eq_true hab
      rw [hd] at heq0
      clear hab hd
      go_wp2_with fail
      try rw [hW4]
      go_ret
      exact ⟨rfl, HB4.out⟩
    · have hd := decide_eq_false hab
      rw [hd] at heq0
      have HAB := hid hab
      have HPU : Hid (∀ W, Below W4.heap.size W4 W → ∀ k : Ky, k.1.size ≤ maxLen → k.2.size ≤ maxLen → Calls Try.prog 14 #[u2, .agg #[.string k.1, .string k.2]] W fun e w' => e = .returned (.bool (pointsB G k)) ∧ Below W.heap.size W w') := fun W hW k h1 h2 => by
        have := points_any u2 o2 k W (HI4.out.kept hW) (HFT.out o2 HM2.out) h1 h2
        rw [HM2.out] at this
        exact this
      have hP0 : pointsB G (a1, a2) = false := by
        cases h : pointsB G (a1, a2) with
        | false => rfl
        | true =>
          have := pointsB_iff.1 h
          rw [HGM.out] at this
          exact absurd this (ren_from HK.out.2 HAB.out _)
      have hPX : pointsB G (b1, b2) = (pointsB (d.map Fx.fld) (a1, a2) || pointsB (d.map Fx.fld) (b1, b2)) := by
        rw [Bool.eq_iff_iff, Bool.or_eq_true, pointsB_iff, pointsB_iff, pointsB_iff, HGM.out]
        exact ren_to HK.out.2 HAB.out _
      have HPA := hid (fun W hW => HPU.out W hW (a1, a2) HA.out.1 HA.out.2)
      have HPB := hid (fun W hW => HPU.out W hW (b1, b2) HBB.out.1 HBB.out.2)
      have HPC := hid (fun W hW => HPV.out W hW (a1, a2) HA.out.1 HA.out.2)
      have HPD := hid (fun W hW => HPV.out W hW (b1, b2) HBB.out.1 HBB.out.2)
      simp only at HPA HPB HPC HPD
      rw [hP0] at HPA
      rw [hPX] at HPB
      obtain ⟨P1, hP1⟩ : ∃ P1, pointsB (d.map Fx.fld) (a1, a2) = P1 := ⟨_, rfl⟩
      obtain ⟨P2, hP2⟩ : ∃ P2, pointsB (d.map Fx.fld) (b1, b2) = P2 := ⟨_, rfl⟩
      rw [hP1] at HPC HPB
      rw [hP2] at HPD HPB
      have HP2 := hid hP2
      have HRN : Hid (∀ W, Below W4.heap.size W4 W → Calls Try.prog 12 #[u2, .agg #[.string b1, .string b2], .agg #[.string a1, .string a2]] W fun e w' => AnsJ W (renAns (b1, b2) (a1, a2) G) 0 e w') := fun W hW => by
        have := rename_any u2 o2 (b1, b2) (a1, a2) W (HI4.out.kept hW) (HFT.out o2 HM2.out) (copy_map HCP.out (by rw [HM2.out, HGM.out])) HBB.out.1 HBB.out.2 HA.out.1 HA.out.2
        rw [HM2.out] at this
        have e : renCode (b1, b2) (a1, a2) = 0 := if_pos ⟨HK.out.2, HK.out.1⟩
        rw [e] at this
        exact this
      have HBK : Hid (P2 = false → renAns (b1, b2) (a1, a2) G = d.map Fx.fld) := fun h => by
        unfold renAns
        rw [if_pos ⟨HK.out.2, HK.out.1⟩, HGM.out]
        exact ren_back HK.out.2 (fun hp => by rw [pointsB_iff.2 hp] at HP2; rw [← HP2.out] at h; cases h)
      have HFB : Hid (∀ o : List Fx, o.map Fx.fld = renAns (b1, b2) (a1, a2) G → FitX o) := fun o ho => fit_ren (HFT.out o2 HM2.out) (by rw [HM2.out]; exact ho)
      have SB : Hid (∀ W, Below W4.heap.size W4 W → Below w.heap.size w W) := fun W hW => bel_then HB4.out HB4.out.size hW
      have SX : Hid (∀ W, Below W4.heap.size W4 W → W.cell? ⟨w.heap.size, 0, none⟩ = some (.string a1) ∧ W.cell? ⟨w.heap.size, 1, none⟩ = some (.string a2) ∧ W.cell? ⟨w.heap.size + 1, 0, none⟩ = some (.string b1) ∧ W.cell? ⟨w.heap.size + 1, 1, none⟩ = some (.string b2)) := fun W hW => HTB1.out W (bel_then HQ4.out HQ4.out.size hW)
      have SD : Hid (Below W4.heap.size W4 W4.drew) := bel_drewN (Below.refl _ _) 1
      have s4 := SX.out _ SD.out
      clear hab hd hP0 hPX hP1 hP2 HPU HPV HS HB1 HB2 HB3 HQ2 HQ3 HI3 HTB1
      go_upto_region 9 with fail
      try rw [hW4]
      clear hW4 x0 x1 y0 y1
      go_cut [61] from 45 (fun c wx => c = .bool false ∧ Hid (Below W4.heap.size W4 wx))
      case first =>
        cases P1 with
        | false =>
          cases P2
          all_goals
            try simp only [Bool.or_true, Bool.or_self] at HPB
            go_region_held3 (fun w' => w'.cell? ⟨w.heap.size, 0, none⟩ = some (.string a1) ∧ w'.cell? ⟨w.heap.size, 1, none⟩ = some (.string a2) ∧ w'.cell? ⟨w.heap.size + 1, 0, none⟩ = some (.string b1) ∧ w'.cell? ⟨w.heap.size + 1, 1, none⟩ = some (.string b2))
              (first | exact s4 | exact s5 | exact s6 | exact s7 | exact s8)
              (first
                | (go_at_call 14; with_reducible refine (HPA.out _ SD.out).mono ?_; rintro e w5 ⟨rfl, hq5⟩; have T5 := hid (bel_then SD.out SD.out.size hq5); have s5 := SX.out w5 T5.out; clear hq5)
                | (go_at_call 14; with_reducible refine (HPB.out _ T5.out).mono ?_; rintro e w6 ⟨rfl, hq6⟩; have T6 := hid (bel_then T5.out T5.out.size hq6); have s6 := SX.out w6 T6.out; clear hq6)
                | (go_at_call 14; with_reducible refine (HPC.out _ (SB.out _ T6.out)).mono ?_; rintro e w7 ⟨rfl, hq7⟩; have T7 := hid (bel_then T6.out T6.out.size hq7); have s7 := SX.out w7 T7.out; clear hq7)
                | (go_at_call 14; with_reducible refine (HPD.out _ (SB.out _ T7.out)).mono ?_; rintro e w8 ⟨rfl, hq8⟩; have T8 := hid (bel_then T7.out T7.out.size hq8); have s8 := SX.out w8 T8.out; clear hq8))
            all_goals
              go_wp2_with fail
              go_meet
              case rel => exact ⟨rfl, T8.out⟩
        | true =>
          simp only [Bool.true_or] at HPB
          obtain ⟨x0, x1, y0, y1⟩ := s4
          first
          | (go_region_with (first
              | (go_at_call 14; with_reducible refine (HPA.out _ SD.out).mono ?_; rintro e w5 ⟨rfl, hq5⟩; have T5 := hid (bel_then SD.out SD.out.size hq5); obtain ⟨x50, x51, y50, y51⟩ := SX.out w5 T5.out; clear hq5)
              | (go_at_call 14; with_reducible refine (HPB.out _ T5.out).mono ?_; rintro e w6 ⟨rfl, hq6⟩; have T6 := hid (bel_then T5.out T5.out.size hq6); obtain ⟨x60, x61, y60, y61⟩ := SX.out w6 T6.out; clear hq6)
              | (go_at_call 14; with_reducible refine (HPC.out _ (SB.out _ T6.out)).mono ?_; rintro e w7 ⟨rfl, hq7⟩; have T7 := hid (bel_then T6.out T6.out.size hq7); obtain ⟨x70, x71, y70, y71⟩ := SX.out w7 T7.out; clear hq7)))
          | fail
          all_goals
            go_wp2_with fail
            go_meet
            case rel => exact ⟨rfl, T7.out⟩
      case rest =>
        obtain ⟨rfl, TC⟩ := hcut
        clear s4 HPA HPB HPC SD
        obtain ⟨x0, x1, y0, y1⟩ := SX.out wc TC.out
        go_wp2_with fail
        clear x0 x1 y0 y1
        refine (HRN.out wc TC.out).mono ?_
        rintro e w9 ⟨u9, o9, rfl, ho9, hm9, hq9⟩
        have T9 := hid (bel_then TC.out TC.out.size hq9)
        have HI9 := hid ho9.1.is
        have HM9 := hid hm9
        clear ho9 hm9 hq9
        obtain ⟨x0, x1, y0, y1⟩ := SX.out w9 T9.out
        go_wp2_with fail
        clear x0 x1 y0 y1
        refine (HPD.out w9 (SB.out w9 T9.out)).mono ?_
        rintro e w10 ⟨rfl, hq10⟩
        have T10 := hid (bel_then T9.out T9.out.size hq10)
        have HI10 := hid (HI9.out.kept hq10)
        clear hq10 HI9
        cases P2 with
        | true =>
          go_wp2_with fail
          go_ret
          exact ⟨rfl, SB.out _ T10.out⟩
        | false =>
          have HS := hid (sameF_any u9 v o9 d w10 HI10.out (HVK.out w10 (SB.out _ T10.out)) (HFB.out o9 HM9.out) HFD.out)
          rw [HM9.out, HBK.out rfl, decide_eq_true rfl] at HS
          go_wp2_with fail
          refine HS.out.mono ?_
          rintro e w11 ⟨rfl, n11, rfl⟩
          go_wp2_with fail
          go_ret
          exact ⟨rfl, SB.out _ (bel_drewN T10.out n11)⟩
  · have hcn : (C != 0) = true := by rw [bne_iff_ne]; exact hC0
    clear hC0
    go_wp2_with fail
    try rw [hW4]
    go_ret
    exact ⟨rfl, HB4.out⟩

end Go.Proofs.Ytinmagodckkedaa
