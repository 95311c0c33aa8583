/-
  Texts of this claim, one behind the other: Rok Rkz Rrv Rfx Rtl.
-/
import Derived.Test.YtinmagodckkedaaGreatPd
import Derived.Test.YtinmagodckkedaaGreatPb
import Derived.Test.YtinmagodckkedaaGreatPc
/-
  A slice of keys that came in.
-/
namespace Go.Proofs.YtinmagodckkedaaGreat
open Go.ChangeShapes Go.WideShapes Go.ChangeAt Go.RowKit Go.Lib Go.Deep Go.Joins

set_option maxRecDepth 100000 in
theorem open_keys {H : Type} {enc : TypeId × Value → H} {W : World} {b0 : Nat} {v : Value} {dd : DataW H} {p : List MemPlace}
    (hv : Value.okWide Tryz.prog W .any b0 23 v) (h : DataW.Trod enc Tryz.prog W 0 (fun _ => true) true 23 v dd p) :
    ∃ q : List Ky, KK.Is W v q ∧ (∀ b ∈ q, b.1.size ≤ maxLen ∧ b.2.size ≤ maxLen) ∧ q.length ≤ Rows.uptoBulk dd ∧ ∃ p0 c0, v = .slice p0 q.length c0 ∧ q.length ≤ c0 := by
  obtain ⟨a0, len, cap, rfl⟩ := okWide_slice Tryz.underlying23 hv
  obtain ⟨fuel, hf⟩ := h
  rcases open_slice Tryz.underlying23 hf with ⟨hcs, _⟩ | ⟨a, l, c, m, n, D, Pl, hcs, _, hl, hm, hmm, hdat, hall⟩
  · simp [Value.cells] at hcs
    obtain ⟨rfl, rfl, rfl⟩ := hcs
    exact ⟨[], KK.is_nil W, fun x hx => by simp at hx, Nat.zero_le _, none, 0, rfl, Nat.le_refl _⟩
  · simp [Value.cells] at hcs
    obtain ⟨rfl, rfl, rfl⟩ := hcs
    have hm' : m = cap := by simpa using hmm
    subst hm'
    rw [Tryz.cellsKy] at hall
    have hdd : dd = .slice ((List.range len).map D) ((List.range (m - len)).map fun j => D (len + j)) := congrArg Prod.fst hdat
    have hbk : len ≤ Rows.uptoBulk dd := by
      rw [hdd]
      simp only [Rows.uptoBulk]
      have := bulk_len ((List.range len).map D)
      simp only [List.length_map, List.length_range] at this
      omega
    have each : ∀ i, i < m → ∃ t : Ky, (∀ j u, (encKy t)[j]? = some u → W.cell? (a.add (i * 2 + j)) = some u) ∧ t.1.size ≤ maxLen ∧ t.2.size ≤ maxLen := by
      intro i hi
      obtain ⟨cs', h1, h2⟩ := hall i hi
      obtain ⟨_, hlen, hcell⟩ := World.cells?_some h1
      obtain ⟨t, rfl, ht⟩ := open_ky h2
      refine ⟨t, fun j u hu => ?_, ht⟩
      have hj : j < 2 := by
        have := (List.getElem?_eq_some_iff.1 hu).1
        exact this
      have := hcell j hj
      rw [add_add] at this
      rw [this]; exact hu
    by_cases h0 : len = 0
    · subst h0
      exact ⟨[], ⟨_, _, rfl, Or.inl rfl⟩, fun x hx => by simp at hx, Nat.zero_le _, _, _, rfl, Nat.zero_le _⟩
    · obtain ⟨f, hff⟩ := choose_lt each
      have hc0 := (hff 0 (by omega)).1 0 _ rfl
      obtain ⟨b, off, spot⟩ := a
      have hspot : spot = none := by simpa [Addr.add] using World.cell?_spot hc0
      subst hspot
      have hlen : ((List.range len).map f).length = len := by simp
      refine ⟨(List.range len).map f, ⟨_, m, by rw [hlen], Or.inr ⟨b, off, rfl, fun i hi j u hu => ?_⟩⟩, fun x hx => ?_, by rw [hlen]; exact hbk, _, m, by rw [hlen], by rw [hlen]; omega⟩
      · have hi0 : i < len := by simpa using hi
        have ef : ((List.range len).map f)[i]'hi = f i := by simp
        rw [ef] at hu
        have := (hff i (by omega)).1 j u hu
        rw [addr_add] at this
        rw [Nat.add_assoc]
        exact this
      · obtain ⟨i, hi, rfl⟩ := List.mem_map.1 hx
        exact (hff i (by have := List.mem_range.1 hi; omega)).2

end Go.Proofs.YtinmagodckkedaaGreat

/-
  The contract of Keys of package refs.
-/
namespace Go.Proofs.YtinmagodckkedaaGreat
open Go.RowKit

theorem Tryz.infoKy : (Tryz.prog.info? 31).map (fun i => (i.zero, i.size, i.bytes)) = some (some (.agg #[.string ⟨#[]⟩, .string ⟨#[]⟩]), 2, 32) := by kernel_rfl

set_option maxHeartbeats 4000000 in
set_option maxRecDepth 100000 in
theorem keys_any (v : Value) (d : List Fx) (w : World) (hv : IsXs w v d) (hf : FitX d) (hT : (txtsX d).length ≤ 2000000) :
    Calls Tryz.prog 7 #[v] w fun e w' => ∃ u, e = .returned u ∧ KK.Own w.heap.size w' u (keysF (d.map Fx.fld)) ∧ Below w.heap.size w w' := by
  obtain ⟨i0, hi0, hz0, hz1, hz2⟩ := info_parts Tryz.infoKy
  have HI := hid hi0
  obtain ⟨p, cap, rfl, hd, ht⟩ := hv
  have HD := hid hd
  have HX := hid ht
  have HF := hid hf.2
  have hl := hf.1
  unfold maxLen at hl
  have HTOT := hid hT
  have HEND := hid (keys_sort (d.map Fx.fld))
  rw [txtsX_flds] at HEND
  clear hd ht hf hi0 hT
  go_enter Tryz.func7, Tryz.ntmps7
  go_wp2_with fail
  go_loopg [3, 12] d.length (fun g vs vi wr => ∃ i : Nat, vi = .int .i64 i ∧ i ≤ d.length ∧ d.length - i ≤ g ∧ Hid (Below w.heap.size w wr) ∧ Hid (KK.Own w.heap.size wr vs ((txtsX (d.take i)).filterMap namedT)))
  case atStart => exact ⟨0, rfl, by omega, by omega, Below.refl _ _, KK.own_nil _ _⟩
  case round =>
    obtain ⟨i, rfl, hi, hgk, HB, HO⟩ := hrel
    by_cases hlt : i < d.length
    · have hltz : (i : Int) < (d.length : Int) := by omega
      have hiz : (0 : Int) ≤ i := by omega
      obtain ⟨b, off, rfl, hxs⟩ : ∃ b off, p = some ⟨b, off, none⟩ ∧ XsAt w b off d := by
        rcases HD.out with h | h
        · subst h; simp at hlt
        · exact h
      obtain ⟨c0, c1⟩ := hxs.kept HB.out i hlt
      have hxi : (d[i]).at w := HX.out _ (List.getElem_mem hlt)
      have hfi := HF.out _ (List.getElem_mem hlt)
      have hsu := txtsX_succ d i hlt
      have hpa := txtsX_part d (i + 1)
      have htot := HTOT.out
      obtain ⟨x, hx⟩ : ∃ x, d[i] = x := ⟨_, rfl⟩
      rw [hx] at c0 c1 hxi hfi hsu
      rw [hsu, List.length_append] at hpa
      obtain ⟨nm, p5, c5, ts⟩ := x
      simp only [Fx.at, Fx.sl, Fx.fld] at c0 c1 hxi hfi hsu hpa
      obtain ⟨acc, hacc⟩ : ∃ acc, (txtsX (d.take i)) = acc := ⟨_, rfl⟩
      rw [hacc] at HO hsu hpa
      have hts : acc.length + ts.length ≤ 2000000 := by omega
      have HSU := hid hsu
      have HXI := hid hxi
      have HFI := hid hfi
      have hsz := HB.out.size
      clear hxs hxi hfi hx hsu hpa htot hacc
      have HB1 := hid (HB.out.alloc hsz (.cells #[.string nm, .slice p5 ts.length c5] 40))
      have HO1 := hid (Kind.own_on HO.out ((Below.refl _ wr).alloc (Nat.le_refl _) (.cells #[.string nm, .slice p5 ts.length c5] 40)))
      clear HO
      go_wp2_with fail
      go_loopg [3, 19] ts.length (fun g vs vj wr2 => ∃ j : Nat, vj = .int .i64 j ∧ j ≤ ts.length ∧ ts.length - j ≤ g ∧ Hid (Below w.heap.size w wr2) ∧ Hid (KK.Own w.heap.size wr2 vs ((acc ++ ts.take j).filterMap namedT)))
      case atStart => exact ⟨0, rfl, by omega, by omega, HB1.out, by show KK.Own _ _ _ _; simpa using HO1.out⟩
      case round =>
        obtain ⟨j, rfl, hj, hgj, HBJ, HOJ⟩ := hrel
        by_cases hlj : j < ts.length
        · have hljz : (j : Int) < (ts.length : Int) := by omega
          have hjz : (0 : Int) ≤ j := by omega
          obtain ⟨b2, o2, rfl, ht2⟩ : ∃ b o, p5 = some ⟨b, o, none⟩ ∧ ∀ i, (h : i < ts.length) → w.cell? ⟨b, o + i, none⟩ = some (.string ts[i]) := by
            rcases HXI.out with h | h
            · rw [h] at hlj; simp at hlj
            · exact h
          have t0 : wr.cell? ⟨b2, o2 + j, none⟩ = some (.string ts[j]) := (HBJ.out.cell (p := ⟨b2, o2 + j, none⟩) (cell_block (ht2 j hlj))).trans (ht2 j hlj)
          have htz := HFI.out.2.2 _ (List.getElem_mem hlj)
          have hst : acc ++ ts.take (j + 1) = (acc ++ ts.take j) ++ [ts[j]] := by rw [List.take_succ_eq_append_getElem hlj, List.append_assoc]
          obtain ⟨t, hte⟩ : ∃ t, ts[j] = t := ⟨_, rfl⟩
          rw [hte] at t0 htz hst
          have hal : ((acc ++ ts.take j).filterMap namedT).length ≤ 2000000 := by
            refine Nat.le_trans (List.length_filterMap_le _ _) ?_
            rw [List.length_append, List.length_take]; omega
          obtain ⟨r, bb, hT, hcall⟩ := named_is t htz
          obtain ⟨k1, k2⟩ := r
          simp only at hcall
          have HC := hid hcall
          have hfm : (acc ++ ts.take (j + 1)).filterMap namedT = (acc ++ ts.take j).filterMap namedT ++ (if bb then [(k1, k2)] else []) := by
            rw [hst, List.filterMap_append]
            congr 1
            rcases hT with ⟨h, rfl⟩ | ⟨h, rfl⟩
            · simp [h]
            · simp [h]
          obtain ⟨L, hL⟩ : ∃ L, (acc ++ ts.take j).filterMap namedT = L := ⟨_, rfl⟩
          rw [hL] at HOJ hal hfm
          have HFM := hid hfm
          have hszj := HBJ.out.size
          clear ht2 htz hst hT hcall hfm hte hL
          cases bb with
          | true =>
            go_wp2_with (first
              | (go_at_call 17; refine (HC.out _).mono ?_; rintro e w2 ⟨rfl, hb2⟩; have HB2 := hid ((bel_then HBJ.out hszj hb2).alloc (Nat.le_trans hszj hb2.size) (.cells #[.string k1, .string k2] 31)); have HO2 := hid (Kind.own_on (Kind.own_on HOJ.out hb2) ((Below.refl _ w2).alloc (Nat.le_refl _) (.cells #[.string k1, .string k2] 31))); have hs2 := Nat.le_trans hszj hb2.size; clear hb2)
              | (at_builtin; refine wpList_append_own _ rfl _ _ 23 rfl w.heap.size 31 i0 (.agg #[.string ⟨#[]⟩, .string ⟨#[]⟩]) 2 32 Tryz.underlying23 HI.out hz0 hz1 hz2 rfl (by decide) _ _ _ rfl (World.ownsRow.alloc HO2.out _) _ 1 1 [.string k1, .string k2] rfl rfl (fun j u hj => KK.newsN (w2.alloc (.cells #[.string k1, .string k2] 31)) (k1, k2) _ (by simp) j u hj) (by intro u hu; simp at hu; rcases hu with rfl | rfl <;> rfl) (by unfold maxLen; omega) (by omega) (by simp; omega) ?_; intro v4 w4 hown4 hg4 hnil4; have HO4 := hid hown4; have HG4 := hid hg4; clear hown4 hg4 hnil4))
            go_roundg (ts.length - (j + 1))
            case measure => omega
            refine ⟨j + 1, by go_num, by omega, by omega, ?_, ?_⟩
            · exact (HB2.out.alloc (by simp; omega) _).grown HG4.out (by simp; omega) (fun k hk => (World.ownsRow.lt HO2.out k hk).1)
            · rw [HFM.out]
              exact Kind.own_snoc HO4.out rfl rfl
          | false =>
            go_wp2_with (first
              | (go_at_call 17; refine (HC.out _).mono ?_; rintro e w2 ⟨rfl, hb2⟩))
            go_roundg (ts.length - (j + 1))
            case measure => omega
            refine ⟨j + 1, by go_num, by omega, by omega, ?_, ?_⟩
            · exact (bel_then HBJ.out hszj hb2).alloc (Nat.le_trans hszj hb2.size) _
            · rw [HFM.out, show L ++ (if false = true then [(k1, k2)] else []) = L by simp]
              exact Kind.own_on (Kind.own_on HOJ.out hb2) ((Below.refl _ w2).alloc (Nat.le_refl _) _)
        · have hljz : ¬ (j : Int) < (ts.length : Int) := by omega
          have hjt : acc ++ ts.take j = txtsX (d.take (i + 1)) := by rw [HSU.out, List.take_of_length_le (by omega)]
          rw [hjt] at HOJ
          clear hjt
          go_wp2_with fail
          go_roundg (d.length - (i + 1))
          case measure => omega
          exact ⟨i + 1, by go_num, by omega, by omega, HBJ.out, HOJ.out⟩
    · have hltz : ¬ (i : Int) < (d.length : Int) := by omega
      have hti : d.take i = d := List.take_of_length_le (by omega)
      rw [hti] at HO
      obtain ⟨L, hL⟩ : ∃ L, (txtsX d).filterMap namedT = L := ⟨_, rfl⟩
      have hLl : L.length ≤ 2000000 := by rw [← hL]; exact Nat.le_trans (List.length_filterMap_le _ _) HTOT.out
      rw [hL] at HO HEND
      have hsz := HB.out.size
      clear hti hL
      go_wp2_with (first
        | (go_at_call 18; refine (nsort_own w.heap.size _ L _ HO.out (by omega)).mono ?_; rintro e w2 ⟨u2, rfl, ho2, hb2⟩; have HO2 := hid ho2; have HB2 := hid hb2; clear ho2 hb2))
      go_ret
      refine ⟨_, rfl, ?_, bel_then HB.out hsz HB2.out⟩
      rw [← HEND.out]
      exact Kind.own_weak HO2.out hsz

end Go.Proofs.YtinmagodckkedaaGreat

/-
  The contract of Resolve of package refs.
-/
namespace Go.Proofs.YtinmagodckkedaaGreat
open Go.RowKit Go.Lib Go.Maps

set_option maxHeartbeats 2000000 in
theorem resolve1_any (C b : Nat) (bs : List Bd) (t : ByteArray) (w : World) (hC : w.cell? ⟨C, 0, none⟩ = some (.map (some b))) (hM : MapB w b bs) (hf : FitB bs) (hn : (bs.map (·.1)).Nodup) (hk : ∀ x ∈ bs, keyOK x.2 = true) (ht : t.size ≤ maxLen)
    (hbd : ∀ n, tempT t = some n → (boundT bs n).isSome = true) :
    Calls Tryz.prog 31 #[.string t, .pointer (some ⟨C, 0, none⟩)] w fun e w' => e = .returned (.string (resT bs t)) ∧ Below w.heap.size w w' := by
  obtain ⟨r, bb, hT, hcall⟩ := tempOf_is t ht
  have HC := hid hcall
  rcases hT with ⟨hT, rfl⟩ | ⟨hT, rfl⟩
  · have hsz := temp_size hT
    obtain ⟨k, hbk⟩ := Option.isSome_iff_exists.1 (hbd r hT)
    have hkk := hk _ (bound_mem hbk)
    simp only at hkk
    have hget : ∀ m, (Instr.lookup 59 (.map (some b)) (.string r) false).run Tryz.prog (w.drewN m) = .ok (.agg #[.string k.1, .string k.2]) (w.drewN m) := fun m => by
      have := mapB_get (hM.on (bel_drewN (Below.refl _ w) m)) hf hn (n := r) (by omega)
      rw [hbk] at this
      exact this
    have HR : Hid (resT bs t = refT k) := by show _ = _; unfold resT; rw [hT]; simp only [hbk]
    rw [HR.out]
    have HTX := hid (fun W => text_yes k W hkk)
    obtain ⟨s, hs⟩ : ∃ s, refT k = s := ⟨_, rfl⟩
    rw [hs] at HTX ⊢
    obtain ⟨k1, k2⟩ := k
    simp only at HTX hget
    clear hM hf hn hk hbd hcall hT hbk hkk hs HR hsz
    go_enter Tryz.func31, Tryz.ntmps31
    go_wp2_with fail
    refine (HC.out _).mono ?_
    rintro e w1 ⟨rfl, n1, rfl⟩
    go_wp2_with fail
    refine (HTX.out _).mono ?_
    rintro e w2 ⟨rfl, hq2⟩
    go_wp2_with fail
    go_ret
    exact ⟨rfl, bel_then (bel_drewN (Below.refl _ _) n1) (Nat.le_refl _) hq2⟩
  · have HR : Hid (resT bs t = t) := res_stays hT
    rw [HR.out]
    clear hM hf hn hk hbd hcall hT HR
    go_enter Tryz.func31, Tryz.ntmps31
    go_wp2_with fail
    refine (HC.out _).mono ?_
    rintro e w1 ⟨rfl, n1, rfl⟩
    go_wp2_with fail
    go_ret
    exact ⟨rfl, bel_drewN (Below.refl _ _) n1⟩

theorem unbound_some {bs : List Bd} {t n : ByteArray} (h : tempT t = some n) : unboundT bs t = (boundT bs n).isNone := by unfold unboundT; rw [h]
theorem unbound_none {bs : List Bd} {t : ByteArray} (h : tempT t = none) : unboundT bs t = false := by unfold unboundT; rw [h]

theorem unbound_temps {bs : List Bd} {fs : List Fld} : (textsF fs).any (unboundT bs) = true ↔ ∃ n ∈ tempsF fs, (boundT bs n).isSome = false := by
  rw [List.any_eq_true]
  constructor
  · rintro ⟨t, ht, hu⟩
    cases hT : tempT t with
    | none => rw [unbound_none hT] at hu; cases hu
    | some n =>
      rw [unbound_some hT] at hu
      exact ⟨n, (told_mem totB tempT (textsF fs) n).2 ⟨t, ht, hT⟩, by simpa using hu⟩
  · rintro ⟨n, hn, hb⟩
    obtain ⟨t, ht, hT⟩ := (told_mem totB tempT (textsF fs) n).1 hn
    exact ⟨t, ht, by rw [unbound_some hT]; simpa using hb⟩

theorem tempsF_len (fs : List Fld) : (tempsF fs).length ≤ (textsF fs).length := by
  rw [← temps_sort, ← order_once]
  refine Nat.le_trans (onceT_len _) ?_
  rw [orderT_len]
  exact List.length_filterMap_le _ _

theorem temp_le {fs : List Fld} {n : ByteArray} {B : Nat} (h : ∀ t ∈ textsF fs, t.size ≤ B) (hn : n ∈ tempsF fs) : n.size ≤ B := by
  obtain ⟨t, ht, e⟩ := (told_mem totB tempT (textsF fs) n).1 hn
  have := temp_size e
  have := h t ht
  omega

/-- What Resolve answers. -/
def rsCode (bs : List Bd) (fs : List Fld) : Int := resCode 2 16 15 bs fs

set_option maxHeartbeats 4000000 in
set_option maxRecDepth 100000 in
theorem resolve_any (v vb : Value) (d : List Fx) (bs : List Bd) (w : World) (hv : IsXs w v d) (hvb : KB.Is w vb bs) (hf : FitX d) (hc : CopyX d) (hT : (txtsX d).length ≤ 2000000) (hfb : FitBd bs) :
    Calls Tryz.prog 14 #[v, vb] w fun e w' => AnsJ w (resAns bs (d.map Fx.fld)) (rsCode bs (d.map Fx.fld)) e w' := by
  have HB0 := hid (bound_is vb bs w hvb hfb)
  have HV := hid hv
  have HF := hid hf
  have HCP := hid hc
  have HFB := hid hfb
  have HTT := hid hT
  clear hv hvb hf hc hT hfb
  go_enter Tryz.func14, Tryz.ntmps14
  go_wp2_with fail
  refine HB0.out.mono ?_
  rintro e w1 ⟨hq1, hcase⟩
  clear HB0
  rcases hcase with ⟨ha, rfl⟩ | ⟨ha, hn, rfl⟩ | ⟨ha, hn, b, rfl, hbw, hM⟩
  · have HR : Hid (rsCode bs (d.map Fx.fld) = 2 ∧ resAns bs (d.map Fx.fld) = []) := ⟨if_pos ha, if_neg fun h => by rw [ha] at h; cases h.1⟩
    clear ha
    go_wp2_with fail
    go_ret2
    exact ⟨_, [], by rw [HR.out.1]; rfl, own_noneX _ _, by rw [HR.out.2]; rfl, hq1.alloc hq1.size _⟩
  · have HR : Hid (rsCode bs (d.map Fx.fld) = 16 ∧ resAns bs (d.map Fx.fld) = []) := ⟨by unfold rsCode resCode; rw [if_neg (by rw [ha]; simp), if_pos hn], if_neg fun h => hn h.2.1⟩
    clear ha hn
    go_wp2_with fail
    go_ret2
    exact ⟨_, [], by rw [HR.out.1]; rfl, own_noneX _ _, by rw [HR.out.2]; rfl, hq1.alloc hq1.size _⟩
  · have HB1 := hid (hq1.alloc hq1.size (.cells #[.map (some b)] 59))
    have HM1 := hid (hM.on ((Below.refl _ w1).alloc (Nat.le_refl _) (.cells #[.map (some b)] 59)))
    have HA := hid ha
    have HN := hid hn
    have hcell : (w1.alloc (.cells #[.map (some b)] 59)).cell? ⟨w1.heap.size, 0, none⟩ = some (.map (some b)) := by rw [Lib.cell_of_heap (heap_alloc_new w1 _)]; rfl
    have HCL := hid hcell
    clear hq1 ha hn hbw hM hcell
    obtain ⟨W1, hW1⟩ : ∃ W1, w1.alloc (.cells #[.map (some b)] 59) = W1 := ⟨_, rfl⟩
    obtain ⟨C, hC⟩ : ∃ C, w1.heap.size = C := ⟨_, rfl⟩
    have HTM := hid (temps_any v d W1 (HV.out.kept (by rw [← hW1]; exact HB1.out)) HF.out HTT.out)
    rw [hW1] at HB1 HM1 HCL
    rw [hC] at HCL
    go_wp2_with fail
    try rw [hC]
    try rw [hW1]
    refine HTM.out.mono ?_
    rintro e w2 ⟨u2, rfl, ho2, hq2⟩
    clear hW1 hC HTM
    have hl2 := tempsF_len (d.map Fx.fld)
    rw [txtsX_flds] at hl2
    have htot := HTT.out
    have HSZ : Hid (∀ n ∈ tempsF (d.map Fx.fld), n.size ≤ maxLen) := fun n hn => temp_le (fun t ht => by
      rw [txtsX_flds] at ht
      obtain ⟨x, hx, hxt⟩ := txtsX_mem.1 ht
      exact (HF.out.2 x hx).2.2 t hxt) hn
    obtain ⟨G, hG⟩ : ∃ G, tempsF (d.map Fx.fld) = G := ⟨_, rfl⟩
    rw [hG] at ho2 hl2 HSZ
    have HG := hid hG
    obtain ⟨p2, c2, rfl⟩ := own_slice ho2
    have HTX := hid (OwnT.txtAt ho2)
    have HB2 := hid (bel_then HB1.out HB1.out.size hq2)
    have HM2 := hid (HM1.out.on hq2)
    have HC2 := hid (kept hq2 HCL.out)
    clear ho2 hq2 hG HB1 HM1 HCL
    go_wp2_with fail
    go_loopg [23] G.length (fun g vi wr => ∃ i : Nat, vi = .int .i64 i ∧ i ≤ G.length ∧ G.length - i ≤ g ∧ Hid (Below w2.heap.size w2 wr) ∧ Hid (∀ j, (h : j < G.length) → j < i → (boundT bs G[j]).isSome = true))
    case atStart => exact ⟨0, rfl, by omega, by omega, Below.refl _ _, fun j _ h => by omega⟩
    case round =>
      obtain ⟨i, rfl, hi, hgk, HB, HS⟩ := hrel
      have hcr : wr.cell? ⟨C, 0, none⟩ = some (.map (some b)) := kept HB.out HC2.out
      have HMR := hid (HM2.out.on HB.out)
      by_cases hlt : i < G.length
      · have hltz : (i : Int) < (G.length : Int) := by omega
        have hiz : (0 : Int) ≤ i := by omega
        obtain ⟨b3, o3, rfl, ht3⟩ : ∃ b o, p2 = some ⟨b, o, none⟩ ∧ ∀ i, (h : i < G.length) → w2.cell? ⟨b, o + i, none⟩ = some (.string G[i]) := by
          rcases HTX.out with h | h
          · rw [h] at hlt; simp at hlt
          · exact h
        have t0 : wr.cell? ⟨b3, o3 + i, none⟩ = some (.string G[i]) := (HB.out.cell (p := ⟨b3, o3 + i, none⟩) (cell_block (ht3 i hlt))).trans (ht3 i hlt)
        have hmem := List.getElem_mem hlt
        have hlook := mapB_look HMR.out HFB.out.fitB HN.out (n := G[i]) (HSZ.out _ hmem)
        have HME := hid hmem
        have HST : Hid (∀ B, (boundT bs G[i]).isSome = B → B = true → ∀ j, (h : j < G.length) → j < i + 1 → (boundT bs G[j]).isSome = true) := fun B e1 e2 j h hj => by
          by_cases e : j = i
          · subst e; rw [e1, e2]
          · exact HS.out j h (by omega)
        obtain ⟨B, hB⟩ : ∃ B, (boundT bs G[i]).isSome = B := ⟨_, rfl⟩
        have HBB := hid hB
        rw [hB] at hlook
        obtain ⟨k, hk⟩ : ∃ k, keyOr (boundT bs G[i]) = k := ⟨_, rfl⟩
        rw [hk] at hlook
        obtain ⟨t, hte⟩ : ∃ t, G[i] = t := ⟨_, rfl⟩
        have HTE := hid hte
        rw [hte] at t0 hlook
        obtain ⟨k1, k2⟩ := k
        simp only at hlook
        have hsz := HB.out.size
        clear ht3 hmem hB hk hte
        cases B with
        | true =>
          go_wp2_with fail
          go_roundg (G.length - (i + 1))
          case measure => omega
          exact ⟨i + 1, by go_num, by omega, by omega, HB.out.alloc hsz _, HST.out true HBB.out rfl⟩
        | false =>
          have HU : Hid ((textsF (d.map Fx.fld)).any (unboundT bs) = true) := unbound_temps.2 ⟨_, by rw [HG.out]; exact HME.out, HBB.out⟩
          have HR : Hid (rsCode bs (d.map Fx.fld) = 15 ∧ resAns bs (d.map Fx.fld) = []) := ⟨by unfold rsCode resCode; rw [if_neg (by rw [HA.out]; simp), if_neg (fun h => h HN.out), if_pos HU.out], if_neg fun h => by rw [HU.out] at h; cases h.2.2⟩
          go_wp2_with fail
          go_ret2
          exact ⟨_, [], by rw [HR.out.1]; rfl, own_noneX _ _, by rw [HR.out.2]; rfl, (bel_then HB2.out HB2.out.size HB.out).alloc (bel_then HB2.out HB2.out.size HB.out).size _⟩
      · have hltz : ¬ (i : Int) < (G.length : Int) := by omega
        have HU : Hid ((textsF (d.map Fx.fld)).any (unboundT bs) = false) := by
          show _ = _
          cases h : (textsF (d.map Fx.fld)).any (unboundT bs) with
          | false => rfl
          | true =>
            obtain ⟨n, hn, hb⟩ := unbound_temps.1 h
            rw [HG.out] at hn
            obtain ⟨j, hj, rfl⟩ := List.mem_iff_getElem.1 hn
            rw [HS.out j hj (by omega)] at hb
            cases hb
        have HR : Hid (rsCode bs (d.map Fx.fld) = 0 ∧ resAns bs (d.map Fx.fld) = mapT (resT bs) (d.map Fx.fld)) := ⟨by unfold rsCode resCode; rw [if_neg (by rw [HA.out]; simp), if_neg (fun h => h HN.out), if_neg (by rw [HU.out]; simp)], if_pos ⟨HA.out, HN.out, HU.out⟩⟩
        have HBR := hid (bel_then HB2.out HB2.out.size HB.out)
        have HK : Hid (∀ x ∈ bs, keyOK x.2 = true) := fun x hx => by
          have := List.all_eq_true.1 HA.out x hx
          simp only [bindOK, Bool.and_eq_true] at this
          exact this.2
        have HCR := hid hcr
        have HCH := hid (changed_any 31 #[.pointer (some ⟨C, 0, none⟩)] (resT bs) v d wr (HV.out.kept HBR.out) HF.out (by have := HCP.out.1; omega) (fun x hx => by have := HCP.out.2 x hx; omega) enters_resolve1 (fun t ht W hW => by
          refine resolve1_any C b bs t W ((hW.cell (p := ⟨C, 0, none⟩) (cell_block HCR.out)).trans HCR.out) (HMR.out.on hW) HFB.out.fitB HN.out HK.out ?_ (fun n hn => ?_)
          · obtain ⟨x, hx, hxt⟩ := txtsX_mem.1 ht
            exact (HF.out.2 x hx).2.2 t hxt
          · have := List.any_eq_false.1 HU.out t (by rw [txtsX_flds]; exact ht)
            rw [unbound_some hn] at this
            cases hb : boundT bs n with
            | none => rw [hb] at this; simp at this
            | some k => rfl))
        clear hcr
        go_wp2_with fail
        refine HCH.out.mono ?_
        rintro e w3 ⟨u3, o3, rfl, hj3, hm3, hq3⟩
        have HJ3 := hid hj3
        have HM3 := hid hm3
        clear hj3 hm3 HCH
        go_wp2_with fail
        go_ret2
        exact ⟨_, o3, by rw [HR.out.1]; rfl, own_weakJ HJ3.out HBR.out.size, by rw [HR.out.2]; exact HM3.out, bel_then HBR.out HBR.out.size hq3⟩

end Go.Proofs.YtinmagodckkedaaGreat

/-
  The chapter's examples (stage 5).
-/
namespace Go.Proofs.YtinmagodckkedaaGreat
open Go.RowKit

def fxA : ByteArray := ⟨#[97]⟩
def fxP : ByteArray := ⟨#[42, 80, 97, 116, 105, 101, 110, 116, 47, 112, 49]⟩
def fxX : ByteArray := ⟨#[42, 64, 120]⟩
def fxV : List Fld := [(fxA, [fxP, fxX])]
def fxB : List Bd := [(⟨#[120]⟩, ⟨#[65]⟩, ⟨#[98]⟩)]
def fxK : Ky := (⟨#[80, 97, 116, 105, 101, 110, 116]⟩, ⟨#[112, 49]⟩)

theorem fx_keys : (keysF fxV).length = 1 := by decide
theorem fx_temps : tempsF fxV = [⟨#[120]⟩] := by decide
theorem fx_code : rsCode fxB fxV = 0 := by decide
theorem fx_res : resAns fxB fxV = [(fxA, [fxP, ⟨#[42, 65, 47, 98]⟩])] := by decide
theorem fx_ren : renCode fxK (⟨#[65]⟩, ⟨#[99]⟩) = 0 ∧ renAns fxK (⟨#[65]⟩, ⟨#[99]⟩) fxV = [(fxA, [⟨#[42, 65, 47, 99]⟩, fxX])] := by decide
theorem fx_text : refT (⟨#[65]⟩, ⟨#[98]⟩) = ⟨#[42, 65, 47, 98]⟩ ∧ keyOK (⟨#[65]⟩, ⟨#[98]⟩) = true := by decide
theorem fx_points : pointsB fxV fxK = true := by decide

theorem one_field {o : List Fx} {nm : ByteArray} {ts : List ByteArray} (h : o.map Fx.fld = [(nm, ts)]) : ∃ p c, o = [⟨nm, p, c, ts⟩] := by
  match o, h with
  | [x], h =>
    obtain ⟨n, p, c, t⟩ := x
    simp [Fx.fld] at h
    obtain ⟨rfl, rfl⟩ := h
    exact ⟨p, c, rfl⟩

theorem one_cells {W : World} {u : Value} {nm t1 t2 : ByteArray} {p : Option Addr} {c : Nat} (h : IsXs W u [⟨nm, p, c, [t1, t2]⟩]) :
    ∃ b off cu b2 o2, u = .slice (some ⟨b, off, none⟩) 1 cu ∧ W.cell? ⟨b, off + 1, none⟩ = some (.slice (some ⟨b2, o2, none⟩) 2 c) ∧ W.cell? ⟨b2, o2, none⟩ = some (.string t1) ∧ W.cell? ⟨b2, o2 + 1, none⟩ = some (.string t2) := by
  obtain ⟨pu, cu, rfl, h1, h2⟩ := h
  rcases h1 with h1 | ⟨b, off, rfl, hx⟩
  · cases h1
  · have ht := h2 _ (List.mem_singleton.2 rfl)
    rcases ht with ht | ⟨b2, o2, hp, hc⟩
    · cases ht
    · simp only at hp
      subst hp
      exact ⟨b, off, cu, b2, o2, rfl, (hx 0 (by simp)).2, hc 0 (by simp), hc 1 (by simp)⟩

set_option maxHeartbeats 8000000 in
set_option maxRecDepth 100000 in
theorem rfixed_any (w : World) : Calls Tryz.prog 4 #[] w fun e w' => e = .returned (.bool true) ∧ Below w.heap.size w w' := by
  obtain ⟨W0, hW0⟩ : ∃ W0, (w.alloc (.cells #[.string ⟨#[42, 80, 97, 116, 105, 101, 110, 116, 47, 112, 49]⟩, .string ⟨#[42, 64, 120]⟩] 9)).alloc (.cells #[.string ⟨#[97]⟩, .slice (some ⟨w.heap.size, 0, none⟩) 2 2] 40) = W0 := ⟨_, rfl⟩
  have hb0 : Below w.heap.size w W0 := by rw [← hW0]; exact ((Below.refl _ _).alloc (Nat.le_refl _) _).alloc (by simp) _
  obtain ⟨d0, hd0⟩ : ∃ d0 : List Fx, d0 = [⟨fxA, some ⟨w.heap.size, 0, none⟩, 2, [fxP, fxX]⟩] := ⟨_, rfl⟩
  have hm0 : d0.map Fx.fld = fxV := by rw [hd0]; rfl
  have hv0 : IsXs W0 (.slice (some ⟨w.heap.size + 1, 0, none⟩) 1 1) d0 := by
    have h1 : W0.heap[w.heap.size]? = some (.cells #[.string fxP, .string fxX] 9 (0, 0)) := by rw [← hW0]; exact (Below.heap_alloc _ _ _ (by simp)).trans (heap_alloc_new w _)
    have h2 : W0.heap[w.heap.size + 1]? = some (.cells #[.string fxA, .slice (some ⟨w.heap.size, 0, none⟩) 2 2] 40 (0, 0)) := by
      rw [← hW0]
      have := heap_alloc_new (w.alloc (.cells #[.string ⟨#[42, 80, 97, 116, 105, 101, 110, 116, 47, 112, 49]⟩, .string ⟨#[42, 64, 120]⟩] 9)) (.cells #[.string ⟨#[97]⟩, .slice (some ⟨w.heap.size, 0, none⟩) 2 2] 40)
      rwa [World.size_alloc] at this
    rw [hd0]
    refine ⟨_, 1, rfl, Or.inr ⟨_, 0, rfl, fun i hi => ?_⟩, fun x hx => ?_⟩
    · have : i = 0 := by simp at hi; omega
      subst this
      rw [Lib.cell_of_heap h2, Lib.cell_of_heap h2]
      exact ⟨rfl, rfl⟩
    · rw [List.mem_singleton.1 hx]
      refine Or.inr ⟨_, 0, rfl, fun i hi => ?_⟩
      rw [Lib.cell_of_heap h1]
      have hi2 : i < 2 := hi
      rcases (show i = 0 ∨ i = 1 by omega) with rfl | rfl <;> rfl
  have hf0 : FitX d0 := by
    rw [hd0]
    refine ⟨show 1 ≤ maxLen by decide, fun x hx => ?_⟩
    rw [List.mem_singleton.1 hx]
    exact ⟨show fxA.size ≤ maxLen by decide, show 2 ≤ maxLen by decide, fun t (ht : t ∈ [fxP, fxX]) => by
      simp only [List.mem_cons, List.not_mem_nil, or_false] at ht
      rcases ht with rfl | rfl <;> decide⟩
  have hc0 : CopyX d0 := by
    rw [hd0]
    refine ⟨show 1 * 40 ≤ 140737488355328 by decide, fun x hx => ?_⟩
    rw [List.mem_singleton.1 hx]
    show 2 * 16 ≤ 140737488355328
    decide
  have ht0 : (txtsX d0).length ≤ 2000000 := by rw [hd0]; show 2 ≤ 2000000; decide
  have HKEY := hid (keys_any _ d0 W0 hv0 hf0 ht0)
  rw [hm0] at HKEY
  have HTMP : Hid (∀ W, Below W0.heap.size W0 W → Calls Tryz.prog 9 #[.slice (some ⟨w.heap.size + 1, 0, none⟩) 1 1] W fun e w' => ∃ u, e = .returned u ∧ OwnT W.heap.size w' u [⟨#[120]⟩] ∧ Below W.heap.size W w') := fun W hW => by
    have := temps_any _ d0 W (hv0.kept hW) hf0 ht0
    rw [hm0, fx_temps] at this
    exact this
  have HRES : Hid (∀ W, Below W0.heap.size W0 W → ∀ vb, KB.Is W vb fxB → Calls Tryz.prog 14 #[.slice (some ⟨w.heap.size + 1, 0, none⟩) 1 1, vb] W fun e w' => AnsJ W [(fxA, [fxP, ⟨#[42, 65, 47, 98]⟩])] 0 e w') := fun W hW vb hvb => by
    have := resolve_any _ vb d0 fxB W (hv0.kept hW) hvb hf0 hc0 ht0 ⟨by decide, fun b hb => by rw [List.mem_singleton.1 hb]; exact ⟨by decide, by decide, by decide⟩⟩
    rw [hm0, fx_res, fx_code] at this
    exact this
  have HREN : Hid (∀ W, Below W0.heap.size W0 W → Calls Tryz.prog 15 #[.slice (some ⟨w.heap.size + 1, 0, none⟩) 1 1, .agg #[.string ⟨#[80, 97, 116, 105, 101, 110, 116]⟩, .string ⟨#[112, 49]⟩], .agg #[.string ⟨#[65]⟩, .string ⟨#[99]⟩]] W fun e w' => AnsJ W [(fxA, [⟨#[42, 65, 47, 99]⟩, fxX])] 0 e w') := fun W hW => by
    have := rename_any _ d0 fxK (⟨#[65]⟩, ⟨#[99]⟩) W (hv0.kept hW) hf0 hc0 (by decide) (by decide) (by decide) (by decide)
    rw [hm0, fx_ren.1, fx_ren.2] at this
    exact this
  have HTX : Hid (∀ W, Calls Tryz.prog 11 #[.agg #[.string ⟨#[65]⟩, .string ⟨#[98]⟩]] W fun e w' => e = .returned (.tuple #[.string ⟨#[42, 65, 47, 98]⟩, .int .i64 0]) ∧ Below W.heap.size W w') := fun W => by
    have := text_yes (⟨#[65]⟩, ⟨#[98]⟩) W fx_text.2
    rw [fx_text.1] at this
    exact this
  have HPT : Hid (∀ W, Below W0.heap.size W0 W → Calls Tryz.prog 13 #[.slice (some ⟨w.heap.size + 1, 0, none⟩) 1 1, .agg #[.string ⟨#[80, 97, 116, 105, 101, 110, 116]⟩, .string ⟨#[112, 49]⟩]] W fun e w' => e = .returned (.bool true) ∧ Below W.heap.size W w') := fun W hW => by
    have := points_any _ d0 fxK W (hv0.kept hW) hf0 (by decide) (by decide)
    rw [hm0, fx_points] at this
    exact this
  have HB0 := hid hb0
  clear hv0 hf0 hc0 ht0 hm0 hd0 hb0
  go_enter Tryz.func4, Tryz.ntmps4
  go_wp2_with fail
  try rw [hW0]
  refine HKEY.out.mono ?_
  rintro e w1 ⟨u1, rfl, ho1, hq1⟩
  obtain ⟨p1, c1, hu1⟩ := Kind.own_shape ho1
  rw [fx_keys] at hu1
  subst hu1
  have HB1 := hid hq1
  clear ho1 hq1 hW0 HKEY
  go_wp2_with fail
  refine (HTMP.out w1 HB1.out).mono ?_
  rintro e w2 ⟨u2, rfl, ho2, hq2⟩
  have HB2 := hid (bel_then HB1.out HB1.out.size hq2)
  obtain ⟨p2, c2, hu2⟩ := own_slice ho2
  subst hu2
  obtain ⟨b2, o2, hp2, hc2⟩ : ∃ b o, p2 = some ⟨b, o, none⟩ ∧ w2.cell? ⟨b, o, none⟩ = some (.string ⟨#[120]⟩) := by
    rcases OwnT.txtAt ho2 with h | ⟨b, o, h, hc⟩
    · cases h
    · exact ⟨b, o, h, hc 0 (by simp)⟩
  subst hp2
  have HC2 := hid hc2
  clear ho2 hq2 hc2 HTMP
  have HB2a := hid (HB2.out.alloc HB2.out.size (.cells #[.string ⟨#[120]⟩, .string ⟨#[65]⟩, .string ⟨#[98]⟩] 44))
  have HVB : Hid (KB.Is (w2.alloc (.cells #[.string ⟨#[120]⟩, .string ⟨#[65]⟩, .string ⟨#[98]⟩] 44)) (.slice (some ⟨w2.heap.size, 0, none⟩) 1 1) fxB) := by
    refine ⟨_, 1, rfl, Or.inr ⟨_, 0, rfl, fun i hi j u hu => ?_⟩⟩
    have : i = 0 := by simp [fxB] at hi; omega
    subst this
    rw [Lib.cell_of_heap (heap_alloc_new w2 _)]
    have hj : j < 3 := by have := (List.getElem?_eq_some_iff.1 hu).1; exact this
    rcases (show j = 0 ∨ j = 1 ∨ j = 2 by omega) with rfl | rfl | rfl <;> exact hu
  go_wp2_with fail
  refine (HRES.out _ HB2a.out _ HVB.out).mono ?_
  rintro e w3 ⟨u3, o3, rfl, ho3, hm3, hq3⟩
  have HB3 := hid (bel_then HB2a.out HB2a.out.size hq3)
  have HC3 := hid (kept hq3 (kept_new (.cells #[.string ⟨#[120]⟩, .string ⟨#[65]⟩, .string ⟨#[98]⟩] 44) HC2.out))
  obtain ⟨p3, c3, rfl⟩ := one_field hm3
  have HI3 := hid ho3.1.is
  obtain ⟨b3, o3, cu3, b4, o4, hu3, _, _, _⟩ := one_cells HI3.out
  subst hu3
  clear ho3 hm3 hq3 HC2 HVB HRES HB2a HB2
  go_wp2_with fail
  refine (HREN.out w3 HB3.out).mono ?_
  rintro e w4 ⟨u4, o5, rfl, ho4, hm4, hq4⟩
  have HB4 := hid (bel_then HB3.out HB3.out.size hq4)
  have HC4 := hid (kept hq4 HC3.out)
  have HI3b := hid (HI3.out.kept hq4)
  obtain ⟨p4, c4, rfl⟩ := one_field hm4
  have HI4 := hid ho4.1.is
  obtain ⟨b5, o5, cu4, b6, o6, hu4, _, _, _⟩ := one_cells HI4.out
  subst hu4
  clear ho4 hm4 hq4 HC3 HI3 HREN HB3
  go_wp2_with fail
  refine (HTX.out w4).mono ?_
  rintro e w5 ⟨rfl, hq5⟩
  have HB5 := hid (bel_then HB4.out HB4.out.size hq5)
  have x0 := kept hq5 HC4.out
  obtain ⟨_, _, _, b7, o7, he7, y0, _, y1⟩ := one_cells (HI3b.out.kept hq5)
  injection he7 with e1 e2 e3
  injection e1 with e1
  injection e1 with e1 e4
  subst e1 e4 e3
  obtain ⟨_, _, _, b8, o8, he8, z0, z1, _⟩ := one_cells (HI4.out.kept hq5)
  injection he8 with e1 e2 e3
  injection e1 with e1
  injection e1 with e1 e4
  subst e1 e4 e3
  clear hq5 HC4 HI3b HI4 HTX HB4
  go_wp2_with fail
  refine (HPT.out w5 HB5.out).mono ?_
  rintro e w6 ⟨rfl, hq6⟩
  go_wp2_with fail
  go_ret
  exact ⟨rfl, bel_then HB0.out HB0.out.size (bel_then HB5.out HB5.out.size hq6)⟩

end Go.Proofs.YtinmagodckkedaaGreat

/-
  The walk of RefsTells.
-/
namespace Go.Proofs.YtinmagodckkedaaGreat
open Go.RowKit

theorem ref_fits {k : Ky} (h : keyOK k = true) : (refT k).size ≤ maxLen := by
  obtain ⟨h1, h2⟩ := keyB_sizes (a := k.1) (b := k.2) h
  rw [← ref_cat]
  have e1 : (⟨#[42]⟩ : ByteArray).size = 1 := rfl
  have e2 : (⟨#[47]⟩ : ByteArray).size = 1 := rfl
  simp only [ByteArray.size_append, e1, e2]
  unfold maxLen
  omega

theorem z_is {w : World} {v : Value} {d : List Ky} (h : KK.Is w v d) : Z.IsKeys w v d := by
  obtain ⟨p, cap, rfl, h | ⟨b, off, rfl, h⟩⟩ := h
  · exact ⟨p, cap, rfl, Or.inl h⟩
  · exact ⟨_, cap, rfl, Or.inr ⟨b, off, rfl, z_at h⟩⟩

theorem own_txt {n0 : Nat} {w : World} {v : Value} {l : List ByteArray} (h : KT.Own n0 w v l) : ∃ p c, v = .slice p l.length c ∧ TxtAt w p l := by
  obtain ⟨p, c, hv, hd⟩ := Kind.own_is h
  exact ⟨p, c, hv, kt_txt.2 hd⟩

theorem points_told (fs : List Fld) (k : Ky) : ((keysF fs).any fun x => decide (x = k)) = pointsB fs k := by
  rw [Bool.eq_iff_iff, List.any_eq_true, pointsB_iff, ← mem_keysF]
  constructor
  · rintro ⟨x, hx, e⟩
    rw [← of_decide_eq_true e]; exact hx
  · intro h; exact ⟨k, h, by simp⟩

theorem named_empty : namedT ⟨#[]⟩ = none := by
  cases h : namedT ⟨#[]⟩ with
  | none => rfl
  | some k =>
    have := congrArg ByteArray.size (namedT_some h).1
    rw [← ref_cat] at this
    have e1 : (⟨#[42]⟩ : ByteArray).size = 1 := rfl
    have e2 : (⟨#[47]⟩ : ByteArray).size = 1 := rfl
    have e3 : (⟨#[]⟩ : ByteArray).size = 0 := rfl
    simp only [ByteArray.size_append, e1, e2, e3] at this
    omega

set_option maxHeartbeats 8000000 in
set_option maxRecDepth 100000 in
theorem tells_any (v vk : Value) (d : List Fx) (ks : List Ky) (w : World) (hv : IsXs w v d) (hvk : KK.Is w vk ks) (hf : FitX d) (hT : (txtsX d).length ≤ 2000000) (hkl : ks.length ≤ 2000000) (hks : ∀ k ∈ ks, k.1.size ≤ maxLen ∧ k.2.size ≤ maxLen) :
    Calls Tryz.prog 3 #[v, vk] w fun e w' => e = .returned (.bool true) ∧ Below w.heap.size w w' := by
  have HKS := hid hks
  have H1 : Hid (∀ W, Below w.heap.size w W → Calls Tryz.prog 5 #[v] W fun e w' => ∃ u, e = .returned u ∧ KK.Own W.heap.size w' u (keysF (d.map Fx.fld)) ∧ Below W.heap.size W w') := fun W hW => rkeys_any v d W (hv.kept hW) hf hT
  have H2 : Hid (∀ W, Below w.heap.size w W → Calls Tryz.prog 7 #[v] W fun e w' => ∃ u, e = .returned u ∧ KK.Own W.heap.size w' u (keysF (d.map Fx.fld)) ∧ Below W.heap.size W w') := fun W hW => keys_any v d W (hv.kept hW) hf hT
  have H3 : Hid (∀ W, Below w.heap.size w W → Calls Tryz.prog 9 #[v] W fun e w' => ∃ u, e = .returned u ∧ OwnT W.heap.size w' u (tempsF (d.map Fx.fld)) ∧ Below W.heap.size W w') := fun W hW => temps_any v d W (hv.kept hW) hf hT
  have H4 : Hid (∀ W, Below w.heap.size w W → Calls Tryz.prog 10 #[v] W fun e w' => ∃ u, e = .returned u ∧ KT.Own W.heap.size w' u (tempsF (d.map Fx.fld)) ∧ Below W.heap.size W w') := fun W hW => rtemps_any v d W (hv.kept hW) hf hT
  have HPT : Hid (∀ W, Below w.heap.size w W → ∀ k : Ky, k.1.size ≤ maxLen → k.2.size ≤ maxLen → Calls Tryz.prog 13 #[v, .agg #[.string k.1, .string k.2]] W fun e w' => e = .returned (.bool (pointsB (d.map Fx.fld) k)) ∧ Below W.heap.size W w') := fun W hW k h1 h2 => points_any v d k W (hv.kept hW) hf h1 h2
  have HPK := hid (points_told (d.map Fx.fld))
  have hKl : (keysF (d.map Fx.fld)).length ≤ 2000000 := by
    unfold keysF
    refine Nat.le_trans (told_len _ _ _) ?_
    rw [txtsX_flds]; exact hT
  have hTl : (tempsF (d.map Fx.fld)).length ≤ 2000000 := by
    unfold tempsF
    refine Nat.le_trans (told_len _ _ _) ?_
    rw [txtsX_flds]; exact hT
  obtain ⟨K, hK⟩ : ∃ K, keysF (d.map Fx.fld) = K := ⟨_, rfl⟩
  obtain ⟨T, hTT⟩ : ∃ T, tempsF (d.map Fx.fld) = T := ⟨_, rfl⟩
  rw [hK] at H1 H2 hKl HPK
  rw [hTT] at H3 H4 hTl
  obtain ⟨pk, ck, rfl, hkd⟩ := hvk
  have HKD := hid hkd
  clear hv hf hT hks hK hTT hkd
  go_enter Tryz.func3, Tryz.ntmps3
  go_wp2_with fail
  refine (rfixed_any _).mono ?_
  rintro e w1 ⟨rfl, hq1⟩
  have HB1 := hid hq1
  clear hq1
  go_wp2_with fail
  refine (H1.out w1 HB1.out).mono ?_
  rintro e w2 ⟨u2, rfl, ho2, hq2⟩
  have HB2 := hid (bel_then HB1.out HB1.out.size hq2)
  obtain ⟨p2, c2, rfl, hd2⟩ := Kind.own_is ho2
  have HK2 : Hid (∀ W, Below w2.heap.size w2 W → KK.Is W (.slice p2 K.length c2) K) := fun W hW => Kind.is_kept (Kind.own_is ho2) hW
  clear ho2 hq2 hd2 H1 HB1
  go_wp2_with fail
  refine (H2.out w2 HB2.out).mono ?_
  rintro e w3 ⟨u3, rfl, ho3, hq3⟩
  have HB3 := hid hq3
  have HS := hid (Z.zsame_any u3 (.slice p2 K.length c2) K K w3 (z_is (Kind.own_is ho3)) (z_is (HK2.out w3 hq3)) (by unfold maxLen; omega) (by unfold maxLen; omega))
  rw [decide_eq_true rfl] at HS
  clear ho3 hq3 H2
  go_wp2_with fail
  refine HS.out.mono ?_
  rintro e w4 ⟨rfl, n4, rfl⟩
  have HB4 : Hid (Below w2.heap.size w2 (w3.drewN n4)) := bel_drewN HB3.out n4
  clear HS HB3
  go_wp2_with fail
  refine (H3.out _ (bel_then HB2.out HB2.out.size HB4.out)).mono ?_
  rintro e w5 ⟨u5, rfl, ho5, hq5⟩
  have HB5 := hid (bel_then HB4.out HB4.out.size hq5)
  have HO5 := hid (kt_own.2 ho5)
  clear ho5 hq5 H3 HB4
  go_wp2_with fail
  refine (H4.out _ (bel_then HB2.out HB2.out.size HB5.out)).mono ?_
  rintro e w6 ⟨u6, rfl, ho6, hq6⟩
  have HB6 := hid (bel_then HB5.out HB5.out.size hq6)
  obtain ⟨p6, c6, rfl, hx6⟩ := own_txt ho6
  obtain ⟨p5, c5, rfl, hx5⟩ := own_txt (Kind.own_on HO5.out hq6)
  have HS := hid (sameT_any p5 p6 c5 c6 T T w6 hx5 hx6 (by unfold maxLen; omega))
  rw [decide_eq_true rfl] at HS
  clear ho6 hq6 hx5 hx6 H4 HB5 HO5
  go_wp2_with fail
  refine HS.out.mono ?_
  rintro e w7 ⟨rfl, n7, rfl⟩
  have HB7 : Hid (Below w2.heap.size w2 (w6.drewN n7)) := bel_drewN HB6.out n7
  clear HS HB6
  go_wp2_with fail
  go_loopg [34] ks.length (fun g vi wr => ∃ i : Nat, vi = .int .i64 i ∧ i ≤ ks.length ∧ ks.length - i ≤ g ∧ Hid (Below w2.heap.size w2 wr))
  case atStart => exact ⟨0, rfl, by omega, by omega, HB7.out⟩
  case round =>
    obtain ⟨i, rfl, hi, hgk, HB⟩ := hrel
    clear HB7
    have HBW := hid (bel_then HB2.out HB2.out.size HB.out)
    by_cases hlt : i < ks.length
    · have hltz : (i : Int) < (ks.length : Int) := by omega
      have hiz : (0 : Int) ≤ i := by omega
      obtain ⟨b, off, rfl, hat⟩ : ∃ b off, pk = some ⟨b, off, none⟩ ∧ KK.At w b off ks := by
        rcases HKD.out with h | h
        · subst h; simp at hlt
        · exact h
      obtain ⟨c0, c1⟩ := kk_at (Kind.at_kept hat HBW.out) i hlt
      obtain ⟨f0, f1⟩ := HKS.out _ (List.getElem_mem hlt)
      obtain ⟨k, hk⟩ : ∃ k, ks[i] = k := ⟨_, rfl⟩
      rw [hk] at c0 c1 f0 f1
      have HPK1 := hid (HPK.out k)
      have HPT1 := hid (fun W hW => HPT.out W hW k f0 f1)
      have hnek : ∀ W, (binOp .neq 31 (.agg #[.string k.1, .string k.2]) (.agg #[.string k.1, .string k.2])).run Tryz.prog W = .ok (.bool false) W := fun W => by
        rw [Z.neq_key, Z.eqK_iff, decide_eq_true rfl]; rfl
      have HTX : Hid ((keyOK k = true ∧ (∀ W, Calls Tryz.prog 11 #[.agg #[.string k.1, .string k.2]] W fun e w' => e = .returned (.tuple #[.string (refT k), .int .i64 0]) ∧ Below W.heap.size W w') ∧ ∀ W, Calls Tryz.prog 12 #[.string (refT k)] W fun e w' => e = .returned (.tuple #[.agg #[.string k.1, .string k.2], .bool true]) ∧ Below W.heap.size W w') ∨
          ((∀ W, Calls Tryz.prog 11 #[.agg #[.string k.1, .string k.2]] W fun e w' => e = .returned (.tuple #[.string ⟨#[]⟩, .int .i64 2]) ∧ Below W.heap.size W w') ∧ ∃ z : Ky, ∀ W, Calls Tryz.prog 12 #[.string ⟨#[]⟩] W fun e w' => e = .returned (.tuple #[.agg #[.string z.1, .string z.2], .bool false]) ∧ Below W.heap.size W w')) := by
        cases hok : keyOK k with
        | true =>
          refine Or.inl ⟨rfl, fun W => text_yes k W hok, ?_⟩
          obtain ⟨k', b', hN, hc⟩ := rnamed_is (refT k) (ref_fits hok)
          rcases hN with ⟨h, rfl⟩ | ⟨h, rfl⟩
          · rw [namedT_ref hok] at h
            cases h
            exact hc
          · rw [namedT_ref hok] at h; cases h
        | false =>
          refine Or.inr ⟨fun W => text_no k W f0 f1 hok, ?_⟩
          obtain ⟨k', b', hN, hc⟩ := rnamed_is ⟨#[]⟩ (by unfold maxLen; decide)
          rcases hN with ⟨h, rfl⟩ | ⟨h, rfl⟩
          · rw [named_empty] at h; cases h
          · exact ⟨k', hc⟩
      obtain ⟨S, hS⟩ : ∃ S, wr.heap.size = S := ⟨_, rfl⟩
      obtain ⟨Wk, hWk⟩ : ∃ Wk, wr.alloc (.cells #[.string k.1, .string k.2] 31) = Wk := ⟨_, rfl⟩
      have HBK : Hid (Below w2.heap.size w2 Wk) := by show Below _ _ _; rw [← hWk]; exact HB.out.alloc HB.out.size _
      have HXB : Hid (∀ W, Below Wk.heap.size Wk W → W.cell? ⟨S, 0, none⟩ = some (.string k.1) ∧ W.cell? ⟨S, 1, none⟩ = some (.string k.2)) := fun W hW => by
        have hlt : S < Wk.heap.size := by rw [← hWk, ← hS]; simp
        refine ⟨(hW.cell (p := ⟨S, 0, none⟩) hlt).trans ?_, (hW.cell (p := ⟨S, 1, none⟩) hlt).trans ?_⟩
        · rw [← hWk, ← hS]; simp [go_sem]
        · rw [← hWk, ← hS]; simp [go_sem]
      obtain ⟨k1, k2⟩ := k
      simp only at HPK1 HPT1 hnek HTX HXB c0 c1 hWk
      clear hat f0 f1 hk HBW HPT
      go_wp2_with fail
      try rw [hWk]
      try rw [hS]
      clear c0 c1 hWk hS HB
      go_loopg [8, 40] K.length (fun g vb vj wr2 => ∃ j : Nat, vj = .int .i64 j ∧ j ≤ K.length ∧ K.length - j ≤ g ∧ vb = .bool ((K.take j).any fun x => decide (x = (k1, k2))) ∧ Hid (Below Wk.heap.size Wk wr2))
      case atStart => exact ⟨0, rfl, by omega, by omega, by simp, Below.refl _ _⟩
      case round =>
        obtain ⟨j, rfl, hj, hgj, rfl, HB⟩ := hrel
        obtain ⟨x0, x1⟩ := HXB.out wr HB.out
        have HBD := hid (bel_then HBK.out HBK.out.size HB.out)
        by_cases hlj : j < K.length
        · have hljz : (j : Int) < (K.length : Int) := by omega
          have hjz : (0 : Int) ≤ j := by omega
          obtain ⟨b2, off2, rfl, hat2⟩ : ∃ b off, p2 = some ⟨b, off, none⟩ ∧ KK.At wr b off K := by
            obtain ⟨q, c, he, h⟩ := HK2.out wr HBD.out
            injection he with e1 _ _
            subst e1
            rcases h with h | h
            · rw [h] at hlj; simp at hlj
            · exact h
          obtain ⟨c0, c1⟩ := kk_at hat2 j hlj
          have htk : (K.take (j + 1)).any (fun x => decide (x = (k1, k2))) = (((K.take j).any fun x => decide (x = (k1, k2))) || decide (K[j] = (k1, k2))) := by
            rw [List.take_succ_eq_append_getElem hlj, List.any_append]
            simp
          obtain ⟨x, hx⟩ : ∃ x, K[j] = x := ⟨_, rfl⟩
          rw [hx] at c0 c1 htk
          have heq0 : ∀ W, (binOp .eql 31 (.agg #[.string x.1, .string x.2]) (.agg #[.string k1, .string k2])).run Tryz.prog W = .ok (.bool (decide (x = (k1, k2)))) W := fun W => by
            have := Z.eql_key x.1 x.2 k1 k2 W
            rw [Z.eqK_iff x (k1, k2)] at this
            exact this
          obtain ⟨E, hE⟩ : ∃ E, decide (x = (k1, k2)) = E := ⟨_, rfl⟩
          obtain ⟨B, hB⟩ : ∃ B, ((K.take j).any fun x => decide (x = (k1, k2))) = B := ⟨_, rfl⟩
          rw [hE] at heq0 htk
          rw [hB] at htk ⊢
          have HTK := hid htk
          have z0 := kept_new (.cells #[.string x.1, .string x.2] 31) x0
          have z1 := kept_new (.cells #[.string x.1, .string x.2] 31) x1
          have HBZ := hid (HB.out.alloc HB.out.size (.cells #[.string x.1, .string x.2] 31))
          obtain ⟨y1, y2⟩ := x
          simp only at c0 c1 z0 z1 heq0 HBZ
          clear hat2 hx htk hE hB x0 x1
          cases B with
          | true =>
            go_wp2_with fail
            go_roundg (K.length - (j + 1))
            case measure => omega
            exact ⟨j + 1, by go_num, by omega, by omega, by rw [HTK.out]; rfl, HBZ.out⟩
          | false =>
            go_wp2_with fail
            go_roundg (K.length - (j + 1))
            case measure => omega
            exact ⟨j + 1, by go_num, by omega, by omega, by rw [HTK.out]; rfl, HBZ.out⟩
        · have hljz : ¬ (j : Int) < (K.length : Int) := by omega
          have hti : K.take j = K := List.take_of_length_le (by omega)
          rw [hti, HPK1.out]
          obtain ⟨P, hP⟩ : ∃ P, pointsB (d.map Fx.fld) (k1, k2) = P := ⟨_, rfl⟩
          rw [hP] at HPT1 ⊢
          clear hti hP HBD
          rcases HTX.out with ⟨_, hA, hN⟩ | ⟨hA, z, hN⟩
          · have HA := hid hA
            have HN := hid hN
            clear hA hN
            obtain ⟨s, hs⟩ : ∃ s, refT (k1, k2) = s := ⟨_, rfl⟩
            rw [hs] at HA HN
            clear hs
            go_wp2_with fail
            clear x0 x1
            refine (HA.out _).mono ?_
            rintro e w8 ⟨rfl, hq8⟩
            have HB8 := hid (bel_then HB.out HB.out.size hq8)
            clear hq8
            go_wp2_with fail
            refine (HN.out _).mono ?_
            rintro e w9 ⟨rfl, hq9⟩
            have HB9 := hid ((bel_then HB8.out HB8.out.size hq9).alloc (bel_then HB8.out HB8.out.size hq9).size (.cells #[.string k1, .string k2] 31))
            obtain ⟨x0, x1⟩ := HXB.out _ HB9.out
            clear hq9
            obtain ⟨S9, hS9⟩ : ∃ S9, w9.heap.size = S9 := ⟨_, rfl⟩
            obtain ⟨W9, hW9⟩ : ∃ W9, w9.alloc (.cells #[.string k1, .string k2] 31) = W9 := ⟨_, rfl⟩
            have HX9 : Hid (∀ W, Below W9.heap.size W9 W → W.cell? ⟨S9, 0, none⟩ = some (.string k1) ∧ W.cell? ⟨S9, 1, none⟩ = some (.string k2)) := fun W hW => by
              have hlt : S9 < W9.heap.size := by rw [← hW9, ← hS9]; simp
              refine ⟨(hW.cell (p := ⟨S9, 0, none⟩) hlt).trans ?_, (hW.cell (p := ⟨S9, 1, none⟩) hlt).trans ?_⟩
              · rw [← hW9, ← hS9]; simp [go_sem]
              · rw [← hW9, ← hS9]; simp [go_sem]
            rw [hW9] at HB9 x0 x1
            go_upto_region 17 with fail
            try rw [hW9]
            try rw [hS9]
            clear hW9 hS9
            go_wp2_with fail
            clear x0 x1
            refine (HPT1.out _ (bel_then HB2.out HB2.out.size (bel_then HBK.out HBK.out.size HB9.out))).mono ?_
            rintro e w10 ⟨rfl, hq10⟩
            have HB10 := hid (bel_then HB9.out HB9.out.size hq10)
            obtain ⟨x0, x1⟩ := HXB.out _ HB10.out
            obtain ⟨y0, y1⟩ := HX9.out _ hq10
            clear hq10
            cases P
            all_goals
              go_wp2_with fail
              go_roundg (ks.length - (i + 1))
              case measure => omega
              exact ⟨i + 1, by go_num, by omega, by omega, bel_then HBK.out HBK.out.size HB10.out⟩
          · have HA := hid hA
            have HN := hid hN
            clear hA hN
            go_wp2_with fail
            clear x0 x1
            refine (HA.out _).mono ?_
            rintro e w8 ⟨rfl, hq8⟩
            have HB8 := hid (bel_then HB.out HB.out.size hq8)
            clear hq8
            go_wp2_with fail
            refine (HN.out _).mono ?_
            rintro e w9 ⟨rfl, hq9⟩
            have HB9 := hid ((bel_then HB8.out HB8.out.size hq9).alloc (bel_then HB8.out HB8.out.size hq9).size (.cells #[.string z.1, .string z.2] 31))
            obtain ⟨x0, x1⟩ := HXB.out _ HB9.out
            clear hq9
            go_wp2_with fail
            clear x0 x1
            refine (HPT1.out _ (bel_then HB2.out HB2.out.size (bel_then HBK.out HBK.out.size HB9.out))).mono ?_
            rintro e w10 ⟨rfl, hq10⟩
            have HB10 := hid (bel_then HB9.out HB9.out.size hq10)
            clear hq10
            cases P
            all_goals
              go_wp2_with fail
              go_roundg (ks.length - (i + 1))
              case measure => omega
              exact ⟨i + 1, by go_num, by omega, by omega, bel_then HBK.out HBK.out.size HB10.out⟩
    · have hltz : ¬ (i : Int) < (ks.length : Int) := by omega
      go_wp2_with fail
      go_ret
      exact ⟨rfl, HBW.out⟩

end Go.Proofs.YtinmagodckkedaaGreat
