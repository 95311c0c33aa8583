/-
  Texts of this claim, one behind the other: Rr4 Rrv Rr5 Rky Rkz Rfx Rlw.
-/
import Derived.Test.YtinmagodckkedaaPc
import Derived.Test.YtinmagodckkedaaPb
/-
  The walk of Rename of the reference.
-/
namespace Go.Proofs.Ytinmagodckkedaa
open Go.RowKit

theorem RI.form {w1 : World} {p : Option Addr} {n c : Nat} {fs : List Fld} {g : ByteArray → ByteArray} {i j : Nat} {o : List Fx} {W : World} (h : RI w1 (.slice p n c) fs g i j o W) (hpos : 0 < fs.length) : ∃ gr, p = some ⟨gr, 0, none⟩ := by
  have hrow := h.ro.st.own.1.1
  rcases hrow.2 with ⟨_, h0⟩ | ⟨gr, cap, cur, hv, _⟩
  · have := h.ro.len; omega
  · injection hv with h1
    exact ⟨gr, h1⟩

theorem two_boxes {w : World} {T : TypeId} {x1 x2 y1 y2 : Value} {W : World} (hb : Below ((w.alloc (.cells #[x1, x2] T)).alloc (.cells #[y1, y2] T)).heap.size ((w.alloc (.cells #[x1, x2] T)).alloc (.cells #[y1, y2] T)) W) :
    W.cell? ⟨w.heap.size, 0, none⟩ = some x1 ∧ W.cell? ⟨w.heap.size, 1, none⟩ = some x2 ∧ W.cell? ⟨w.heap.size + 1, 0, none⟩ = some y1 ∧ W.cell? ⟨w.heap.size + 1, 1, none⟩ = some y2 := by
  have h0 := heap_alloc_new (w.alloc (.cells #[x1, x2] T)) (.cells #[y1, y2] T)
  rw [World.size_alloc] at h0
  have k0 : ((w.alloc (.cells #[x1, x2] T)).alloc (.cells #[y1, y2] T)).heap[w.heap.size]? = some (.cells #[x1, x2] T (0, 0)) := (Below.heap_alloc _ _ _ (by simp)).trans (heap_alloc_new w _)
  have h1 := (hb.block _ (Array.getElem?_eq_some_iff.1 h0).1).trans h0
  have k1 := (hb.block _ (Array.getElem?_eq_some_iff.1 k0).1).trans k0
  rw [Lib.cell_of_heap h1, Lib.cell_of_heap h1, Lib.cell_of_heap k1, Lib.cell_of_heap k1]
  exact ⟨rfl, rfl, rfl, rfl⟩

set_option maxHeartbeats 8000000 in
set_option maxRecDepth 100000 in
theorem rrename_any (v : Value) (d : List Fx) (a b : Ky) (w : World) (hv : IsXs w v d) (hf : FitX d) (hc : CopyX d) (ha1 : a.1.size ≤ maxLen) (ha2 : a.2.size ≤ maxLen) (hb1 : b.1.size ≤ maxLen) (hb2 : b.2.size ≤ maxLen) :
    Calls Try.prog 13 #[v, .agg #[.string a.1, .string a.2], .agg #[.string b.1, .string b.2]] w fun e w' => AnsJ w (renAns a b (d.map Fx.fld)) (renCode a b) e w' := by
  have HK1 := hid (fun W => rkey_any a.1 a.2 W ha1 ha2)
  have HK2 := hid (fun W => rkey_any b.1 b.2 W hb1 hb2)
  have HBX : Hid (Below w.heap.size w ((w.alloc (.cells #[.string a.1, .string a.2] 31)).alloc (.cells #[.string b.1, .string b.2] 31))) := ((Below.refl _ _).alloc (Nat.le_refl _) _).alloc (by simp) _
  have HTB : Hid (∀ W, Below ((w.alloc (.cells #[.string a.1, .string a.2] 31)).alloc (.cells #[.string b.1, .string b.2] 31)).heap.size ((w.alloc (.cells #[.string a.1, .string a.2] 31)).alloc (.cells #[.string b.1, .string b.2] 31)) W → _) := fun W hW => two_boxes hW
  have hka : keyB a.1 a.2 = keyOK a := rfl
  have hkb : keyB b.1 b.2 = keyOK b := rfl
  rw [hka] at HK1
  rw [hkb] at HK2
  clear hka hkb
  cases ha : keyOK a with
  | false =>
    have HR : Hid (renCode a b = 2 ∧ renAns a b (d.map Fx.fld) = []) := by
      have : ¬ (keyOK a = true ∧ keyOK b = true) := by rw [ha]; simp
      exact ⟨if_neg this, if_neg this⟩
    rw [HR.out.1, HR.out.2]
    rw [ha] at HK1
    obtain ⟨a1, a2⟩ := a
    obtain ⟨b1, b2⟩ := b
    simp only at HK1 HBX ⊢
    clear hv hf ha HR HTB HK2
    go_enter Try.func13, Try.ntmps13
    go_wp2_with fail
    refine (HK1.out _).mono ?_
    rintro e w1 ⟨rfl, hq1⟩
    go_wp2_with fail
    go_ret2
    exact ⟨_, [], rfl, own_noneX _ _, rfl, bel_then HBX.out HBX.out.size hq1⟩
  | true =>
    rw [ha] at HK1
    cases hb : keyOK b with
    | false =>
      have HR : Hid (renCode a b = 2 ∧ renAns a b (d.map Fx.fld) = []) := by
        have : ¬ (keyOK a = true ∧ keyOK b = true) := by rw [hb]; simp
        exact ⟨if_neg this, if_neg this⟩
      rw [HR.out.1, HR.out.2]
      rw [hb] at HK2
      obtain ⟨a1, a2⟩ := a
      obtain ⟨b1, b2⟩ := b
      simp only at HK1 HK2 HBX HTB ⊢
      clear hv hf ha hb HR
      go_enter Try.func13, Try.ntmps13
      go_wp2_with fail
      refine (HK1.out _).mono ?_
      rintro e w1 ⟨rfl, hq1⟩
      obtain ⟨_, _, z0, z1⟩ := HTB.out w1 hq1
      have HB1 := hid (bel_then HBX.out HBX.out.size hq1)
      clear hq1
      go_wp2_with fail
      refine (HK2.out _).mono ?_
      rintro e w2 ⟨rfl, hq2⟩
      go_wp2_with fail
      go_ret2
      exact ⟨_, [], rfl, own_noneX _ _, rfl, bel_then HB1.out HB1.out.size hq2⟩
    | true =>
      have HR : Hid (renCode a b = 0 ∧ renAns a b (d.map Fx.fld) = mapT (renT a b) (d.map Fx.fld)) := by
        have : keyOK a = true ∧ keyOK b = true := ⟨ha, hb⟩
        exact ⟨if_pos this, if_pos this⟩
      rw [HR.out.1, HR.out.2]
      rw [hb] at HK2
      have HV := hid hv
      have HF := hid hf
      have HCP := hid hc
      have HCAT := hid (ref_cat2 b)
      obtain ⟨hs1, hs2⟩ := keyB_sizes (a := b.1) (b := b.2) hb
      have HKN : Hid (∀ t, namedT t ≠ some a → renT a b t = t) := fun t h => if_neg h
      have HKY : Hid (∀ t, namedT t = some a → renT a b t = refT b) := fun t h => if_pos h
      obtain ⟨r, hr⟩ : ∃ r, refT b = r := ⟨_, rfl⟩
      rw [hr] at HCAT HKY
      have HFIT : Hid (∀ f ∈ d.map Fx.fld, ∀ t ∈ f.2, t.size ≤ maxLen) := fun f hf' t ht => by
        obtain ⟨x, hx, rfl⟩ := List.mem_map.1 hf'
        exact (hf.2 x hx).2.2 t ht
      have HLN : Hid ((d.map Fx.fld).length ≤ maxLen ∧ ∀ f ∈ d.map Fx.fld, f.2.length ≤ maxLen) := ⟨by rw [List.length_map]; exact hf.1, fun f hf' => by
        obtain ⟨x, hx, rfl⟩ := List.mem_map.1 hf'
        exact (hf.2 x hx).2.1⟩
      have HFLD : Hid (∀ W, Below w.heap.size w W → Calls Try.prog 27 #[v] W fun e w' => ∃ u o, e = .returned u ∧ OwnJ W.heap.size w' u o ∧ o.map Fx.fld = d.map Fx.fld ∧ Below W.heap.size W w') := fun W hW => fields_any v d W (HV.out.kept hW) HF.out HCP.out
      obtain ⟨fs, hfs⟩ : ∃ fs, d.map Fx.fld = fs := ⟨_, rfl⟩
      rw [hfs] at HFIT HLN HFLD ⊢
      obtain ⟨g, hg⟩ : ∃ g, renT a b = g := ⟨_, rfl⟩
      rw [hg] at HKN HKY ⊢
      obtain ⟨a1, a2⟩ := a
      obtain ⟨b1, b2⟩ := b
      simp only at HK1 HK2 HBX HTB HCAT hs1 hs2 ⊢
      clear hv hf hc ha hb HR hr hfs hg HV HF HCP ha1 ha2 hb1 hb2
      go_enter Try.func13, Try.ntmps13
      go_wp2_with fail
      refine (HK1.out _).mono ?_
      rintro e w1 ⟨rfl, hq1⟩
      obtain ⟨_, _, z0, z1⟩ := HTB.out w1 hq1
      have HB1 := hid (bel_then HBX.out HBX.out.size hq1)
      have HQ1 := hid hq1
      clear hq1
      go_wp2_with fail
      refine (HK2.out _).mono ?_
      rintro e w2 ⟨rfl, hq2⟩
      have HB2 := hid (bel_then HB1.out HB1.out.size hq2)
      have HTB2 : Hid (∀ W, Below w2.heap.size w2 W → _) := fun W hW => HTB.out W (bel_then (bel_then HQ1.out HQ1.out.size hq2) (bel_then HQ1.out HQ1.out.size hq2).size hW)
      clear hq2 z0 z1 HQ1 HB1 HTB HK1 HK2
      go_wp2_with fail
      refine (HFLD.out w2 HB2.out).mono ?_
      rintro e w3 ⟨u, o0, rfl, ho3, hm3, hq3⟩
      obtain ⟨pu, cu, hu⟩ : ∃ p c, u = .slice p o0.length c := by
        rcases ho3.1.1.2 with ⟨rfl, h0⟩ | ⟨g', cap', cur, rfl, _⟩
        · exact ⟨none, 0, by rw [h0]⟩
        · exact ⟨_, _, rfl⟩
      have hol : o0.length = fs.length := by rw [← hm3, List.length_map]
      rw [hol] at hu
      subst hu
      have HRI0 : Hid (RI w2 (.slice pu fs.length cu) fs g 0 0 o0 w3) := ri_start ho3 hm3 hq3
      obtain ⟨hl, hlt⟩ := HLN.out
      have HLT := hid hlt
      unfold maxLen at hl
      clear ho3 hm3 hq3 hol hlt
      go_wp2_with fail
      go_loopg [9] fs.length (fun gg vi wr => ∃ (i : Nat) (o : List Fx), vi = .int .i64 i ∧ i ≤ fs.length ∧ fs.length - i ≤ gg ∧ Hid (RI w2 (.slice pu fs.length cu) fs g i 0 o wr))
      case atStart => exact ⟨0, o0, rfl, by omega, by omega, HRI0.out⟩
      case round =>
        clear HRI0
        obtain ⟨i, o, rfl, hi, hgk, HRI⟩ := hrel
        by_cases hlti : i < fs.length
        · have hltz : (i : Int) < (fs.length : Int) := by omega
          have hiz : (0 : Int) ≤ i := by omega
          obtain ⟨gr, rfl⟩ := HRI.out.form (by omega)
          obtain ⟨nm, ts, hne⟩ : ∃ nm ts, fs[i] = (nm, ts) := ⟨_, _, rfl⟩
          have HT : Hid (∀ t ∈ ts, t.size ≤ maxLen) := by have := HFIT.out _ (List.getElem_mem hlti); rw [hne] at this; exact this
          have htm : ts.length ≤ maxLen := by have := HLT.out _ (List.getElem_mem hlti); rw [hne] at this; exact this
          unfold maxLen at htm
          have HCE : Hid (∀ j o W, RI w2 (.slice (some ⟨gr, 0, none⟩) fs.length cu) fs g i j o W → j ≤ ts.length → _) := fun j o W h hj => RI.cells h rfl hlti hne hj
          have HSK : Hid (∀ j o W, RI w2 (.slice (some ⟨gr, 0, none⟩) fs.length cu) fs g i j o W → (hj : j < ts.length) → g ts[j] = ts[j] → RI w2 (.slice (some ⟨gr, 0, none⟩) fs.length cu) fs g i (j + 1) o W) := fun j o W h hj he => h.skip hlti hne hj he
          have HNX : Hid (∀ j o W, RI w2 (.slice (some ⟨gr, 0, none⟩) fs.length cu) fs g i j o W → ts.length ≤ j → RI w2 (.slice (some ⟨gr, 0, none⟩) fs.length cu) fs g (i + 1) 0 o W) := fun j o W h hj => h.next hlti (by rw [hne]; exact hj)
          clear hne
          go_wp2_with fail
          go_loopg [10] ts.length (fun gg vj wr2 => ∃ (j : Nat) (o : List Fx), vj = .int .i64 j ∧ j ≤ ts.length ∧ ts.length - j ≤ gg ∧ Hid (RI w2 (.slice (some ⟨gr, 0, none⟩) fs.length cu) fs g i j o wr2))
          case atStart => exact ⟨0, o, rfl, by omega, by omega, HRI.out⟩
          case round =>
            clear HRI
            obtain ⟨j, o, rfl, hj, hgj, HRJ⟩ := hrel
            obtain ⟨p5, c5, e0, hrest⟩ := HCE.out j o wr HRJ.out hj
            by_cases hlj : j < ts.length
            · have hljz : (j : Int) < (ts.length : Int) := by omega
              have hjz : (0 : Int) ≤ j := by omega
              obtain ⟨T, rfl, t0, hfz, hTge, hTgr, hstep⟩ := hrest hlj
              have htz := HT.out _ (List.getElem_mem hlj)
              have HSKJ := hid (HSK.out j o wr HRJ.out hlj)
              obtain ⟨t, hte⟩ : ∃ t, ts[j] = t := ⟨_, rfl⟩
              rw [hte] at t0 htz hstep HSKJ
              obtain ⟨k, bb, hN, hcall⟩ := rnamed_is t htz
              have HC := hid hcall
              have HFZ := hid hfz
              have HST := hid hstep
              have HBJ := hid HRJ.out.ro.below
              have HN := hid hN
              obtain ⟨k1, k2⟩ := k
              simp only at HC
              clear hfz hstep hcall hN hte hrest
              go_wp2_with fail
              refine (HC.out _).mono ?_
              rintro e w4 ⟨rfl, hq4⟩
              obtain ⟨W5, hW5⟩ : ∃ W5, w4.alloc (.cells #[.string k1, .string k2] 31) = W5 := ⟨_, rfl⟩
              have hb5 : Below wr.heap.size wr W5 := by rw [← hW5]; exact hq4.alloc hq4.size _
              have HB5 := hid hb5
              obtain ⟨B5, hB5⟩ : ∃ B5, w4.heap.size = B5 := ⟨_, rfl⟩
              have y0 : W5.cell? ⟨B5, 0, none⟩ = some (.string k1) := by rw [← hW5, ← hB5, Lib.cell_of_heap (heap_alloc_new w4 _)]; rfl
              have y1 : W5.cell? ⟨B5, 1, none⟩ = some (.string k2) := by rw [← hW5, ← hB5, Lib.cell_of_heap (heap_alloc_new w4 _)]; rfl
              obtain ⟨x0, x1, z0, z1⟩ := HTB2.out W5 (bel_then HBJ.out HBJ.out.size hb5)
              have d0 := kept hb5 e0
              have d1 := kept hb5 t0
              have d2 := HFZ.out W5 hb5
              clear hq4 hb5 e0 t0 HC HTB2
              cases bb with
              | false =>
                have HGT : Hid (g t = t) := HKN.out t (by
                  rcases HN.out with ⟨_, h⟩ | ⟨h, _⟩
                  · cases h
                  · rw [h]; simp)
                have HRN := hid ((HSKJ.out HGT.out).on HB5.out)
                go_wp2_with fail
                try rw [hW5]
                go_roundg (ts.length - (j + 1))
                case measure => omega
                exact ⟨j + 1, o, by go_num, by omega, by omega, HRN.out⟩
              | true =>
                have HNT : Hid (namedT t = some (k1, k2)) := by
                  rcases HN.out with ⟨h, _⟩ | ⟨_, h⟩
                  · exact h
                  · cases h
                have heq := fun W => Z.eql_key k1 k2 a1 a2 W
                rw [Z.eqK_iff (k1, k2) (a1, a2)] at heq
                by_cases hka : (k1, k2) = (a1, a2)
                · have hd := decide_eq_true hka
                  rw [hd] at heq
                  have HGT : Hid (g t = r) := HKY.out t (by rw [HNT.out, hka])
                  rw [HGT.out] at HST
                  rw [← HCAT.out] at HST
                  have HRN := hid (HST.out W5 HB5.out)
                  clear hka hd HST
                  go_upto_region 12 with fail
                  try rw [hB5]
                  try rw [hW5]
                  clear hW5 hB5
                  go_region
                  go_wp2_with fail
                  go_roundg (ts.length - (j + 1))
                  case measure => omega
                  exact ⟨j + 1, _, by go_num, by omega, by omega, HRN.out.on (bel_drewN (Below.refl _ _) 1)⟩
                · have hd := decide_eq_false hka
                  rw [hd] at heq
                  have HGT : Hid (g t = t) := HKN.out t (by rw [HNT.out]; intro e; exact hka (Option.some.inj e))
                  have HRN := hid ((HSKJ.out HGT.out).on HB5.out)
                  clear hka hd
                  go_wp2_with fail
                  try rw [hW5]
                  go_roundg (ts.length - (j + 1))
                  case measure => omega
                  exact ⟨j + 1, o, by go_num, by omega, by omega, HRN.out⟩
            · have hljz : ¬ (j : Int) < (ts.length : Int) := by omega
              have HRN := hid (HNX.out j o wr HRJ.out (by omega))
              clear hrest
              go_wp2_with fail
              go_roundg (fs.length - (i + 1))
              case measure => omega
              exact ⟨i + 1, o, by go_num, by omega, by omega, HRN.out⟩
        · have hltz : ¬ (i : Int) < (fs.length : Int) := by omega
          go_wp2_with fail
          go_ret2
          exact ⟨_, o, rfl, own_weakJ HRI.out.ro.st.own HB2.out.size, HRI.out.done (by omega), bel_then HB2.out HB2.out.size HRI.out.ro.below⟩

end Go.Proofs.Ytinmagodckkedaa

/-
  The contract of Resolve of package refs.
-/
namespace Go.Proofs.Ytinmagodckkedaa
open Go.RowKit Go.Lib Go.Maps

set_option maxHeartbeats 2000000 in
theorem resolve1_any (C b : Nat) (bs : List Bd) (t : ByteArray) (w : World) (hC : w.cell? ⟨C, 0, none⟩ = some (.map (some b))) (hM : MapB w b bs) (hf : FitB bs) (hn : (bs.map (·.1)).Nodup) (hk : ∀ x ∈ bs, keyOK x.2 = true) (ht : t.size ≤ maxLen)
    (hbd : ∀ n, tempT t = some n → (boundT bs n).isSome = true) :
    Calls Try.prog 22 #[.string t, .pointer (some ⟨C, 0, none⟩)] w fun e w' => e = .returned (.string (resT bs t)) ∧ Below w.heap.size w w' := by
  obtain ⟨r, bb, hT, hcall⟩ := tempOf_is t ht
  have HC := hid hcall
  rcases hT with ⟨hT, rfl⟩ | ⟨hT, rfl⟩
  · have hsz := temp_size hT
    obtain ⟨k, hbk⟩ := Option.isSome_iff_exists.1 (hbd r hT)
    have hkk := hk _ (bound_mem hbk)
    simp only at hkk
    have hget : ∀ m, (Instr.lookup 54 (.map (some b)) (.string r) false).run Try.prog (w.drewN m) = .ok (.agg #[.string k.1, .string k.2]) (w.drewN m) := fun m => by
      have := mapB_get (hM.on (bel_drewN (Below.refl _ w) m)) hf hn (n := r) (by omega)
      rw [hbk] at this
      exact this
    have HR : Hid (resT bs t = refT k) := by show _ = _; unfold resT; rw [hT]; simp only [hbk]
    rw [HR.out]
    have HTX := hid (fun W => text_yes k W hkk)
    obtain ⟨s, hs⟩ : ∃ s, refT k = s := ⟨_, rfl⟩
    rw [hs] at HTX ⊢
    obtain ⟨k1, k2⟩ := k
    simp only at HTX hget
    clear hM hf hn hk hbd hcall hT hbk hkk hs HR hsz
    go_enter Try.func22, Try.ntmps22
    go_wp2_with fail
    refine (HC.out _).mono ?_
    rintro e w1 ⟨rfl, n1, rfl⟩
    go_wp2_with fail
    refine (HTX.out _).mono ?_
    rintro e w2 ⟨rfl, hq2⟩
    go_wp2_with fail
    go_ret
    exact ⟨rfl, bel_then (bel_drewN (Below.refl _ _) n1) (Nat.le_refl _) hq2⟩
  · have HR : Hid (resT bs t = t) := res_stays hT
    rw [HR.out]
    clear hM hf hn hk hbd hcall hT HR
    go_enter Try.func22, Try.ntmps22
    go_wp2_with fail
    refine (HC.out _).mono ?_
    rintro e w1 ⟨rfl, n1, rfl⟩
    go_wp2_with fail
    go_ret
    exact ⟨rfl, bel_drewN (Below.refl _ _) n1⟩

theorem unbound_some {bs : List Bd} {t n : ByteArray} (h : tempT t = some n) : unboundT bs t = (boundT bs n).isNone := by unfold unboundT; rw [h]
theorem unbound_none {bs : List Bd} {t : ByteArray} (h : tempT t = none) : unboundT bs t = false := by unfold unboundT; rw [h]

theorem unbound_temps {bs : List Bd} {fs : List Fld} : (textsF fs).any (unboundT bs) = true ↔ ∃ n ∈ tempsF fs, (boundT bs n).isSome = false := by
  rw [List.any_eq_true]
  constructor
  · rintro ⟨t, ht, hu⟩
    cases hT : tempT t with
    | none => rw [unbound_none hT] at hu; cases hu
    | some n =>
      rw [unbound_some hT] at hu
      exact ⟨n, (told_mem totB tempT (textsF fs) n).2 ⟨t, ht, hT⟩, by simpa using hu⟩
  · rintro ⟨n, hn, hb⟩
    obtain ⟨t, ht, hT⟩ := (told_mem totB tempT (textsF fs) n).1 hn
    exact ⟨t, ht, by rw [unbound_some hT]; simpa using hb⟩

theorem tempsF_len (fs : List Fld) : (tempsF fs).length ≤ (textsF fs).length := by
  rw [← temps_sort, ← order_once]
  refine Nat.le_trans (onceT_len _) ?_
  rw [orderT_len]
  exact List.length_filterMap_le _ _

theorem temp_le {fs : List Fld} {n : ByteArray} {B : Nat} (h : ∀ t ∈ textsF fs, t.size ≤ B) (hn : n ∈ tempsF fs) : n.size ≤ B := by
  obtain ⟨t, ht, e⟩ := (told_mem totB tempT (textsF fs) n).1 hn
  have := temp_size e
  have := h t ht
  omega

/-- What Resolve answers. -/
def rsCode (bs : List Bd) (fs : List Fld) : Int := resCode 2 16 15 bs fs

set_option maxHeartbeats 4000000 in
set_option maxRecDepth 100000 in
theorem resolve_any (v vb : Value) (d : List Fx) (bs : List Bd) (w : World) (hv : IsXs w v d) (hvb : KB.Is w vb bs) (hf : FitX d) (hc : CopyX d) (hT : (txtsX d).length ≤ 2000000) (hfb : FitBd bs) :
    Calls Try.prog 9 #[v, vb] w fun e w' => AnsJ w (resAns bs (d.map Fx.fld)) (rsCode bs (d.map Fx.fld)) e w' := by
  have HB0 := hid (bound_is vb bs w hvb hfb)
  have HV := hid hv
  have HF := hid hf
  have HCP := hid hc
  have HFB := hid hfb
  have HTT := hid hT
  clear hv hvb hf hc hT hfb
  go_enter Try.func9, Try.ntmps9
  go_wp2_with fail
  refine HB0.out.mono ?_
  rintro e w1 ⟨hq1, hcase⟩
  clear HB0
  rcases hcase with ⟨ha, rfl⟩ | ⟨ha, hn, rfl⟩ | ⟨ha, hn, b, rfl, hbw, hM⟩
  · have HR : Hid (rsCode bs (d.map Fx.fld) = 2 ∧ resAns bs (d.map Fx.fld) = []) := ⟨if_pos ha, if_neg fun h => by rw [ha] at h; cases h.1⟩
    clear ha
    go_wp2_with fail
    go_ret2
    exact ⟨_, [], by rw [HR.out.1]; rfl, own_noneX _ _, by rw [HR.out.2]; rfl, hq1.alloc hq1.size _⟩
  · have HR : Hid (rsCode bs (d.map Fx.fld) = 16 ∧ resAns bs (d.map Fx.fld) = []) := ⟨by unfold rsCode resCode; rw [if_neg (by rw [ha]; simp), if_pos hn], if_neg fun h => hn h.2.1⟩
    clear ha hn
    go_wp2_with fail
    go_ret2
    exact ⟨_, [], by rw [HR.out.1]; rfl, own_noneX _ _, by rw [HR.out.2]; rfl, hq1.alloc hq1.size _⟩
  · have HB1 := hid (hq1.alloc hq1.size (.cells #[.map (some b)] 54))
    have HM1 := hid (hM.on ((Below.refl _ w1).alloc (Nat.le_refl _) (.cells #[.map (some b)] 54)))
    have HA := hid ha
    have HN := hid hn
    have hcell : (w1.alloc (.cells #[.map (some b)] 54)).cell? ⟨w1.heap.size, 0, none⟩ = some (.map (some b)) := by rw [Lib.cell_of_heap (heap_alloc_new w1 _)]; rfl
    have HCL := hid hcell
    clear hq1 ha hn hbw hM hcell
    obtain ⟨W1, hW1⟩ : ∃ W1, w1.alloc (.cells #[.map (some b)] 54) = W1 := ⟨_, rfl⟩
    obtain ⟨C, hC⟩ : ∃ C, w1.heap.size = C := ⟨_, rfl⟩
    have HTM := hid (temps_any v d W1 (HV.out.kept (by rw [← hW1]; exact HB1.out)) HF.out HTT.out)
    rw [hW1] at HB1 HM1 HCL
    rw [hC] at HCL
    go_wp2_with fail
    try rw [hC]
    try rw [hW1]
    refine HTM.out.mono ?_
    rintro e w2 ⟨u2, rfl, ho2, hq2⟩
    clear hW1 hC HTM
    have hl2 := tempsF_len (d.map Fx.fld)
    rw [txtsX_flds] at hl2
    have htot := HTT.out
    have HSZ : Hid (∀ n ∈ tempsF (d.map Fx.fld), n.size ≤ maxLen) := fun n hn => temp_le (fun t ht => by
      rw [txtsX_flds] at ht
      obtain ⟨x, hx, hxt⟩ := txtsX_mem.1 ht
      exact (HF.out.2 x hx).2.2 t hxt) hn
    obtain ⟨G, hG⟩ : ∃ G, tempsF (d.map Fx.fld) = G := ⟨_, rfl⟩
    rw [hG] at ho2 hl2 HSZ
    have HG := hid hG
    obtain ⟨p2, c2, rfl⟩ := own_slice ho2
    have HTX := hid (OwnT.txtAt ho2)
    have HB2 := hid (bel_then HB1.out HB1.out.size hq2)
    have HM2 := hid (HM1.out.on hq2)
    have HC2 := hid (kept hq2 HCL.out)
    clear ho2 hq2 hG HB1 HM1 HCL
    go_wp2_with fail
    go_loopg [23] G.length (fun g vi wr => ∃ i : Nat, vi = .int .i64 i ∧ i ≤ G.length ∧ G.length - i ≤ g ∧ Hid (Below w2.heap.size w2 wr) ∧ Hid (∀ j, (h : j < G.length) → j < i → (boundT bs G[j]).isSome = true))
    case atStart => exact ⟨0, rfl, by omega, by omega, Below.refl _ _, fun j _ h => by omega⟩
    case round =>
      obtain ⟨i, rfl, hi, hgk, HB, HS⟩ := hrel
      have hcr : wr.cell? ⟨C, 0, none⟩ = some (.map (some b)) := kept HB.out HC2.out
      have HMR := hid (HM2.out.on HB.out)
      by_cases hlt : i < G.length
      · have hltz : (i : Int) < (G.length : Int) := by omega
        have hiz : (0 : Int) ≤ i := by omega
        obtain ⟨b3, o3, rfl, ht3⟩ : ∃ b o, p2 = some ⟨b, o, none⟩ ∧ ∀ i, (h : i < G.length) → w2.cell? ⟨b, o + i, none⟩ = some (.string G[i]) := by
          rcases HTX.out with h | h
          · rw [h] at hlt; simp at hlt
          · exact h
        have t0 : wr.cell? ⟨b3, o3 + i, none⟩ = some (.string G[i]) := (HB.out.cell (p := ⟨b3, o3 + i, none⟩) (cell_block (ht3 i hlt))).trans (ht3 i hlt)
        have hmem := List.getElem_mem hlt
        have hlook := mapB_look HMR.out HFB.out.fitB HN.out (n := G[i]) (HSZ.out _ hmem)
        have HME := hid hmem
        have HST : Hid (∀ B, (boundT bs G[i]).isSome = B → B = true → ∀ j, (h : j < G.length) → j < i + 1 → (boundT bs G[j]).isSome = true) := fun B e1 e2 j h hj => by
          by_cases e : j = i
          · subst e; rw [e1, e2]
          · exact HS.out j h (by omega)
        obtain ⟨B, hB⟩ : ∃ B, (boundT bs G[i]).isSome = B := ⟨_, rfl⟩
        have HBB := hid hB
        rw [hB] at hlook
        obtain ⟨k, hk⟩ : ∃ k, keyOr (boundT bs G[i]) = k := ⟨_, rfl⟩
        rw [hk] at hlook
        obtain ⟨t, hte⟩ : ∃ t, G[i] = t := ⟨_, rfl⟩
        have HTE := hid hte
        rw [hte] at t0 hlook
        obtain ⟨k1, k2⟩ := k
        simp only at hlook
        have hsz := HB.out.size
        clear ht3 hmem hB hk hte
        cases B with
        | true =>
          go_wp2_with fail
          go_roundg (G.length - (i + 1))
          case measure => omega
          exact ⟨i + 1, by go_num, by omega, by omega, HB.out.alloc hsz _, HST.out true HBB.out rfl⟩
        | false =>
          have HU : Hid ((textsF (d.map Fx.fld)).any (unboundT bs) = true) := unbound_temps.2 ⟨_, by rw [HG.out]; exact HME.out, HBB.out⟩
          have HR : Hid (rsCode bs (d.map Fx.fld) = 15 ∧ resAns bs (d.map Fx.fld) = []) := ⟨by unfold rsCode resCode; rw [if_neg (by rw [HA.out]; simp), if_neg (fun h => h HN.out), if_pos HU.out], if_neg fun h => by rw [HU.out] at h; cases h.2.2⟩
          go_wp2_with fail
          go_ret2
          exact ⟨_, [], by rw [HR.out.1]; rfl, own_noneX _ _, by rw [HR.out.2]; rfl, (bel_then HB2.out HB2.out.size HB.out).alloc (bel_then HB2.out HB2.out.size HB.out).size _⟩
      · have hltz : ¬ (i : Int) < (G.length : Int) := by omega
        have HU : Hid ((textsF (d.map Fx.fld)).any (unboundT bs) = false) := by
          show _ = _
          cases h : (textsF (d.map Fx.fld)).any (unboundT bs) with
          | false => rfl
          | true =>
            obtain ⟨n, hn, hb⟩ := unbound_temps.1 h
            rw [HG.out] at hn
            obtain ⟨j, hj, rfl⟩ := List.mem_iff_getElem.1 hn
            rw [HS.out j hj (by omega)] at hb
            cases hb
        have HR : Hid (rsCode bs (d.map Fx.fld) = 0 ∧ resAns bs (d.map Fx.fld) = mapT (resT bs) (d.map Fx.fld)) := ⟨by unfold rsCode resCode; rw [if_neg (by rw [HA.out]; simp), if_neg (fun h => h HN.out), if_neg (by rw [HU.out]; simp)], if_pos ⟨HA.out, HN.out, HU.out⟩⟩
        have HBR := hid (bel_then HB2.out HB2.out.size HB.out)
        have HK : Hid (∀ x ∈ bs, keyOK x.2 = true) := fun x hx => by
          have := List.all_eq_true.1 HA.out x hx
          simp only [bindOK, Bool.and_eq_true] at this
          exact this.2
        have HCR := hid hcr
        have HCH := hid (changed_any 22 #[.pointer (some ⟨C, 0, none⟩)] (resT bs) v d wr (HV.out.kept HBR.out) HF.out (by have := HCP.out.1; omega) (fun x hx => by have := HCP.out.2 x hx; omega) enters_resolve1 (fun t ht W hW => by
          refine resolve1_any C b bs t W ((hW.cell (p := ⟨C, 0, none⟩) (cell_block HCR.out)).trans HCR.out) (HMR.out.on hW) HFB.out.fitB HN.out HK.out ?_ (fun n hn => ?_)
          · obtain ⟨x, hx, hxt⟩ := txtsX_mem.1 ht
            exact (HF.out.2 x hx).2.2 t hxt
          · have := List.any_eq_false.1 HU.out t (by rw [txtsX_flds]; exact ht)
            rw [unbound_some hn] at this
            cases hb : boundT bs n with
            | none => rw [hb] at this; simp at this
            | some k => rfl))
        clear hcr
        go_wp2_with fail
        refine HCH.out.mono ?_
        rintro e w3 ⟨u3, o3, rfl, hj3, hm3, hq3⟩
        have HJ3 := hid hj3
        have HM3 := hid hm3
        clear hj3 hm3 HCH
        go_wp2_with fail
        go_ret2
        exact ⟨_, o3, by rw [HR.out.1]; rfl, own_weakJ HJ3.out HBR.out.size, by rw [HR.out.2]; exact HM3.out, bel_then HBR.out HBR.out.size hq3⟩

end Go.Proofs.Ytinmagodckkedaa

/-
  The walk of Resolve of the reference.
-/
namespace Go.Proofs.Ytinmagodckkedaa
open Go.RowKit

theorem insR_perm {α : Type} [DecidableEq α] (lt : α → α → Bool) (x : α) : ∀ l : List α, x ∉ l → (insR lt x l).Perm (x :: l)
  | [], _ => List.Perm.refl _
  | y :: r, h => by
    simp only [List.mem_cons, not_or] at h
    unfold insR
    split
    · exact List.Perm.refl _
    · rw [if_neg h.1]
      exact ((insR_perm lt x r h.2).cons y).trans (List.Perm.swap x y r)

def namesR (bs : List Bd) : List ByteArray := bs.foldl (fun acc b => insR ltB b.1 acc) []
theorem namesR_snoc (bs : List Bd) (x : Bd) : namesR (bs ++ [x]) = insR ltB x.1 (namesR bs) := by simp [namesR]

theorem namesR_spec : ∀ bs : List Bd, RisingR ltB (namesR bs) ∧ (∀ z, z ∈ namesR bs ↔ z ∈ bs.map (·.1)) ∧ (namesR bs).length ≤ bs.length ∧ ((namesR bs).length = bs.length ↔ (bs.map (·.1)).Nodup) := by
  refine snoc_ind ⟨List.Pairwise.nil, fun z => by simp [namesR], by simp [namesR], by simp [namesR]⟩ fun bs x ih => ?_
  obtain ⟨i1, i2, i3, i4⟩ := ih
  rw [namesR_snoc, List.length_append, List.map_append]
  refine ⟨rising_insR totB _ i1, fun z => ?_, ?_, ?_⟩
  · rw [mem_insR, i2, List.mem_append]
    simp [or_comm]
  · by_cases h : x.1 ∈ namesR bs
    · rw [insR_there totB i1 h]; simp; omega
    · rw [(insR_perm ltB x.1 _ h).length_eq]; simp; omega
  · by_cases h : x.1 ∈ namesR bs
    · rw [insR_there totB i1 h]
      constructor
      · intro e; simp at e; omega
      · intro e
        exact absurd rfl ((List.nodup_append.1 e).2.2 x.1 ((i2 _).1 h) x.1 (by simp))
    · rw [(insR_perm ltB x.1 _ h).length_eq]
      constructor
      · intro e
        have e' : (namesR bs).length = bs.length := by simp at e; exact e
        refine List.nodup_append.2 ⟨i4.1 e', by simp, fun a ha c hc => ?_⟩
        simp at hc
        rintro rfl
        exact h ((i2 _).2 (by rw [← hc]; exact ha))
      · intro e
        have := i4.2 (List.nodup_append.1 e).1
        simp [this]

set_option maxHeartbeats 8000000 in
set_option maxRecDepth 100000 in
theorem rresolve_any (v vb : Value) (d : List Fx) (bs : List Bd) (w : World) (hv : IsXs w v d) (hvb : KB.Is w vb bs) (hf : FitX d) (hc : CopyX d) (hfb : FitBd bs) :
    Calls Try.prog 10 #[v, vb] w fun e w' => AnsJ w (resAns bs (d.map Fx.fld)) (rsCode bs (d.map Fx.fld)) e w' := by
  have HVB := hid hvb
  obtain ⟨p, cap, rfl, hd⟩ := hvb
  have HD := hid hd
  have HFB := hid hfb
  have hl := hfb.1
  have HV := hid hv
  have HF := hid hf
  have HCP := hid hc
  have HFLD : Hid (∀ W, Below w.heap.size w W → Calls Try.prog 27 #[v] W fun e w' => ∃ u o, e = .returned u ∧ OwnJ W.heap.size w' u o ∧ o.map Fx.fld = d.map Fx.fld ∧ Below W.heap.size W w') := fun W hW => fields_any v d W (HV.out.kept hW) HF.out HCP.out
  have HFIT : Hid (∀ f ∈ d.map Fx.fld, ∀ t ∈ f.2, t.size ≤ maxLen) := fun f hf' t ht => by
    obtain ⟨x, hx, rfl⟩ := List.mem_map.1 hf'
    exact (hf.2 x hx).2.2 t ht
  have HLN : Hid ((d.map Fx.fld).length ≤ maxLen ∧ ∀ f ∈ d.map Fx.fld, f.2.length ≤ maxLen) := ⟨by rw [List.length_map]; exact hf.1, fun f hf' => by
    obtain ⟨x, hx, rfl⟩ := List.mem_map.1 hf'
    exact (hf.2 x hx).2.1⟩
  obtain ⟨fs, hfs⟩ : ∃ fs, d.map Fx.fld = fs := ⟨_, rfl⟩
  rw [hfs] at HFIT HLN HFLD ⊢
  clear hv hf hc hfb hd hfs HV HF HCP
  go_enter Try.func10, Try.ntmps10
  go_wp2_with fail
  go_loopg [6] bs.length (fun g vi wr => ∃ i : Nat, vi = .int .i64 i ∧ i ≤ bs.length ∧ bs.length - i ≤ g ∧ Hid (Below w.heap.size w wr) ∧ Hid ((bs.take i).all bindOK = true))
  case atStart => exact ⟨0, rfl, by omega, by omega, Below.refl _ _, rfl⟩
  case round =>
    obtain ⟨i, rfl, hi, hgk, HB, HA⟩ := hrel
    by_cases hlt : i < bs.length
    · have hltz : (i : Int) < (bs.length : Int) := by omega
      have hiz : (0 : Int) ≤ i := by omega
      obtain ⟨b, off, rfl, hat⟩ : ∃ b off, p = some ⟨b, off, none⟩ ∧ KB.At w b off bs := by
        rcases HD.out with h | h
        · subst h; simp at hlt
        · exact h
      obtain ⟨c0, c1, c2⟩ := kb_at (Kind.at_kept hat HB.out) i hlt
      obtain ⟨f0, f1, f2⟩ := HFB.out.2 _ (List.getElem_mem hlt)
      have hmem := List.getElem_mem hlt
      have htk : bs.take (i + 1) = bs.take i ++ [bs[i]] := List.take_succ_eq_append_getElem hlt
      obtain ⟨x, hx⟩ : ∃ x, bs[i] = x := ⟨_, rfl⟩
      rw [hx] at c0 c1 c2 f0 f1 f2 hmem htk
      obtain ⟨nm, ka, kb⟩ := x
      simp only at c0 c1 c2 f0 f1 f2
      have HT := hid (fun W => rtemp_any nm W f0)
      have HK := hid (fun W => rkey_any ka kb W f1 f2)
      have hbd : bindOK (nm, ka, kb) = (tempB nm.data.toList && keyB ka kb) := rfl
      have HBD := hid hbd
      have HTK := hid htk
      have HME := hid hmem
      have hsz := HB.out.size
      clear hat hx hmem htk hbd f0 f1 f2
      cases hT : tempB nm.data.toList with
      | false =>
        rw [hT] at HT
        have HX : Hid (bs.all bindOK = false) := by
          show _ = _
          rw [List.all_eq_false]
          exact ⟨_, HME.out, by rw [HBD.out, hT]; simp⟩
        have HR : Hid (rsCode bs fs = 2 ∧ resAns bs fs = []) := ⟨if_pos HX.out, if_neg fun h => by rw [HX.out] at h; cases h.1⟩
        go_wp2_with fail
        refine (HT.out _).mono ?_
        rintro e w1 ⟨rfl, rfl⟩
        go_wp2_with fail
        go_ret2
        exact ⟨_, [], by rw [HR.out.1]; rfl, own_noneX _ _, by rw [HR.out.2]; rfl, HB.out⟩
      | true =>
        rw [hT] at HT
        cases hK : keyB ka kb with
        | false =>
          rw [hK] at HK
          have HX : Hid (bs.all bindOK = false) := by
            show _ = _
            rw [List.all_eq_false]
            exact ⟨_, HME.out, by rw [HBD.out, hT, hK]; simp⟩
          have HR : Hid (rsCode bs fs = 2 ∧ resAns bs fs = []) := ⟨if_pos HX.out, if_neg fun h => by rw [HX.out] at h; cases h.1⟩
          go_wp2_with fail
          refine (HT.out _).mono ?_
          rintro e w1 ⟨rfl, rfl⟩
          go_wp2_with fail
          refine (HK.out _).mono ?_
          rintro e w2 ⟨rfl, hq2⟩
          go_wp2_with fail
          go_ret2
          exact ⟨_, [], by rw [HR.out.1]; rfl, own_noneX _ _, by rw [HR.out.2]; rfl, bel_then HB.out HB.out.size hq2⟩
        | true =>
          rw [hK] at HK
          have HX : Hid (bindOK (nm, ka, kb) = true) := by show _ = _; rw [HBD.out, hT, hK]; rfl
          go_wp2_with fail
          refine (HT.out _).mono ?_
          rintro e w1 ⟨rfl, rfl⟩
          go_wp2_with fail
          refine (HK.out _).mono ?_
          rintro e w2 ⟨rfl, hq2⟩
          go_wp2_with fail
          go_roundg (bs.length - (i + 1))
          case measure => omega
          refine ⟨i + 1, by go_num, by omega, by omega, bel_then HB.out HB.out.size hq2, ?_⟩
          rw [HTK.out]
          show _ = _
          rw [List.all_append, HA.out]
          simpa using HX.out
    · have hltz : ¬ (i : Int) < (bs.length : Int) := by omega
      have hti : bs.take i = bs := List.take_of_length_le (by omega)
      rw [hti] at HA
      obtain ⟨M, hM⟩ : ∃ M, wr.heap.size = M := ⟨_, rfl⟩
      obtain ⟨W0, hW0⟩ : ∃ W0, wr = W0 := ⟨_, rfl⟩
      rw [hW0] at HB hM
      have HM := hid hM
      have HE0 : Hid (KT.Own M W0 (.slice none 0 0) (namesR (bs.take 0))) := by show KT.Own _ _ _ _; rw [List.take_zero]; exact KT.own_nil _ _
      have HB0 : Hid (Below M W0 W0) := Below.refl _ _
      clear hti
      go_wp2_with fail
      go_loopg [7, 8] bs.length (fun g vs vi wr => ∃ i : Nat, vi = .int .i64 i ∧ i ≤ bs.length ∧ bs.length - i ≤ g ∧ Hid (KT.Own M wr vs (namesR (bs.take i))) ∧ Hid (Below M W0 wr))
      case atStart => exact ⟨0, rfl, by omega, by omega, HE0.out, HB0.out⟩
      case round =>
        clear HE0 HB0 hW0 hM
        obtain ⟨i, rfl, hi, hgk, HO, HBN⟩ := hrel
        have hbw : Below w.heap.size w wr := bel_then HB.out HB.out.size (by rw [HM.out]; exact HBN.out)
        have hMs : M ≤ wr.heap.size := by have := HBN.out.size; have h2 := HM.out; omega
        by_cases hlt : i < bs.length
        · have hltz : (i : Int) < (bs.length : Int) := by omega
          have hiz : (0 : Int) ≤ i := by omega
          obtain ⟨b, off, rfl, hat⟩ : ∃ b off, p = some ⟨b, off, none⟩ ∧ KB.At w b off bs := by
            rcases HD.out with h | h
            · subst h; simp at hlt
            · exact h
          obtain ⟨c0, _, _⟩ := kb_at (Kind.at_kept hat hbw) i hlt
          have htk : bs.take (i + 1) = bs.take i ++ [bs[i]] := List.take_succ_eq_append_getElem hlt
          have hnx : namesR (bs.take (i + 1)) = insR ltB (bs[i]).1 (namesR (bs.take i)) := by rw [htk, namesR_snoc]
          obtain ⟨s1, _, s3, _⟩ := namesR_spec (bs.take i)
          have hnl : (namesR (bs.take i)).length ≤ 2000000 := by rw [List.length_take] at s3; omega
          obtain ⟨nm, hnm⟩ : ∃ nm, (bs[i]).1 = nm := ⟨_, rfl⟩
          rw [hnm] at c0 hnx
          have HNX := hid hnx
          have HPUT := hid (rput_any M u7 (namesR (bs.take i)) nm wr HO.out hMs s1 hnl)
          clear hat htk hnx s1 s3 hnm hbw
          go_wp2_with fail
          refine HPUT.out.mono ?_
          rintro e w2 ⟨u2, rfl, ho2, hq2⟩
          have HO2 := hid ho2
          have HQ2 := hid hq2
          clear ho2 hq2 HPUT
          go_wp2_with fail
          go_roundg (bs.length - (i + 1))
          case measure => omega
          refine ⟨i + 1, by go_num, by omega, by omega, ?_, HBN.out.trans HQ2.out⟩
          rw [HNX.out]
          exact HO2.out
        · have hltz : ¬ (i : Int) < (bs.length : Int) := by omega
          have hti : bs.take i = bs := List.take_of_length_le (by omega)
          rw [hti] at HO
          obtain ⟨_, _, s3, s4⟩ := namesR_spec bs
          obtain ⟨pn, cn, hsl⟩ := Kind.own_shape HO.out
          subst hsl
          have S4 := hid s4
          obtain ⟨L, hL⟩ : ∃ L, (namesR bs).length = L := ⟨_, rfl⟩
          rw [hL] at s3 S4
          have HBW := hid hbw
          clear hti s4 hbw HO
          by_cases hlt2 : L < bs.length
          · have hz2 : (L : Int) < (bs.length : Int) := by omega
            have HN : Hid (¬ (bs.map (·.1)).Nodup) := fun h => by have := S4.out.2 h; omega
            have HR : Hid (rsCode bs fs = 16 ∧ resAns bs fs = []) := ⟨by unfold rsCode resCode; rw [if_neg (by rw [HA.out]; simp), if_pos HN.out], if_neg fun h => HN.out h.2.1⟩
            go_wp2_with fail
            go_ret2
            exact ⟨_, [], by rw [HR.out.1]; rfl, own_noneX _ _, by rw [HR.out.2]; rfl, HBW.out⟩
          · have hz2 : ¬ (L : Int) < (bs.length : Int) := by omega
            have HN : Hid ((bs.map (·.1)).Nodup) := S4.out.1 (by omega)
            have HFW := hid (HFLD.out wr HBW.out)
            obtain ⟨w2, hw2⟩ : ∃ w2, wr = w2 := ⟨_, rfl⟩
            rw [hw2] at HFW HBW
            go_wp2_with fail
            try rw [hw2]
            refine HFW.out.mono ?_
            rintro e w3 ⟨u, o0, rfl, ho3, hm3, hq3⟩
            clear hw2 HFW HFLD HB HBN HM HD
            obtain ⟨pu, cu, hu⟩ : ∃ p c, u = .slice p o0.length c := by
              rcases ho3.1.1.2 with ⟨rfl, h0⟩ | ⟨g', cap', cur, rfl, _⟩
              · exact ⟨none, 0, by rw [h0]⟩
              · exact ⟨_, _, rfl⟩
            have hol : o0.length = fs.length := by rw [← hm3, List.length_map]
            rw [hol] at hu
            subst hu
            have HK : Hid (∀ x ∈ bs, keyOK x.2 = true) := fun x hx => by
              have := List.all_eq_true.1 HA.out x hx
              simp only [bindOK, Bool.and_eq_true] at this
              exact this.2
            have HRI0 : Hid (RI w2 (.slice pu fs.length cu) fs (resT bs) 0 0 o0 w3) := ri_start ho3 hm3 hq3
            obtain ⟨hlf, hltf⟩ := HLN.out
            have HLT := hid hltf
            unfold maxLen at hlf
            clear ho3 hm3 hq3 hol hltf
            go_wp2_with fail
            go_loopg [10] fs.length (fun gg vi wr => ∃ (i : Nat) (o : List Fx), vi = .int .i64 i ∧ i ≤ fs.length ∧ fs.length - i ≤ gg ∧ Hid (RI w2 (.slice pu fs.length cu) fs (resT bs) i 0 o wr) ∧ Hid (∀ k, (h : k < fs.length) → k < i → ∀ t ∈ (fs[k]).2, unboundT bs t = false))
            case atStart => exact ⟨0, o0, rfl, by omega, by omega, HRI0.out, fun k _ h => by omega⟩
            case round =>
              clear HRI0
              obtain ⟨i, o, rfl, hi, hgk, HRI, HSE⟩ := hrel
              by_cases hlti : i < fs.length
              · have hltz : (i : Int) < (fs.length : Int) := by omega
                have hiz : (0 : Int) ≤ i := by omega
                obtain ⟨gr, rfl⟩ := HRI.out.form (by omega)
                obtain ⟨nm, ts, hne⟩ : ∃ nm ts, fs[i] = (nm, ts) := ⟨_, _, rfl⟩
                have HT : Hid (∀ t ∈ ts, t.size ≤ maxLen) := by have := HFIT.out _ (List.getElem_mem hlti); rw [hne] at this; exact this
                have htm : ts.length ≤ maxLen := by have := HLT.out _ (List.getElem_mem hlti); rw [hne] at this; exact this
                unfold maxLen at htm
                have HCE : Hid (∀ j o W, RI w2 (.slice (some ⟨gr, 0, none⟩) fs.length cu) fs (resT bs) i j o W → j ≤ ts.length → _) := fun j o W h hj => RI.cells h rfl hlti hne hj
                have HSK : Hid (∀ j o W, RI w2 (.slice (some ⟨gr, 0, none⟩) fs.length cu) fs (resT bs) i j o W → (hj : j < ts.length) → resT bs ts[j] = ts[j] → RI w2 (.slice (some ⟨gr, 0, none⟩) fs.length cu) fs (resT bs) i (j + 1) o W) := fun j o W h hj he => h.skip hlti hne hj he
                have HNX : Hid (∀ j o W, RI w2 (.slice (some ⟨gr, 0, none⟩) fs.length cu) fs (resT bs) i j o W → ts.length ≤ j → RI w2 (.slice (some ⟨gr, 0, none⟩) fs.length cu) fs (resT bs) (i + 1) 0 o W) := fun j o W h hj => h.next hlti (by rw [hne]; exact hj)
                have HMT : Hid (∀ t ∈ ts, t ∈ textsF fs) := fun t ht => mem_textsF.2 ⟨_, List.getElem_mem hlti, by rw [hne]; exact ht⟩
                have HS1 : Hid ((∀ t ∈ ts, unboundT bs t = false) → ∀ k, (h : k < fs.length) → k < i + 1 → ∀ t ∈ (fs[k]).2, unboundT bs t = false) := fun h1 k h hk => by
                  by_cases e : k = i
                  · subst e; rw [hne]; exact h1
                  · exact HSE.out k h (by omega)
                clear hne HSE
                go_wp2_with fail
                go_loopg [11] ts.length (fun gg vj wr2 => ∃ (j : Nat) (o : List Fx), vj = .int .i64 j ∧ j ≤ ts.length ∧ ts.length - j ≤ gg ∧ Hid (RI w2 (.slice (some ⟨gr, 0, none⟩) fs.length cu) fs (resT bs) i j o wr2) ∧ Hid (∀ t ∈ ts.take j, unboundT bs t = false))
                case atStart => exact ⟨0, o, rfl, by omega, by omega, HRI.out, fun t ht => by simp at ht⟩
                case round =>
                  clear HRI
                  obtain ⟨j, o, rfl, hj, hgj, HRJ, HSJ⟩ := hrel
                  obtain ⟨p5, c5, e0, hrest⟩ := HCE.out j o wr HRJ.out hj
                  by_cases hlj : j < ts.length
                  · have hljz : (j : Int) < (ts.length : Int) := by omega
                    have hjz : (0 : Int) ≤ j := by omega
                    obtain ⟨T, rfl, t0, hfz, hTge, hTgr, hstep⟩ := hrest hlj
                    have htz := HT.out _ (List.getElem_mem hlj)
                    have hmt := HMT.out _ (List.getElem_mem hlj)
                    have HSKJ := hid (HSK.out j o wr HRJ.out hlj)
                    have HSN : Hid (unboundT bs ts[j] = false → ∀ t ∈ ts.take (j + 1), unboundT bs t = false) := fun h t ht => by
                      rw [List.take_succ_eq_append_getElem hlj] at ht
                      rcases List.mem_append.1 ht with ht | ht
                      · exact HSJ.out t ht
                      · rw [List.mem_singleton.1 ht]; exact h
                    obtain ⟨t, hte⟩ : ∃ t, ts[j] = t := ⟨_, rfl⟩
                    rw [hte] at t0 htz hstep HSKJ HSN hmt
                    have HMT1 := hid hmt
                    obtain ⟨n, bb, hN, hcall⟩ := rtempT_is t htz
                    have HC := hid hcall
                    have HFZ := hid hfz
                    have HST := hid hstep
                    have HBJ := hid HRJ.out.ro.below
                    have HBWJ := hid (bel_then HBW.out HBW.out.size HBJ.out)
                    have HN1 := hid hN
                    clear hfz hstep hcall hN hte hrest hmt
                    go_wp2_with fail
                    refine (HC.out _).mono ?_
                    rintro e w4 ⟨rfl, rfl⟩
                    cases bb with
                    | false =>
                      have HTN : Hid (tempT t = none) := by
                        rcases HN1.out with ⟨_, h⟩ | ⟨h, _⟩
                        · cases h
                        · exact h
                      have HRN := hid (HSKJ.out (res_stays HTN.out))
                      have HSN1 := hid (HSN.out (unbound_none HTN.out))
                      go_wp2_with fail
                      go_roundg (ts.length - (j + 1))
                      case measure => omega
                      exact ⟨j + 1, o, by go_num, by omega, by omega, HRN.out, HSN1.out⟩
                    | true =>
                      have HTN : Hid (tempT t = some n) := by
                        rcases HN1.out with ⟨h, _⟩ | ⟨_, h⟩
                        · exact h
                        · cases h
                      have HBC := hid (rbound_is _ bs n w4 (Kind.is_kept HVB.out HBWJ.out) hl)
                      go_wp2_with fail
                      refine HBC.out.mono ?_
                      rintro e w5 ⟨rfl, hq5⟩
                      cases hbd : boundT bs n with
                      | none =>
                        have HU : Hid ((textsF fs).any (unboundT bs) = true) := by
                          show _ = _
                          rw [List.any_eq_true]
                          exact ⟨t, HMT1.out, by rw [unbound_some HTN.out, hbd]; rfl⟩
                        have HR : Hid (rsCode bs fs = 15 ∧ resAns bs fs = []) := ⟨by unfold rsCode resCode; rw [if_neg (by rw [HA.out]; simp), if_neg (fun h => h HN.out), if_pos HU.out], if_neg fun h => by rw [HU.out] at h; cases h.2.2⟩
                        have HB6 := hid ((bel_then HBWJ.out HBWJ.out.size hq5).alloc (bel_then HBWJ.out HBWJ.out.size hq5).size (.cells #[.string ⟨#[]⟩, .string ⟨#[]⟩] 31))
                        simp only [keyOr, Option.getD_none, Option.isSome_none]
                        clear hq5 hbd HBC
                        go_wp2_with fail
                        go_ret2
                        exact ⟨_, [], by rw [HR.out.1]; rfl, own_noneX _ _, by rw [HR.out.2]; rfl, HB6.out⟩
                      | some k =>
                        have HGT : Hid (resT bs t = (⟨#[42]⟩ : ByteArray) ++ k.1 ++ ⟨#[47]⟩ ++ k.2) := by
                          show _ = _
                          rw [ref_cat2]
                          unfold resT
                          rw [HTN.out]
                          simp only [hbd]
                        have HSN1 := hid (HSN.out (by rw [unbound_some HTN.out, hbd]; rfl))
                        have hkk := HK.out _ (bound_mem hbd)
                        simp only at hkk
                        obtain ⟨hs1, hs2⟩ := keyB_sizes (a := k.1) (b := k.2) hkk
                        rw [HGT.out] at HST
                        obtain ⟨k1, k2⟩ := k
                        simp only [keyOr, Option.getD_some, Option.isSome_some]
                        simp only at HST hs1 hs2
                        obtain ⟨W5, hW5⟩ : ∃ W5, w5.alloc (.cells #[.string k1, .string k2] 31) = W5 := ⟨_, rfl⟩
                        have hb5 : Below w4.heap.size w4 W5 := by rw [← hW5]; exact hq5.alloc hq5.size _
                        obtain ⟨B5, hB5⟩ : ∃ B5, w5.heap.size = B5 := ⟨_, rfl⟩
                        have y0 : W5.cell? ⟨B5, 0, none⟩ = some (.string k1) := by rw [← hW5, ← hB5, Lib.cell_of_heap (heap_alloc_new w5 _)]; rfl
                        have y1 : W5.cell? ⟨B5, 1, none⟩ = some (.string k2) := by rw [← hW5, ← hB5, Lib.cell_of_heap (heap_alloc_new w5 _)]; rfl
                        have d0 := kept hb5 e0
                        have d1 := kept hb5 t0
                        have d2 := HFZ.out W5 hb5
                        have HRN := hid (HST.out W5 hb5)
                        clear hq5 hb5 e0 t0 HC hkk hbd HBC HST
                        go_upto_region 25 with fail
                        try rw [hB5]
                        try rw [hW5]
                        clear hW5 hB5
                        go_region
                        go_wp2_with fail
                        go_roundg (ts.length - (j + 1))
                        case measure => omega
                        exact ⟨j + 1, _, by go_num, by omega, by omega, HRN.out.on (bel_drewN (Below.refl _ _) 1), HSN1.out⟩
                  · have hljz : ¬ (j : Int) < (ts.length : Int) := by omega
                    have HRN := hid (HNX.out j o wr HRJ.out (by omega))
                    have HS2 := hid (HS1.out (by have := HSJ.out; rw [List.take_of_length_le (by omega)] at this; exact this))
                    clear hrest
                    go_wp2_with fail
                    go_roundg (fs.length - (i + 1))
                    case measure => omega
                    exact ⟨i + 1, o, by go_num, by omega, by omega, HRN.out, HS2.out⟩
              · have hltz : ¬ (i : Int) < (fs.length : Int) := by omega
                have HU : Hid ((textsF fs).any (unboundT bs) = false) := by
                  show _ = _
                  rw [List.any_eq_false]
                  intro t ht
                  obtain ⟨f, hf, htf⟩ := mem_textsF.1 ht
                  obtain ⟨k, hk, rfl⟩ := List.mem_iff_getElem.1 hf
                  rw [HSE.out k hk (by omega) t htf]
                  simp
                have HR : Hid (rsCode bs fs = 0 ∧ resAns bs fs = mapT (resT bs) fs) := ⟨by unfold rsCode resCode; rw [if_neg (by rw [HA.out]; simp), if_neg (fun h => h HN.out), if_neg (by rw [HU.out]; simp)], if_pos ⟨HA.out, HN.out, HU.out⟩⟩
                go_wp2_with fail
                go_ret2
                exact ⟨_, o, by rw [HR.out.1]; rfl, own_weakJ HRI.out.ro.st.own HBW.out.size, by rw [HR.out.2]; exact HRI.out.done (by omega), bel_then HBW.out HBW.out.size HRI.out.ro.below⟩

end Go.Proofs.Ytinmagodckkedaa

/-
  The contracts of Sort of package name and of Keys of package refs.
-/
namespace Go.Proofs.Ytinmagodckkedaa
open Go.RowKit

theorem z_own {n0 : Nat} {w : World} {v : Value} {d : List Ky} : Z.Own w n0 v d ↔ KK.Own n0 w v d := Iff.rfl
theorem z_at {w : World} {b off : Nat} {d : List Ky} (h : KK.At w b off d) : Z.KeysAt w b off d := fun i hi => kk_at h i hi

theorem z_lt (x y : Ky) : Z.ahead x y ↔ ltKy x y = true := by
  unfold Z.ahead Z.cmpK Z.cmpI Z.orI
  rw [ltKy_true]
  unfold ltB
  rw [decide_eq_true_iff, decide_eq_true_iff]
  by_cases h : Lib.compareBytes x.1.data.toList y.1.data.toList = 0
  · rw [if_pos h]
    have e : x.1 = y.1 := ba_eq ((cb_zero _ _).1 h)
    constructor
    · intro k; exact Or.inr ⟨e, k⟩
    · rintro (k | ⟨_, k⟩)
      · omega
      · exact k
  · rw [if_neg h]
    constructor
    · intro k; exact Or.inl k
    · rintro (k | ⟨e, _⟩)
      · exact k
      · rw [e, cb_self] at h; exact absurd rfl h

theorem z_rises {r : List Ky} (h : Z.Rises r) : RisingR ltKy r := h.imp fun {x y} hxy => (z_lt x y).1 hxy
theorem z_rises' {r : List Ky} (h : RisingR ltKy r) : Z.Rises r := h.imp fun {x y} hxy => (z_lt x y).2 hxy

/-- The keys, rising, each once. -/
def sortK (ks : List Ky) : List Ky := ks.foldl (fun acc x => insR ltKy x acc) []
theorem sortK_spec (ks : List Ky) : RisingR ltKy (sortK ks) ∧ ∀ z, z ∈ sortK ks ↔ z ∈ ks := by
  have : ∀ (l acc : List Ky), RisingR ltKy acc → RisingR ltKy (l.foldl (fun acc x => insR ltKy x acc) acc) ∧ ∀ z, z ∈ l.foldl (fun acc x => insR ltKy x acc) acc ↔ z ∈ acc ∨ z ∈ l := by
    intro l
    induction l with
    | nil => intro acc h; exact ⟨h, fun z => by simp⟩
    | cons y l ih =>
      intro acc h
      obtain ⟨h1, h2⟩ := ih (insR ltKy y acc) (rising_insR totK y h)
      refine ⟨h1, fun z => ?_⟩
      rw [List.foldl_cons, h2, mem_insR, List.mem_cons]
      constructor
      · rintro ((h | h) | h)
        · exact Or.inr (Or.inl h)
        · exact Or.inl h
        · exact Or.inr (Or.inr h)
      · rintro (h | h | h)
        · exact Or.inl (Or.inr h)
        · exact Or.inl (Or.inl h)
        · exact Or.inr h
  obtain ⟨h1, h2⟩ := this ks [] List.Pairwise.nil
  exact ⟨h1, fun z => by rw [sortK, h2]; simp⟩

theorem keys_sort (fs : List Fld) : sortK ((textsF fs).filterMap namedT) = keysF fs := by
  refine rising_uniqR totK (sortK_spec _).1 (told_rising totK _ _) fun z => ?_
  rw [(sortK_spec _).2, List.mem_filterMap]
  exact (told_mem totK namedT (textsF fs) z).symm

set_option maxHeartbeats 1000000 in
theorem nsort_nil (w : World) : Calls Try.prog 38 #[.slice none 0 0] w fun e w' => e = .returned (.slice none 0 0) ∧ w' = w := by
  have q22 : ∀ (w : World) (a : Option Addr) (n c n' c' : Nat), (binOp .eql 48 (.slice a n c) (.slice none n' c')).run Try.prog w = .ok (.bool a.isNone) w := fun w a n c n' c' => Lib.run_eql_slice_nil w _ _ a n c n' c' Try.underlying48
  have hclone : ∀ W, Calls Try.prog 51 #[.slice none 0 0] W fun e w' => e = .returned (.slice none 0 0) ∧ w' = W := fun W => by
    go_enter Try.func51, Try.ntmps51
    go_wp2_with fail
    go_ret
    exact ⟨rfl, rfl⟩
  have HC := hid hclone
  clear hclone
  have hi : ∀ W, Calls Try.prog 86 #[.slice none 0 0, .int .i64 0, .int .i64 0, .func (.func 53) #[] #[]] W fun e w' => e = .returned (.tuple #[]) ∧ w' = W := fun W => by
    go_enter Try.func86, Try.ntmps86
    go_wp2_with fail
    refine wp_loop_rounds 1 ?_
    rw [rounds_succ]
    go_wp2_with fail
    go_end0
    exact ⟨rfl, rfl⟩
  have HI := hid hi
  clear hi
  have hp : ∀ (l : Int) W, Calls Try.prog 72 #[.slice none 0 0, .int .i64 0, .int .i64 0, .int .i64 l, .func (.func 53) #[] #[]] W fun e w' => e = .returned (.tuple #[]) ∧ w' = W := fun l W => by
    go_enter Try.func72, Try.ntmps72
    go_wp2_with fail
    refine wp_loop_rounds 1 ?_
    rw [rounds_succ]
    go_wp2_with (first | (go_at_call 86; refine (HI.out _).mono ?_; rintro e w1 ⟨rfl, rfl⟩))
    refine bodyPost_ret (results_none (h := Try.results72) _ _ _) rfl ?_
    exact ⟨rfl, rfl⟩
  have HP := hid hp
  clear hp
  have hs : ∀ W, Calls Try.prog 52 #[.slice none 0 0, .func (.func 53) #[] #[]] W fun e w' => e = .returned (.tuple #[]) ∧ w' = W := fun W => by
    go_enter Try.func52, Try.ntmps52
    go_wp2_with (first | (go_at_call 49; refine (Try.bits_Len 0 _ (by omega) (by omega)).mono ?_; rintro e w1 ⟨rfl, rfl⟩) | (go_at_call 72; refine (HP.out _ _).mono ?_; rintro e w1 ⟨rfl, rfl⟩))
    go_end0
    exact ⟨rfl, rfl⟩
  have HS := hid hs
  clear hs
  have hk : ∀ W, Calls Try.prog 54 #[.slice none 0 0] W fun e w' => e = .returned (.slice none 0 0) ∧ w' = W := fun W => by
    go_enter Try.func54, Try.ntmps54
    go_wp2_with fail
    go_ret
    exact ⟨rfl, rfl⟩
  have HK := hid hk
  clear hk
  go_enter Try.func38, Try.ntmps38
  go_wp2_with (first
    | (go_at_call 51; refine (HC.out _).mono ?_; rintro e w1 ⟨rfl, rfl⟩)
    | (go_at_call 52; refine (HS.out _).mono ?_; rintro e w1 ⟨rfl, rfl⟩)
    | (go_at_call 54; refine (HK.out _).mono ?_; rintro e w1 ⟨rfl, rfl⟩))
  go_ret
  exact ⟨rfl, rfl⟩

theorem nsort_own (n0 : Nat) (v : Value) (ks : List Ky) (w : World) (h : KK.Own n0 w v ks) (hl : ks.length ≤ 4000000) :
    Calls Try.prog 38 #[v] w fun e w' => ∃ u, e = .returned u ∧ KK.Own w.heap.size w' u (sortK ks) ∧ Below w.heap.size w w' := by
  rcases h.2 with ⟨rfl, hz⟩ | ⟨g, cap, cur, rfl, _⟩
  · obtain rfl := List.length_eq_zero_iff.1 hz
    refine (nsort_nil w).mono ?_
    rintro e w' ⟨rfl, rfl⟩
    exact ⟨_, rfl, KK.own_nil _ _, Below.refl _ _⟩
  · refine (Z.zsort_any g 0 cap ks w (z_at (Kind.own_at h)) (by omega)).mono ?_
    rintro e w' ⟨u, r, rfl, hr, hm, _, ho, _, hb⟩
    refine ⟨u, rfl, ?_, hb⟩
    have : r = sortK ks := rising_uniqR totK (z_rises hr) (sortK_spec ks).1 fun z => (hm z).trans ((sortK_spec ks).2 z).symm
    rw [← this]
    exact ho

end Go.Proofs.Ytinmagodckkedaa

/-
  The contract of Keys of package refs.
-/
namespace Go.Proofs.Ytinmagodckkedaa
open Go.RowKit

theorem Try.infoKy : (Try.prog.info? 31).map (fun i => (i.zero, i.size, i.bytes)) = some (some (.agg #[.string ⟨#[]⟩, .string ⟨#[]⟩]), 2, 32) := by kernel_rfl

set_option maxHeartbeats 4000000 in
set_option maxRecDepth 100000 in
theorem keys_any (v : Value) (d : List Fx) (w : World) (hv : IsXs w v d) (hf : FitX d) (hT : (txtsX d).length ≤ 2000000) :
    Calls Try.prog 18 #[v] w fun e w' => ∃ u, e = .returned u ∧ KK.Own w.heap.size w' u (keysF (d.map Fx.fld)) ∧ Below w.heap.size w w' := by
  obtain ⟨i0, hi0, hz0, hz1, hz2⟩ := info_parts Try.infoKy
  have HI := hid hi0
  obtain ⟨p, cap, rfl, hd, ht⟩ := hv
  have HD := hid hd
  have HX := hid ht
  have HF := hid hf.2
  have hl := hf.1
  unfold maxLen at hl
  have HTOT := hid hT
  have HEND := hid (keys_sort (d.map Fx.fld))
  rw [txtsX_flds] at HEND
  clear hd ht hf hi0 hT
  go_enter Try.func18, Try.ntmps18
  go_wp2_with fail
  go_loopg [3, 12] d.length (fun g vs vi wr => ∃ i : Nat, vi = .int .i64 i ∧ i ≤ d.length ∧ d.length - i ≤ g ∧ Hid (Below w.heap.size w wr) ∧ Hid (KK.Own w.heap.size wr vs ((txtsX (d.take i)).filterMap namedT)))
  case atStart => exact ⟨0, rfl, by omega, by omega, Below.refl _ _, KK.own_nil _ _⟩
  case round =>
    obtain ⟨i, rfl, hi, hgk, HB, HO⟩ := hrel
    by_cases hlt : i < d.length
    · have hltz : (i : Int) < (d.length : Int) := by omega
      have hiz : (0 : Int) ≤ i := by omega
      obtain ⟨b, off, rfl, hxs⟩ : ∃ b off, p = some ⟨b, off, none⟩ ∧ XsAt w b off d := by
        rcases HD.out with h | h
        · subst h; simp at hlt
        · exact h
      obtain ⟨c0, c1⟩ := hxs.kept HB.out i hlt
      have hxi : (d[i]).at w := HX.out _ (List.getElem_mem hlt)
      have hfi := HF.out _ (List.getElem_mem hlt)
      have hsu := txtsX_succ d i hlt
      have hpa := txtsX_part d (i + 1)
      have htot := HTOT.out
      obtain ⟨x, hx⟩ : ∃ x, d[i] = x := ⟨_, rfl⟩
      rw [hx] at c0 c1 hxi hfi hsu
      rw [hsu, List.length_append] at hpa
      obtain ⟨nm, p5, c5, ts⟩ := x
      simp only [Fx.at, Fx.sl, Fx.fld] at c0 c1 hxi hfi hsu hpa
      obtain ⟨acc, hacc⟩ : ∃ acc, (txtsX (d.take i)) = acc := ⟨_, rfl⟩
      rw [hacc] at HO hsu hpa
      have hts : acc.length + ts.length ≤ 2000000 := by omega
      have HSU := hid hsu
      have HXI := hid hxi
      have HFI := hid hfi
      have hsz := HB.out.size
      clear hxs hxi hfi hx hsu hpa htot hacc
      have HB1 := hid (HB.out.alloc hsz (.cells #[.string nm, .slice p5 ts.length c5] 38))
      have HO1 := hid (Kind.own_on HO.out ((Below.refl _ wr).alloc (Nat.le_refl _) (.cells #[.string nm, .slice p5 ts.length c5] 38)))
      clear HO
      go_wp2_with fail
      go_loopg [3, 19] ts.length (fun g vs vj wr2 => ∃ j : Nat, vj = .int .i64 j ∧ j ≤ ts.length ∧ ts.length - j ≤ g ∧ Hid (Below w.heap.size w wr2) ∧ Hid (KK.Own w.heap.size wr2 vs ((acc ++ ts.take j).filterMap namedT)))
      case atStart => exact ⟨0, rfl, by omega, by omega, HB1.out, by show KK.Own _ _ _ _; simpa using HO1.out⟩
      case round =>
        obtain ⟨j, rfl, hj, hgj, HBJ, HOJ⟩ := hrel
        by_cases hlj : j < ts.length
        · have hljz : (j : Int) < (ts.length : Int) := by omega
          have hjz : (0 : Int) ≤ j := by omega
          obtain ⟨b2, o2, rfl, ht2⟩ : ∃ b o, p5 = some ⟨b, o, none⟩ ∧ ∀ i, (h : i < ts.length) → w.cell? ⟨b, o + i, none⟩ = some (.string ts[i]) := by
            rcases HXI.out with h | h
            · rw [h] at hlj; simp at hlj
            · exact h
          have t0 : wr.cell? ⟨b2, o2 + j, none⟩ = some (.string ts[j]) := (HBJ.out.cell (p := ⟨b2, o2 + j, none⟩) (cell_block (ht2 j hlj))).trans (ht2 j hlj)
          have htz := HFI.out.2.2 _ (List.getElem_mem hlj)
          have hst : acc ++ ts.take (j + 1) = (acc ++ ts.take j) ++ [ts[j]] := by rw [List.take_succ_eq_append_getElem hlj, List.append_assoc]
          obtain ⟨t, hte⟩ : ∃ t, ts[j] = t := ⟨_, rfl⟩
          rw [hte] at t0 htz hst
          have hal : ((acc ++ ts.take j).filterMap namedT).length ≤ 2000000 := by
            refine Nat.le_trans (List.length_filterMap_le _ _) ?_
            rw [List.length_append, List.length_take]; omega
          obtain ⟨r, bb, hT, hcall⟩ := named_is t htz
          obtain ⟨k1, k2⟩ := r
          simp only at hcall
          have HC := hid hcall
          have hfm : (acc ++ ts.take (j + 1)).filterMap namedT = (acc ++ ts.take j).filterMap namedT ++ (if bb then [(k1, k2)] else []) := by
            rw [hst, List.filterMap_append]
            congr 1
            rcases hT with ⟨h, rfl⟩ | ⟨h, rfl⟩
            · simp [h]
            · simp [h]
          obtain ⟨L, hL⟩ : ∃ L, (acc ++ ts.take j).filterMap namedT = L := ⟨_, rfl⟩
          rw [hL] at HOJ hal hfm
          have HFM := hid hfm
          have hszj := HBJ.out.size
          clear ht2 htz hst hT hcall hfm hte hL
          cases bb with
          | true =>
            go_wp2_with (first
              | (go_at_call 37; refine (HC.out _).mono ?_; rintro e w2 ⟨rfl, hb2⟩; have HB2 := hid ((bel_then HBJ.out hszj hb2).alloc (Nat.le_trans hszj hb2.size) (.cells #[.string k1, .string k2] 31)); have HO2 := hid (Kind.own_on (Kind.own_on HOJ.out hb2) ((Below.refl _ w2).alloc (Nat.le_refl _) (.cells #[.string k1, .string k2] 31))); have hs2 := Nat.le_trans hszj hb2.size; clear hb2)
              | (at_builtin; refine wpList_append_own _ rfl _ _ 48 rfl w.heap.size 31 i0 (.agg #[.string ⟨#[]⟩, .string ⟨#[]⟩]) 2 32 Try.underlying48 HI.out hz0 hz1 hz2 rfl (by decide) _ _ _ rfl (World.ownsRow.alloc HO2.out _) _ 1 1 [.string k1, .string k2] rfl rfl (fun j u hj => KK.newsN (w2.alloc (.cells #[.string k1, .string k2] 31)) (k1, k2) _ (by simp) j u hj) (by intro u hu; simp at hu; rcases hu with rfl | rfl <;> rfl) (by unfold maxLen; omega) (by omega) (by simp; omega) ?_; intro v4 w4 hown4 hg4 hnil4; have HO4 := hid hown4; have HG4 := hid hg4; clear hown4 hg4 hnil4))
            go_roundg (ts.length - (j + 1))
            case measure => omega
            refine ⟨j + 1, by go_num, by omega, by omega, ?_, ?_⟩
            · exact (HB2.out.alloc (by simp; omega) _).grown HG4.out (by simp; omega) (fun k hk => (World.ownsRow.lt HO2.out k hk).1)
            · rw [HFM.out]
              exact Kind.own_snoc HO4.out rfl rfl
          | false =>
            go_wp2_with (first
              | (go_at_call 37; refine (HC.out _).mono ?_; rintro e w2 ⟨rfl, hb2⟩))
            go_roundg (ts.length - (j + 1))
            case measure => omega
            refine ⟨j + 1, by go_num, by omega, by omega, ?_, ?_⟩
            · exact (bel_then HBJ.out hszj hb2).alloc (Nat.le_trans hszj hb2.size) _
            · rw [HFM.out, show L ++ (if false = true then [(k1, k2)] else []) = L by simp]
              exact Kind.own_on (Kind.own_on HOJ.out hb2) ((Below.refl _ w2).alloc (Nat.le_refl _) _)
        · have hljz : ¬ (j : Int) < (ts.length : Int) := by omega
          have hjt : acc ++ ts.take j = txtsX (d.take (i + 1)) := by rw [HSU.out, List.take_of_length_le (by omega)]
          rw [hjt] at HOJ
          clear hjt
          go_wp2_with fail
          go_roundg (d.length - (i + 1))
          case measure => omega
          exact ⟨i + 1, by go_num, by omega, by omega, HBJ.out, HOJ.out⟩
    · have hltz : ¬ (i : Int) < (d.length : Int) := by omega
      have hti : d.take i = d := List.take_of_length_le (by omega)
      rw [hti] at HO
      obtain ⟨L, hL⟩ : ∃ L, (txtsX d).filterMap namedT = L := ⟨_, rfl⟩
      have hLl : L.length ≤ 2000000 := by rw [← hL]; exact Nat.le_trans (List.length_filterMap_le _ _) HTOT.out
      rw [hL] at HO HEND
      have hsz := HB.out.size
      clear hti hL
      go_wp2_with (first
        | (go_at_call 38; refine (nsort_own w.heap.size _ L _ HO.out (by omega)).mono ?_; rintro e w2 ⟨u2, rfl, ho2, hb2⟩; have HO2 := hid ho2; have HB2 := hid hb2; clear ho2 hb2))
      go_ret
      refine ⟨_, rfl, ?_, bel_then HB.out hsz HB2.out⟩
      rw [← HEND.out]
      exact Kind.own_weak HO2.out hsz

end Go.Proofs.Ytinmagodckkedaa

/-
  The chapter's examples (stage 5).
-/
namespace Go.Proofs.Ytinmagodckkedaa
open Go.RowKit

def fxA : ByteArray := ⟨#[97]⟩
def fxP : ByteArray := ⟨#[42, 80, 97, 116, 105, 101, 110, 116, 47, 112, 49]⟩
def fxX : ByteArray := ⟨#[42, 64, 120]⟩
def fxV : List Fld := [(fxA, [fxP, fxX])]
def fxB : List Bd := [(⟨#[120]⟩, ⟨#[65]⟩, ⟨#[98]⟩)]
def fxK : Ky := (⟨#[80, 97, 116, 105, 101, 110, 116]⟩, ⟨#[112, 49]⟩)

theorem fx_keys : (keysF fxV).length = 1 := by decide
theorem fx_temps : tempsF fxV = [⟨#[120]⟩] := by decide
theorem fx_code : rsCode fxB fxV = 0 := by decide
theorem fx_res : resAns fxB fxV = [(fxA, [fxP, ⟨#[42, 65, 47, 98]⟩])] := by decide
theorem fx_ren : renCode fxK (⟨#[65]⟩, ⟨#[99]⟩) = 0 ∧ renAns fxK (⟨#[65]⟩, ⟨#[99]⟩) fxV = [(fxA, [⟨#[42, 65, 47, 99]⟩, fxX])] := by decide
theorem fx_text : refT (⟨#[65]⟩, ⟨#[98]⟩) = ⟨#[42, 65, 47, 98]⟩ ∧ keyOK (⟨#[65]⟩, ⟨#[98]⟩) = true := by decide
theorem fx_points : pointsB fxV fxK = true := by decide

theorem one_field {o : List Fx} {nm : ByteArray} {ts : List ByteArray} (h : o.map Fx.fld = [(nm, ts)]) : ∃ p c, o = [⟨nm, p, c, ts⟩] := by
  match o, h with
  | [x], h =>
    obtain ⟨n, p, c, t⟩ := x
    simp [Fx.fld] at h
    obtain ⟨rfl, rfl⟩ := h
    exact ⟨p, c, rfl⟩

theorem one_cells {W : World} {u : Value} {nm t1 t2 : ByteArray} {p : Option Addr} {c : Nat} (h : IsXs W u [⟨nm, p, c, [t1, t2]⟩]) :
    ∃ b off cu b2 o2, u = .slice (some ⟨b, off, none⟩) 1 cu ∧ W.cell? ⟨b, off + 1, none⟩ = some (.slice (some ⟨b2, o2, none⟩) 2 c) ∧ W.cell? ⟨b2, o2, none⟩ = some (.string t1) ∧ W.cell? ⟨b2, o2 + 1, none⟩ = some (.string t2) := by
  obtain ⟨pu, cu, rfl, h1, h2⟩ := h
  rcases h1 with h1 | ⟨b, off, rfl, hx⟩
  · cases h1
  · have ht := h2 _ (List.mem_singleton.2 rfl)
    rcases ht with ht | ⟨b2, o2, hp, hc⟩
    · cases ht
    · simp only at hp
      subst hp
      exact ⟨b, off, cu, b2, o2, rfl, (hx 0 (by simp)).2, hc 0 (by simp), hc 1 (by simp)⟩

set_option maxHeartbeats 8000000 in
set_option maxRecDepth 100000 in
theorem rfixed_any (w : World) : Calls Try.prog 8 #[] w fun e w' => e = .returned (.bool true) ∧ Below w.heap.size w w' := by
  obtain ⟨W0, hW0⟩ : ∃ W0, (w.alloc (.cells #[.string ⟨#[42, 80, 97, 116, 105, 101, 110, 116, 47, 112, 49]⟩, .string ⟨#[42, 64, 120]⟩] 9)).alloc (.cells #[.string ⟨#[97]⟩, .slice (some ⟨w.heap.size, 0, none⟩) 2 2] 38) = W0 := ⟨_, rfl⟩
  have hb0 : Below w.heap.size w W0 := by rw [← hW0]; exact ((Below.refl _ _).alloc (Nat.le_refl _) _).alloc (by simp) _
  obtain ⟨d0, hd0⟩ : ∃ d0 : List Fx, d0 = [⟨fxA, some ⟨w.heap.size, 0, none⟩, 2, [fxP, fxX]⟩] := ⟨_, rfl⟩
  have hm0 : d0.map Fx.fld = fxV := by rw [hd0]; rfl
  have hv0 : IsXs W0 (.slice (some ⟨w.heap.size + 1, 0, none⟩) 1 1) d0 := by
    have h1 : W0.heap[w.heap.size]? = some (.cells #[.string fxP, .string fxX] 9 (0, 0)) := by rw [← hW0]; exact (Below.heap_alloc _ _ _ (by simp)).trans (heap_alloc_new w _)
    have h2 : W0.heap[w.heap.size + 1]? = some (.cells #[.string fxA, .slice (some ⟨w.heap.size, 0, none⟩) 2 2] 38 (0, 0)) := by
      rw [← hW0]
      have := heap_alloc_new (w.alloc (.cells #[.string ⟨#[42, 80, 97, 116, 105, 101, 110, 116, 47, 112, 49]⟩, .string ⟨#[42, 64, 120]⟩] 9)) (.cells #[.string ⟨#[97]⟩, .slice (some ⟨w.heap.size, 0, none⟩) 2 2] 38)
      rwa [World.size_alloc] at this
    rw [hd0]
    refine ⟨_, 1, rfl, Or.inr ⟨_, 0, rfl, fun i hi => ?_⟩, fun x hx => ?_⟩
    · have : i = 0 := by simp at hi; omega
      subst this
      rw [Lib.cell_of_heap h2, Lib.cell_of_heap h2]
      exact ⟨rfl, rfl⟩
    · rw [List.mem_singleton.1 hx]
      refine Or.inr ⟨_, 0, rfl, fun i hi => ?_⟩
      rw [Lib.cell_of_heap h1]
      have hi2 : i < 2 := hi
      rcases (show i = 0 ∨ i = 1 by omega) with rfl | rfl <;> rfl
  have hf0 : FitX d0 := by
    rw [hd0]
    refine ⟨show 1 ≤ maxLen by decide, fun x hx => ?_⟩
    rw [List.mem_singleton.1 hx]
    exact ⟨show fxA.size ≤ maxLen by decide, show 2 ≤ maxLen by decide, fun t (ht : t ∈ [fxP, fxX]) => by
      simp only [List.mem_cons, List.not_mem_nil, or_false] at ht
      rcases ht with rfl | rfl <;> decide⟩
  have hc0 : CopyX d0 := by
    rw [hd0]
    refine ⟨show 1 * 40 ≤ 140737488355328 by decide, fun x hx => ?_⟩
    rw [List.mem_singleton.1 hx]
    show 2 * 16 ≤ 140737488355328
    decide
  have ht0 : (txtsX d0).length ≤ 2000000 := by rw [hd0]; show 2 ≤ 2000000; decide
  have HKEY := hid (keys_any _ d0 W0 hv0 hf0 ht0)
  rw [hm0] at HKEY
  have HTMP : Hid (∀ W, Below W0.heap.size W0 W → Calls Try.prog 15 #[.slice (some ⟨w.heap.size + 1, 0, none⟩) 1 1] W fun e w' => ∃ u, e = .returned u ∧ OwnT W.heap.size w' u [⟨#[120]⟩] ∧ Below W.heap.size W w') := fun W hW => by
    have := temps_any _ d0 W (hv0.kept hW) hf0 ht0
    rw [hm0, fx_temps] at this
    exact this
  have HRES : Hid (∀ W, Below W0.heap.size W0 W → ∀ vb, KB.Is W vb fxB → Calls Try.prog 9 #[.slice (some ⟨w.heap.size + 1, 0, none⟩) 1 1, vb] W fun e w' => AnsJ W [(fxA, [fxP, ⟨#[42, 65, 47, 98]⟩])] 0 e w') := fun W hW vb hvb => by
    have := resolve_any _ vb d0 fxB W (hv0.kept hW) hvb hf0 hc0 ht0 ⟨by decide, fun b hb => by rw [List.mem_singleton.1 hb]; exact ⟨by decide, by decide, by decide⟩⟩
    rw [hm0, fx_res, fx_code] at this
    exact this
  have HREN : Hid (∀ W, Below W0.heap.size W0 W → Calls Try.prog 12 #[.slice (some ⟨w.heap.size + 1, 0, none⟩) 1 1, .agg #[.string ⟨#[80, 97, 116, 105, 101, 110, 116]⟩, .string ⟨#[112, 49]⟩], .agg #[.string ⟨#[65]⟩, .string ⟨#[99]⟩]] W fun e w' => AnsJ W [(fxA, [⟨#[42, 65, 47, 99]⟩, fxX])] 0 e w') := fun W hW => by
    have := rename_any _ d0 fxK (⟨#[65]⟩, ⟨#[99]⟩) W (hv0.kept hW) hf0 hc0 (by decide) (by decide) (by decide) (by decide)
    rw [hm0, fx_ren.1, fx_ren.2] at this
    exact this
  have HTX : Hid (∀ W, Calls Try.prog 19 #[.agg #[.string ⟨#[65]⟩, .string ⟨#[98]⟩]] W fun e w' => e = .returned (.tuple #[.string ⟨#[42, 65, 47, 98]⟩, .int .i64 0]) ∧ Below W.heap.size W w') := fun W => by
    have := text_yes (⟨#[65]⟩, ⟨#[98]⟩) W fx_text.2
    rw [fx_text.1] at this
    exact this
  have HPT : Hid (∀ W, Below W0.heap.size W0 W → Calls Try.prog 14 #[.slice (some ⟨w.heap.size + 1, 0, none⟩) 1 1, .agg #[.string ⟨#[80, 97, 116, 105, 101, 110, 116]⟩, .string ⟨#[112, 49]⟩]] W fun e w' => e = .returned (.bool true) ∧ Below W.heap.size W w') := fun W hW => by
    have := points_any _ d0 fxK W (hv0.kept hW) hf0 (by decide) (by decide)
    rw [hm0, fx_points] at this
    exact this
  have HB0 := hid hb0
  clear hv0 hf0 hc0 ht0 hm0 hd0 hb0
  go_enter Try.func8, Try.ntmps8
  go_wp2_with fail
  try rw [hW0]
  refine HKEY.out.mono ?_
  rintro e w1 ⟨u1, rfl, ho1, hq1⟩
  obtain ⟨p1, c1, hu1⟩ := Kind.own_shape ho1
  rw [fx_keys] at hu1
  subst hu1
  have HB1 := hid hq1
  clear ho1 hq1 hW0 HKEY
  go_wp2_with fail
  refine (HTMP.out w1 HB1.out).mono ?_
  rintro e w2 ⟨u2, rfl, ho2, hq2⟩
  have HB2 := hid (bel_then HB1.out HB1.out.size hq2)
  obtain ⟨p2, c2, hu2⟩ := own_slice ho2
  subst hu2
  obtain ⟨b2, o2, hp2, hc2⟩ : ∃ b o, p2 = some ⟨b, o, none⟩ ∧ w2.cell? ⟨b, o, none⟩ = some (.string ⟨#[120]⟩) := by
    rcases OwnT.txtAt ho2 with h | ⟨b, o, h, hc⟩
    · cases h
    · exact ⟨b, o, h, hc 0 (by simp)⟩
  subst hp2
  have HC2 := hid hc2
  clear ho2 hq2 hc2 HTMP
  have HB2a := hid (HB2.out.alloc HB2.out.size (.cells #[.string ⟨#[120]⟩, .string ⟨#[65]⟩, .string ⟨#[98]⟩] 51))
  have HVB : Hid (KB.Is (w2.alloc (.cells #[.string ⟨#[120]⟩, .string ⟨#[65]⟩, .string ⟨#[98]⟩] 51)) (.slice (some ⟨w2.heap.size, 0, none⟩) 1 1) fxB) := by
    refine ⟨_, 1, rfl, Or.inr ⟨_, 0, rfl, fun i hi j u hu => ?_⟩⟩
    have : i = 0 := by simp [fxB] at hi; omega
    subst this
    rw [Lib.cell_of_heap (heap_alloc_new w2 _)]
    have hj : j < 3 := by have := (List.getElem?_eq_some_iff.1 hu).1; exact this
    rcases (show j = 0 ∨ j = 1 ∨ j = 2 by omega) with rfl | rfl | rfl <;> exact hu
  go_wp2_with fail
  refine (HRES.out _ HB2a.out _ HVB.out).mono ?_
  rintro e w3 ⟨u3, o3, rfl, ho3, hm3, hq3⟩
  have HB3 := hid (bel_then HB2a.out HB2a.out.size hq3)
  have HC3 := hid (kept hq3 (kept_new (.cells #[.string ⟨#[120]⟩, .string ⟨#[65]⟩, .string ⟨#[98]⟩] 51) HC2.out))
  obtain ⟨p3, c3, rfl⟩ := one_field hm3
  have HI3 := hid ho3.1.is
  obtain ⟨b3, o3, cu3, b4, o4, hu3, _, _, _⟩ := one_cells HI3.out
  subst hu3
  clear ho3 hm3 hq3 HC2 HVB HRES HB2a HB2
  go_wp2_with fail
  refine (HREN.out w3 HB3.out).mono ?_
  rintro e w4 ⟨u4, o5, rfl, ho4, hm4, hq4⟩
  have HB4 := hid (bel_then HB3.out HB3.out.size hq4)
  have HC4 := hid (kept hq4 HC3.out)
  have HI3b := hid (HI3.out.kept hq4)
  obtain ⟨p4, c4, rfl⟩ := one_field hm4
  have HI4 := hid ho4.1.is
  obtain ⟨b5, o5, cu4, b6, o6, hu4, _, _, _⟩ := one_cells HI4.out
  subst hu4
  clear ho4 hm4 hq4 HC3 HI3 HREN HB3
  go_wp2_with fail
  refine (HTX.out w4).mono ?_
  rintro e w5 ⟨rfl, hq5⟩
  have HB5 := hid (bel_then HB4.out HB4.out.size hq5)
  have x0 := kept hq5 HC4.out
  obtain ⟨_, _, _, b7, o7, he7, y0, _, y1⟩ := one_cells (HI3b.out.kept hq5)
  injection he7 with e1 e2 e3
  injection e1 with e1
  injection e1 with e1 e4
  subst e1 e4 e3
  obtain ⟨_, _, _, b8, o8, he8, z0, z1, _⟩ := one_cells (HI4.out.kept hq5)
  injection he8 with e1 e2 e3
  injection e1 with e1
  injection e1 with e1 e4
  subst e1 e4 e3
  clear hq5 HC4 HI3b HI4 HTX HB4
  go_wp2_with fail
  refine (HPT.out w5 HB5.out).mono ?_
  rintro e w6 ⟨rfl, hq6⟩
  go_wp2_with fail
  go_ret
  exact ⟨rfl, bel_then HB0.out HB0.out.size (bel_then HB5.out HB5.out.size hq6)⟩

end Go.Proofs.Ytinmagodckkedaa

/-
  The walk of RefsResolves; what fits.
-/
namespace Go.Proofs.Ytinmagodckkedaa
open Go.RowKit

theorem refT_size {k : Ky} (h : keyOK k = true) : (refT k).size ≤ maxLen := by
  obtain ⟨h1, h2⟩ := keyB_sizes (a := k.1) (b := k.2) h
  rw [← ref_cat]
  have e1 : (⟨#[42]⟩ : ByteArray).size = 1 := rfl
  have e2 : (⟨#[47]⟩ : ByteArray).size = 1 := rfl
  simp only [ByteArray.size_append, e1, e2]
  unfold maxLen
  omega

theorem fitF_map {g : ByteArray → ByteArray} (hg : ∀ t : ByteArray, t.size ≤ maxLen → (g t).size ≤ maxLen) {fs : List Fld} (h : ∀ f ∈ fs, FitF f) : ∀ f ∈ mapT g fs, FitF f := by
  intro f hf
  obtain ⟨f0, h0, rfl⟩ := List.mem_map.1 hf
  obtain ⟨h1, h2, h3⟩ := h f0 h0
  exact ⟨h1, by simpa using h2, fun t ht => by
    obtain ⟨t0, ht0, rfl⟩ := List.mem_map.1 ht
    exact hg t0 (h3 t0 ht0)⟩

theorem fit_flds {d : List Fx} (h : FitX d) : ∀ f ∈ d.map Fx.fld, FitF f := fun f hf => by
  obtain ⟨x, hx, rfl⟩ := List.mem_map.1 hf
  exact h.2 x hx

theorem fit_res {d o : List Fx} {bs : List Bd} (h : FitX d) (ho : o.map Fx.fld = resAns bs (d.map Fx.fld)) : FitX o := by
  have hl : o.length = (resAns bs (d.map Fx.fld)).length := by rw [← ho, List.length_map]
  unfold resAns at ho hl
  split at ho
  · next hc =>
    rw [if_pos hc] at hl
    refine fitX_of ho (by rw [hl]; simpa [mapT] using h.1) (fitF_map (fun t ht => ?_) (fit_flds h))
    unfold resT
    split
    · exact ht
    · split
      · next k hk =>
        have := List.all_eq_true.1 hc.1 _ (bound_mem hk)
        simp only [bindOK, Bool.and_eq_true] at this
        exact refT_size this.2
      · exact ht
  · next hc =>
    rw [if_neg hc] at hl
    exact fitX_of ho (by rw [hl]; exact Nat.zero_le _) (fun f hf => by cases hf)

theorem fit_ren {d o : List Fx} {a b : Ky} (h : FitX d) (ho : o.map Fx.fld = renAns a b (d.map Fx.fld)) : FitX o := by
  have hl : o.length = (renAns a b (d.map Fx.fld)).length := by rw [← ho, List.length_map]
  unfold renAns at ho hl
  split at ho
  · next hc =>
    rw [if_pos hc] at hl
    refine fitX_of ho (by rw [hl]; simpa [mapT] using h.1) (fitF_map (fun t ht => ?_) (fit_flds h))
    unfold renT
    split
    · exact refT_size hc.2
    · exact ht
  · next hc =>
    rw [if_neg hc] at hl
    exact fitX_of ho (by rw [hl]; exact Nat.zero_le _) (fun f hf => by cases hf)

theorem int_same (n : Int) : (n == n) = true := by simp
theorem int_differ (n : Int) : (n != n) = false := by simp

set_option maxHeartbeats 4000000 in
set_option maxRecDepth 100000 in
theorem resolves_any (v vb : Value) (d : List Fx) (bs : List Bd) (w : World) (hv : IsXs w v d) (hvb : KB.Is w vb bs) (hf : FitX d) (hc : CopyX d) (hT : (txtsX d).length ≤ 2000000) (hfb : FitBd bs) :
    Calls Try.prog 3 #[v, vb] w fun e w' => e = .returned (.bool true) ∧ Below w.heap.size w w' := by
  have H1 : Hid (∀ W, Below w.heap.size w W → Calls Try.prog 9 #[v, vb] W fun e w' => AnsJ W (resAns bs (d.map Fx.fld)) (rsCode bs (d.map Fx.fld)) e w') := fun W hW => resolve_any v vb d bs W (hv.kept hW) (Kind.is_kept hvb hW) hf hc hT hfb
  have H2 : Hid (∀ W, Below w.heap.size w W → Calls Try.prog 10 #[v, vb] W fun e w' => AnsJ W (resAns bs (d.map Fx.fld)) (rsCode bs (d.map Fx.fld)) e w') := fun W hW => rresolve_any v vb d bs W (hv.kept hW) (Kind.is_kept hvb hW) hf hc hfb
  have HFT : Hid (∀ o : List Fx, o.map Fx.fld = resAns bs (d.map Fx.fld) → FitX o) := fun o ho => fit_res hf ho
  obtain ⟨C, hC⟩ : ∃ C, rsCode bs (d.map Fx.fld) = C := ⟨_, rfl⟩
  obtain ⟨G, hG⟩ : ∃ G, resAns bs (d.map Fx.fld) = G := ⟨_, rfl⟩
  rw [hC, hG] at H1 H2
  rw [hG] at HFT
  have hcc := int_same C
  clear hv hvb hf hc hT hfb hC hG
  go_enter Try.func3, Try.ntmps3
  go_wp2_with fail
  refine (rfixed_any _).mono ?_
  rintro e w1 ⟨rfl, hq1⟩
  have HB1 := hid hq1
  clear hq1
  go_wp2_with fail
  refine (H1.out w1 HB1.out).mono ?_
  rintro e w2 ⟨u2, o2, rfl, ho2, hm2, hq2⟩
  have HB2 := hid (bel_then HB1.out HB1.out.size hq2)
  have HI2 := hid ho2.1.is
  have HM2 := hid hm2
  clear ho2 hm2 hq2 H1
  go_wp2_with fail
  refine (H2.out w2 HB2.out).mono ?_
  rintro e w3 ⟨u3, o3, rfl, ho3, hm3, hq3⟩
  have HB3 := hid (bel_then HB2.out HB2.out.size hq3)
  have HS := hid (sameF_any u2 u3 o2 o3 w3 (HI2.out.kept hq3) ho3.1.is (HFT.out o2 HM2.out) (HFT.out o3 hm3))
  rw [HM2.out, hm3, decide_eq_true rfl] at HS
  clear ho3 hm3 hq3 H2 HM2 HI2
  go_wp2_with fail
  refine HS.out.mono ?_
  rintro e w4 ⟨rfl, n4, rfl⟩
  go_wp2_with fail
  go_ret
  exact ⟨rfl, bel_drewN HB3.out n4⟩

end Go.Proofs.Ytinmagodckkedaa
