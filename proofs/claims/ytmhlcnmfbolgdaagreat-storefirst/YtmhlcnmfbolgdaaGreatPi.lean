/-
  Texts of this claim, one behind the other: Vpt Vf1.
-/
import Derived.Test.YtmhlcnmfbolgdaaGreatPh
import Derived.Test.YtmhlcnmfbolgdaaGreatRows
import Derived.JoinedOf
import Derived.JoinedCond
namespace Go.Proofs.YtmhlcnmfbolgdaaGreat
open Go.RowKit
set_option linter.unusedSimpArgs false in
set_option maxHeartbeats 1500000 in
set_option maxRecDepth 100000 in
theorem first15_any (w : World) (n : Nat) (hn : n ≤ 255) (po : Option Addr) (co : Nat) (ord : List Int) (ho : KU8.Is w (.slice po ord.length co) ord) (hob : ∀ x ∈ ord, 0 ≤ x ∧ x ≤ 255) (hol : ord.length ≤ maxLen) (pv : Option Addr) (cv : Nat) (o : List Fx) (hv : IsXs w (.slice pv o.length cv) o) (hf : FitX o) :
    Calls Tryz.prog 5 #[.int .u8 n, .slice po ord.length co, .slice pv o.length cv] w fun e w' => e = .returned (.bool true) ∧ Below w.heap.size w w' := by
  obtain ⟨i0, hi0, hz0, hz1, hz2⟩ := info_parts Tryz.infoX15
  have HI0 := hid hi0
  have HF := hid (fixed15_any w)
  have HIN : Hid (∀ W', Below w.heap.size w W' → KU8.Is W' (.slice po ord.length co) ord ∧ IsXs W' (.slice pv o.length cv) o) := fun W' hW => ⟨Kind.is_kept ho hW, hv.kept hW⟩
  have HOB := hid hob
  have HFX := hid hf
  unfold maxLen at hol
  clear ho hob hv hf hi0
  go_enter Tryz.func5, Tryz.ntmps5
  go_wp2_with fail
  refine HF.out.mono ?_
  rintro e w1 ⟨rfl, hb1⟩
  have HB1 := hid hb1
  have HN := hid (w15_new w1 4096 64 1 0 (by decide) (by decide) rfl)
  clear hb1 HF
  go_wp2_with fail
  refine HN.out.mono ?_
  rintro e w2 ⟨h, rfl, hx2⟩
  obtain ⟨Q, hQ⟩ : ∃ Q, w2.heap.size = Q := ⟨_, rfl⟩
  obtain ⟨V, hV⟩ : ∃ V, w2.alloc (.cells #[.string ⟨#[65]⟩, .string ⟨#[97]⟩] 39) = V := ⟨_, rfl⟩
  have hs : Sto w1 [(Q, kB15)] 0 h [] (newS 4096 64 0) V := hx2.pin (by rw [← hV]; exact (Below.refl _ _).alloc (Nat.le_refl _) _) (by omega) (by rw [← hV, ← hQ]; exact heap_alloc_new w2 _)
  have HX4 : Hid (FrSt w1 Q 0 h [] (fst15 (o.map Fx.fld) 0) (.slice none 0 0) [] V) := ⟨_, hs, List.mem_singleton.2 rfl, RowSt.nil KTx hs.bel hs.bel.size, fun k hk => by cases hk⟩
  have HIS : Hid (∀ {nr gs S v l W'}, FrSt w1 Q nr h gs S v l W' → KU8.Is W' (.slice po ord.length co) ord ∧ IsXs W' (.slice pv o.length cv) o) := fun {nr gs S v l W'} ⟨_, x, _⟩ => HIN.out W' (bel_then HB1.out HB1.out.size x.bel)
  clear hx2 HN HIN hs
  go_upto_region 6 with fail
  try rw [hV]
  try rw [hQ]
  go_wp2_with fail
  go_loopg [10, 28] n (fun gg vl vi wr => ∃ (gs : List Nat) (p : Option Addr) (c : Nat), vl = .slice p gs.length c ∧ vi = .int .u8 (gs.length : Nat) ∧ gs.length ≤ n ∧ n - gs.length ≤ gg ∧ Hid (FrSt w1 Q (2 * gs.length) h gs (fst15 (o.map Fx.fld) gs.length) (.slice p gs.length c) gs wr ∧ (gs = [] ∨ codePW g15 (o.map Fx.fld) = 0)))
  case atStart => exact ⟨[], none, 0, rfl, rfl, by simp, by simp, HX4.out, Or.inl rfl⟩
  case round =>
    clear HX4
    obtain ⟨gs, p, c, rfl, rfl, hi, hgk, HI⟩ := hrel
    by_cases hlt : gs.length < n
    · have hltz : ((gs.length : Nat) : Int) < ((n : Nat) : Int) := by omega
      have HBG := hid (HI.out.1.begin (by omega))
      clear HI
      go_wp2_with fail
      refine HBG.out.mono ?_
      rintro e w3 ⟨g, rfl, hx3⟩
      obtain ⟨k0, k1⟩ := hx3.key
      have HPU := hid (hx3.putx (by omega) (i := gs.length) (g := g) (by simp) (f15_at _ _) g15 g15_fit (.slice pv o.length cv) o (o.map Fx.fld) (HIS.out hx3).2 HFX.out rfl)
      simp only [show g15.1 = ⟨#[65]⟩ from rfl, show g15.2 = ⟨#[97]⟩ from rfl] at HPU
      clear hx3 HBG
      by_cases hcd : codePW g15 (o.map Fx.fld) = 0
      · rw [f15_push _ _ hcd, show (writeS (freshX 0) g15 (o.map Fx.fld)).1 = codePW g15 (o.map Fx.fld) from rfl, hcd] at HPU
        have HCD := hid hcd
        clear hcd
        go_wp2_with fail
        refine HPU.out.mono ?_
        rintro e w4 ⟨rfl, hx4⟩
        obtain ⟨B, hB⟩ : ∃ B, w4.heap.size = B := ⟨_, rfl⟩
        obtain ⟨X, hX⟩ : ∃ X, w4.alloc (.cells #[.pointer (some ⟨g, 0, none⟩)] 64) = X := ⟨_, rfl⟩
        have hx5 := hx4.on (w' := X) (by rw [← hX]; exact (Below.refl _ _).alloc (Nat.le_refl _) _)
        have HBX : Hid (X.heap[B]? = some (.cells (KTx.enc g).toArray 64 (0, 0))) := by
          show X.heap[B]? = _
          rw [← hX, ← hB]; exact heap_alloc_new w4 _
        have HRW : Hid (RowSt KTx w1.heap.size w1 (.slice p gs.length c) gs X) := by obtain ⟨_, _, _, r, _⟩ := hx5; exact r
        have HX5 := hid hx5
        clear hx4 hx5 HPU k0 k1
        go_wp2_with (first
          | (at_builtin
             (try rw [hB]); (try rw [hX])
             refine wpList_push KTx rfl _ _ 33 rfl i0 _ 8 Tryz.underlying33 HI0.out hz0 hz1 hz2 rfl w1.heap.size w1 (.slice p gs.length c) gs rfl HRW.out g B 1 1 rfl rfl _ _ HBX.out (by unfold maxLen; omega) (by omega) ?_
             intro g3 c3 w5 r1 r2 r3
             have HX6 := hid (HX5.out.push r1 r2 r3)
             clear r1 r2 r3)
          | fail)
        have hln : (gs ++ [g]).length = gs.length + 1 := by simp
        go_roundg (n - (gs.length + 1))
        case measure => omega
        exact ⟨gs ++ [g], some ⟨g3, 0, none⟩, c3, by rw [hln], by rw [hln]; go_num, by omega, by omega, by rw [hln]; exact HX6.out, Or.inr HCD.out⟩
      · have h3 := f15_code _ hcd
        rw [show (writeS (freshX 0) g15 (o.map Fx.fld)).1 = codePW g15 (o.map Fx.fld) from rfl, h3] at HPU
        clear hcd h3
        go_wp2_with fail
        refine HPU.out.mono ?_
        rintro e w4 ⟨rfl, hx4⟩
        have HBE : Hid (Below w.heap.size w w4) := by
          obtain ⟨_, q, _⟩ := hx4
          exact bel_then HB1.out HB1.out.size q.bel
        clear HPU k0 k1 hx4
        go_wp2_with fail
        go_ret
        exact ⟨rfl, HBE.out⟩
    · have hltz : ¬ ((gs.length : Nat) : Int) < ((n : Nat) : Int) := by omega
      have hgn : gs.length = n := by omega
      have HGO : Hid (FrSt w1 Q (2 * n) h gs (fst15 (o.map Fx.fld) n) (.slice p gs.length c) gs wr ∧ (gs = [] ∨ codePW g15 (o.map Fx.fld) = 0)) := by
        show _ ∧ _
        rw [← hgn]; exact HI.out
      have HCD : Hid (∀ j, j < gs.length → codePW g15 (o.map Fx.fld) = 0) := fun j hj => by
        rcases HGO.out.2 with e | e
        · rw [e] at hj; simp at hj
        · exact e
      clear HI
      go_wp2_with fail
      go_loopg [13, 47] ord.length (fun gg vd vi wr => ∃ (i : Nat) (d : Int) (S : Sv), vd = .int .i64 d ∧ vi = .int .i64 i ∧ i ≤ ord.length ∧ ord.length - i ≤ gg ∧ Hid (FrSt w1 Q (2 * n) h gs S (.slice p gs.length c) gs wr ∧ FirstSt (o.map Fx.fld) n d S))
      case atStart => exact ⟨0, 0, _, rfl, rfl, by omega, by omega, HGO.out.1, f15_start _ _⟩
      case round =>
        clear HGO hltz hlt hi hgk
        obtain ⟨i, d, S, rfl, rfl, hi, hgk, HI⟩ := hrel
        by_cases hlt : i < ord.length
        · have hltz : (i : Int) < (ord.length : Int) := by omega
          have hiz : (0 : Int) ≤ i := by omega
          obtain ⟨b7, o7, rfl, y0⟩ := ku8_at (HIS.out HI.out.1).1 hlt
          obtain ⟨x, hxe⟩ : ∃ x : Nat, ord[i] = (x : Int) := ⟨(ord[i]).toNat, by have := (HOB.out _ (List.getElem_mem hlt)).1; omega⟩
          have hx255 : x ≤ 255 := by have := (HOB.out _ (List.getElem_mem hlt)).2; omega
          rw [hxe] at y0
          clear hxe
          by_cases hxl : x < gs.length
          · have hxz : ¬ ((gs.length : Nat) : Int) ≤ (x : Int) := by omega
            have hxz' : (x : Int) < ((gs.length : Nat) : Int) := by omega
            have hx0 : (0 : Int) ≤ (x : Int) := by omega
            obtain ⟨b8, o8, rfl, y1⟩ := HI.out.1.row hxl
            have hgx : gs[x]? = some gs[x] := List.getElem?_eq_getElem hxl
            have hxn : x < S.txs.length := by rw [HI.out.2.len]; omega
            obtain ⟨t, ht⟩ : ∃ t, S.txs[x]? = some t := ⟨_, List.getElem?_eq_getElem hxn⟩
            have htm : t ∈ S.txs := List.mem_of_getElem? ht
            have HEN := hid (HI.out.1.ended hgx ht)
            have HCM := hid (HI.out.1.commit (by omega) hgx ht)
            generalize gs[x] = gx at *
            clear hgx ht hxn
            cases he : t.ended with
            | true =>
              rw [he] at HEN
              rw [f15_over x he] at HCM
              have HFS := hid HI.out.2
              clear HI he htm
              go_wp2_with fail
              refine HEN.out.mono ?_
              rintro e W3 ⟨rfl, rfl⟩
              clear HEN
              go_wp2_with fail
              refine HCM.out.mono ?_
              rintro e w5 ⟨rfl, hx5⟩
              have HX5 := hid hx5
              clear hx5 HCM y0 y1
              go_wp2_with fail
              go_roundg (ord.length - (i + 1))
              case measure => omega
              exact ⟨i + 1, d, S, rfl, by go_num, by omega, by omega, HX5.out, HFS.out⟩
            | false =>
              have htt := HI.out.2.txs t htm he
              subst htt
              rw [he] at HEN
              by_cases hd : d = 0
              · subst hd
                obtain ⟨e1, e2⟩ := HI.out.2.goes (HCD.out x hxl) x
                rw [e1] at HCM
                have HFS := hid e2
                clear HI he htm e1 e2
                go_wp2_with fail
                refine HEN.out.mono ?_
                rintro e W3 ⟨rfl, rfl⟩
                clear HEN
                go_wp2_with fail
                refine HCM.out.mono ?_
                rintro e w5 ⟨rfl, hx5⟩
                have HX5 := hid hx5
                clear hx5 HCM y0 y1
                go_wp2_with fail
                go_roundg (ord.length - (i + 1))
                case measure => omega
                exact ⟨i + 1, 1, _, rfl, by go_num, by omega, by omega, HX5.out, HFS.out⟩
              · obtain ⟨e1, e2⟩ := HI.out.2.clash x hd
                have hdb : (d == 0) = false := by simpa using hd
                rw [e1] at HCM
                have HFS := hid e2
                clear HI he htm e1 e2
                go_wp2_with fail
                refine HEN.out.mono ?_
                rintro e W3 ⟨rfl, rfl⟩
                clear HEN
                go_wp2_with fail
                refine HCM.out.mono ?_
                rintro e w5 ⟨rfl, hx5⟩
                have HX5 := hid hx5
                clear hx5 HCM y0 y1
                go_wp2_with fail
                go_roundg (ord.length - (i + 1))
                case measure => omega
                exact ⟨i + 1, d, _, rfl, by go_num, by omega, by omega, HX5.out, HFS.out⟩
          · have hxz : ((gs.length : Nat) : Int) ≤ (x : Int) := by omega
            go_wp2_with fail
            go_roundg (ord.length - (i + 1))
            case measure => omega
            exact ⟨i + 1, d, S, rfl, by go_num, by omega, by omega, HI.out⟩
        · have hltz : ¬ (i : Int) < (ord.length : Int) := by omega
          have hd := HI.out.2.either
          have HCO := hid (HI.out.1.count (by omega))
          obtain ⟨e1, e2⟩ := HI.out.2.count
          rw [e1] at HCO
          have HE2 := hid e2
          clear HI e1 e2
          rcases hd with rfl | rfl
          · go_wp2_with fail
            refine HCO.out.mono ?_
            rintro e w5 ⟨rfl, Z, hx5⟩
            have HLA := hid (w15_last hx5)
            rw [HE2.out] at HLA
            clear hx5 HCO
            go_wp2_with fail
            refine HLA.out.mono ?_
            rintro e w6 ⟨rfl, hx6⟩
            have HBE := hid (bel_then HB1.out HB1.out.size hx6.bel)
            clear hx6
            go_wp2_with fail
            go_ret
            exact ⟨rfl, HBE.out⟩
          · go_wp2_with fail
            refine HCO.out.mono ?_
            rintro e w5 ⟨rfl, Z, hx5⟩
            have HLA := hid (w15_last hx5)
            rw [HE2.out] at HLA
            clear hx5 HCO
            go_wp2_with fail
            refine HLA.out.mono ?_
            rintro e w6 ⟨rfl, hx6⟩
            have HBE := hid (bel_then HB1.out HB1.out.size hx6.bel)
            clear hx6
            go_wp2_with fail
            go_ret
            exact ⟨rfl, HBE.out⟩
end Go.Proofs.YtmhlcnmfbolgdaaGreat

namespace Go.Proofs.YtmhlcnmfbolgdaaGreat
theorem and_storeFirst {a b : Bool} (ha : a = true) (hb : b = true) : (a && b) = true := by rw [ha, hb]; rfl
theorem fact_storeFirst_0 : (Rows.storeFirstRow.wf (OpenSpec.ofChange Rows.storeFirstSpec)) = true := by kernel_rfl
theorem fact_storeFirst_1 : (laidOutB Tryz.pinned.checked.prog) = true := by kernel_rfl
theorem fact_storeFirst_2 : (mapsRowed Tryz.pinned.checked.prog) = true := by kernel_rfl
theorem fact_storeFirst_3 : (Tryz.f5.params.all (Tryz.pinned.checked.prog.readableRec ·)) = true := by kernel_rfl
theorem fact_storeFirst_4 : (namedTie Tryz.pinned.checked.prog Rows.storeFirstRow.named Rows.storeFirstSpec.vars) = true := by kernel_rfl
theorem fact_storeFirst_5 : ((Rows.storeFirstRow.stops == [])) = true := by kernel_rfl
theorem fact_storeFirst_6 : ((Tryz.pinned.checked.prog.stops == [])) = true := by kernel_rfl
theorem fact_storeFirst_7 : ((Rows.storeFirstRow.knobs == [])) = true := by kernel_rfl
theorem fact_storeFirst_8 : ((Tryz.pinned.checked.prog.stopKnobs == [])) = true := by kernel_rfl
theorem fact_storeFirst_9 : ((Rows.storeFirstRow.inPlace == Tryz.pinned.checked.prog.inPlace 5)) = true := by kernel_rfl
theorem fact_storeFirst_10 : ((Rows.storeFirstRow.unfollowed == Tryz.pinned.checked.prog.unfollowed 5)) = true := by kernel_rfl
theorem fact_storeFirst_11 : ((Rows.storeFirstRow.recurses == Tryz.pinned.checked.prog.recurses 5)) = true := by kernel_rfl
theorem fact_storeFirst_12 : ((Rows.storeFirstRow.named == Tryz.pinned.checked.prog.varsNamed 5)) = true := by kernel_rfl
theorem fact_storeFirst_13 : ((Rows.storeFirstRow.maps == (Tryz.f5.params.toList ++ Rows.storeFirstSpec.plain.varTypes Tryz.pinned.checked.prog).any (Tryz.pinned.checked.prog.mapsRec ·))) = true := by kernel_rfl
theorem fact_storeFirst_14 : ((Rows.storeFirstRow.ifaces == (Tryz.f5.params.toList ++ Rows.storeFirstSpec.plain.varTypes Tryz.pinned.checked.prog).any (Tryz.pinned.checked.prog.ifacesRec ·))) = true := by kernel_rfl
theorem fact_storeFirst_15 : ((Rows.storeFirstRow.mapsOut == Tryz.pinned.checked.prog.mapsAmong Tryz.f5.resultTypes.toList)) = true := by kernel_rfl
theorem fact_storeFirst_16 : ((Rows.storeFirstRow.loops == (Tryz.f5.params.toList ++ Rows.storeFirstSpec.plain.varTypes Tryz.pinned.checked.prog).any (Tryz.pinned.checked.prog.loopsFrom ·))) = true := by kernel_rfl
theorem fact_storeFirst_17 : ((Rows.storeFirstRow.wideKeys == (Tryz.f5.params.toList ++ Rows.storeFirstSpec.plain.varTypes Tryz.pinned.checked.prog ++ Tryz.f5.resultTypes.toList).any (Tryz.pinned.checked.prog.wideKeysFrom ·))) = true := by kernel_rfl
theorem fact_storeFirst_18 : (Rows.storeFirstSpec.vars.all (Tryz.pinned.checked.prog.varReadable ·)) = true := by kernel_rfl
theorem fact_storeFirst_19 : (Tryz.f5.resultTypes.all (fun t => Tryz.pinned.checked.prog.readableRec t && decide (t < Tryz.pinned.checked.prog.types.size))) = true := by kernel_rfl
theorem fact_storeFirst_20 : ((Rows.storeFirstRow.ifacesOut == Tryz.f5.resultTypes.toList.any (Tryz.pinned.checked.prog.ifacesRec ·))) = true := by kernel_rfl
theorem fact_storeFirst_21 : ((Rows.storeFirstRow.loopsOut == Tryz.f5.resultTypes.toList.any (Tryz.pinned.checked.prog.loopsFrom ·))) = true := by kernel_rfl
theorem fact_storeFirst_22 : ((Rows.storeFirstRow.plainKeys == Tryz.pinned.checked.prog.plainKeys)) = true := by kernel_rfl
theorem fact_storeFirst_23 : (Rows.storeFirstRow.shortTexts.isNone) = true := by kernel_rfl
theorem fact_storeFirst_24 : (Tryz.pinned.checked.prog.stopsHeard) = true := by kernel_rfl
theorem fact_storeFirst_25 : (Tryz.pinned.checked.prog.mayEnter) = true := by kernel_rfl
theorem fact_storeFirst_26 : ((Rows.storeFirstRow.lifted == Tryz.pinned.checked.prog.liftsFinal)) = true := by kernel_rfl
theorem fact_storeFirst_27 : ((Tryz.pinned.checked.prog.make == some Rows.storeFirstRow.make)) = true := by kernel_rfl
theorem fact_storeFirst_28 : ((Rows.storeFirstRow.kinds == (if Rows.storeFirstRow.domain.isEmpty then [] else Tryz.f5.params.toList.map fun t => match Tryz.pinned.checked.prog.underlying t with | some (.int k) => some k | _ => none))) = true := by kernel_rfl
theorem fact_storeFirst_29 : ((Rows.storeFirstRow.pinned == Rows.storeFirstRow.pinnedBy)) = true := by kernel_rfl
theorem fact_storeFirst_30 : ((Rows.storeFirstRow.veiled == (Tryz.f5.params.toList ++ Rows.storeFirstSpec.plain.varTypes Tryz.pinned.checked.prog ++ Tryz.f5.resultTypes.toList).any (Tryz.pinned.checked.prog.veiledRec ·))) = true := by kernel_rfl
theorem fact_storeFirst_31 : (Rows.storeFirstRow.veiledFits Tryz.pinned.checked.prog Tryz.f5.params.toList (Tryz.f5.params.toList ++ Rows.storeFirstSpec.plain.varTypes Tryz.pinned.checked.prog ++ Tryz.f5.resultTypes.toList)) = true := by kernel_rfl
end Go.Proofs.YtmhlcnmfbolgdaaGreat
