/-
  Texts of this claim, one behind the other: Hw4 Hd0 Hdm Trm Rp0 Rp1 Rp2 Pc0 Kst Kr0 Rfm Ris Kro Kss Ksc Re4 Re5 Hd1 Hd2 Hd3 Hp7.
-/
import Derived.Test.YtelcongbnmfegaaGreatDoorPd
import Derived.Test.YtelcongbnmfegaaGreatDoorPc
import Derived.Test.YtelcongbnmfegaaGreatDoorPb
import Derived.Test.YtelcongbnmfegaaGreatDoorPa
import Derived.Deep.CutRange
import Derived.Laws.StructEq
import Derived.Shelf.SlSortCmp.SmallK
import Derived.Lib.SlicesCompact
import Derived.Lib.SliceRun
import Derived.Shelf.Sort.Plain
import Derived.Shelf.Slices.CompactS
import Derived.Shelf.Slices.In.SortNone
import Derived.Sort.OwnSorted
import Derived.Lib.OwnBridge
import Derived.Laws.RangeString
import Derived.Lib.IndexAny
import Derived.ChangeMaps5
import Derived.Deep.QuietTactic
import Derived.BigQuiet
import Derived.WalkMore
/-
  The contract of Apply.
-/
namespace Go.Proofs.YtelcongbnmfegaaGreatDoor
open Go.RowKit Go.Lib

/-- What Apply answers: memory of its own. -/
def ApMine (w : World) (V : List Fld) (l : List Ed) (e : Ending) (w' : World) : Prop :=
  ∃ u o, e = .returned (.tuple #[u, .int .i64 (codeA V l)]) ∧ OwnJ w.heap.size w' u o ∧ o.map Fx.fld = ansA V l ∧ Below w.heap.size w w'

theorem ap_nil {w w' : World} {V : List Fld} {l : List Ed} {c : Int} {e : Ending} (hc : codeA V l = c) (h0 : c ≠ 0) (he : e = .returned (.tuple #[.slice none 0 0, .int .i64 c])) (hb : Below w.heap.size w w') : ApMine w V l e w' :=
  ⟨_, [], by rw [he, hc], ownJ_none _ _, by rw [ansA_none (by rw [hc]; exact h0)]; rfl, hb⟩

set_option maxHeartbeats 1000000 in
theorem deedOf1 (n t : ByteArray) (w : World) : Calls Tryz.prog 25 #[.agg #[.int .i64 1, .string n, .string t]] w fun e w' => e = .returned (.func (.func 52) #[] #[.pointer (some ⟨w.heap.size, 0, none⟩)]) ∧ w' = w.alloc (.cells #[.int .i64 1, .string n, .string t] 46) := by
  go_enter Tryz.func25, Tryz.ntmps25
  go_wp2_with fail
  go_ret
  exact ⟨rfl, rfl⟩
set_option maxHeartbeats 1000000 in
theorem deedOf2 (n t : ByteArray) (w : World) : Calls Tryz.prog 25 #[.agg #[.int .i64 2, .string n, .string t]] w fun e w' => e = .returned (.func (.func 54) #[] #[.pointer (some ⟨w.heap.size, 0, none⟩)]) ∧ w' = w.alloc (.cells #[.int .i64 2, .string n, .string t] 46) := by
  go_enter Tryz.func25, Tryz.ntmps25
  go_wp2_with fail
  go_ret
  exact ⟨rfl, rfl⟩
set_option maxHeartbeats 1000000 in
theorem deedOf3 (n t : ByteArray) (w : World) : Calls Tryz.prog 25 #[.agg #[.int .i64 3, .string n, .string t]] w fun e w' => e = .returned (.func (.func 55) #[] #[.pointer (some ⟨w.heap.size, 0, none⟩)]) ∧ w' = w.alloc (.cells #[.int .i64 3, .string n, .string t] 46) := by
  go_enter Tryz.func25, Tryz.ntmps25
  go_wp2_with fail
  go_ret
  exact ⟨rfl, rfl⟩
set_option maxHeartbeats 1000000 in
theorem deedOf4 (n t : ByteArray) (w : World) : Calls Tryz.prog 25 #[.agg #[.int .i64 4, .string n, .string t]] w fun e w' => e = .returned (.func (.func 59) #[] #[.pointer (some ⟨w.heap.size, 0, none⟩)]) ∧ w' = w.alloc (.cells #[.int .i64 4, .string n, .string t] 46) := by
  go_enter Tryz.func25, Tryz.ntmps25
  go_wp2_with fail
  go_ret
  exact ⟨rfl, rfl⟩
set_option maxHeartbeats 1000000 in
theorem deedOf5 (n t : ByteArray) (w : World) : Calls Tryz.prog 25 #[.agg #[.int .i64 5, .string n, .string t]] w fun e w' => e = .returned (.func (.func 60) #[] #[.pointer (some ⟨w.heap.size, 0, none⟩)]) ∧ w' = w.alloc (.cells #[.int .i64 5, .string n, .string t] 46) := by
  go_enter Tryz.func25, Tryz.ntmps25
  go_wp2_with fail
  go_ret
  exact ⟨rfl, rfl⟩

/-- What an edit that may be does, whatever its kind. -/
theorem deed_any {xo : Int} (n t : ByteArray) (h1 : 1 ≤ xo) (h5 : xo ≤ 5) : ∃ fn : Nat, (∀ args w, (callFunc fn args).run Tryz.prog w = .ok (.enter fn args) w) ∧
    (∀ w, Calls Tryz.prog 25 #[.agg #[.int .i64 xo, .string n, .string t]] w fun e w' => e = .returned (.func (.func fn) #[] #[.pointer (some ⟨w.heap.size, 0, none⟩)]) ∧ w' = w.alloc (.cells #[.int .i64 xo, .string n, .string t] 46)) ∧
    ∀ (N g k : Nat) (v : Value) (o : List Fx) (w : World), OwnJ N w v o → OkR k (o.map Fx.fld) → k ≤ 1000 → BoxE w g (xo, n, t) → N ≤ w.heap.size → Calls Tryz.prog fn #[v, .pointer (some ⟨g, 0, none⟩)] w fun e w' => DeedPost N w (o.map Fx.fld) (xo, n, t) e w' := by
  have : xo = 1 ∨ xo = 2 ∨ xo = 3 ∨ xo = 4 ∨ xo = 5 := by omega
  rcases this with rfl | rfl | rfl | rfl | rfl
  · exact ⟨_, enters_of Tryz.func52 (by kernel_rfl) rfl, deedOf1 n t, fun N g k v o w a b c d e => deed1_any N g k v o n t w a b c d e⟩
  · exact ⟨_, enters_of Tryz.func54 (by kernel_rfl) rfl, deedOf2 n t, fun N g k v o w a b c d e => deed2_any N g k v o n t w a b c d e⟩
  · exact ⟨_, enters_of Tryz.func55 (by kernel_rfl) rfl, deedOf3 n t, fun N g k v o w a b c d e => deed3_any N g k v o n t w a b c d e⟩
  · exact ⟨_, enters_of Tryz.func59 (by kernel_rfl) rfl, deedOf4 n t, fun N g k v o w a b c d e => deed4_any N g k v o n t w a b c d e⟩
  · exact ⟨_, enters_of Tryz.func60 (by kernel_rfl) rfl, deedOf5 n t, fun N g k v o w a b c d e => deed5_any N g k v o n t w a b c d e⟩

theorem tot_le {fs : List Fld} (h : ∀ f ∈ fs, f.2.length ≤ 8) : totF fs ≤ fs.length * 8 := by
  induction fs with
  | nil => simp [totF]
  | cons f fs ih =>
    have h1 := ih fun g hg => h g (by simp [hg])
    have h2 := h f (by simp)
    have e : totF (f :: fs) = f.2.length + totF fs := by simp [totF]
    rw [e, List.length_cons]
    omega

/-- Norm of a normal value: itself, in memory of its own. -/
theorem norm_normal (v : Value) (d : List Fx) (w : World) (hv : IsXs w v d) (hf : FitX d) (hm : mayB (d.map Fx.fld) = true) :
    Calls Tryz.prog 24 #[v] w fun e w' => ∃ u o, e = .returned (.tuple #[u, .int .i64 0]) ∧ OwnJ w.heap.size w' u o ∧ o.map Fx.fld = d.map Fx.fld ∧ Below w.heap.size w w' := by
  obtain ⟨h1, h2, h3⟩ := mayR hm
  have ht := tot_le (fs := d.map Fx.fld) fun f hf => (fitsP (h2 f hf)).2.2.1
  have hl : d.length ≤ 16 := by rwa [List.length_map] at h1
  refine (norm_any v d w hv hf (by omega) (by omega)).mono ?_
  rintro e w' ⟨hp, hb⟩
  have hmis : (d.map Fx.fld).any misB = false := List.any_eq_false.2 fun f hf => by
    unfold misB
    rw [(fitsP (h2 f hf)).1]
    decide
  have key : ∀ ds, SortOf d ds → joinS (ds.map Fx.fld) = d.map Fx.fld := fun ds hs => by
    rw [sortOf_flds hs]
    exact groups_unique (normF_groups _) (groups_self h3)
  have hbare : (d.map Fx.fld).any bareB = false := List.any_eq_false.2 fun f hf => by
    unfold bareB
    have := (fitsP (h2 f hf)).2.1
    cases hq : f.2 with
    | nil => exact absurd hq this
    | cons _ _ => simp
  rcases hp with ⟨k, _⟩ | ⟨_, ds, hs, k⟩
  · rw [hmis] at k; cases k
  · rw [key ds hs] at k
    rcases k with ⟨k, _⟩ | ⟨_, k, _⟩ | ⟨_, _, u, o, he, ho, hom⟩
    · rw [hbare] at k; cases k
    · rw [hm] at k; cases k
    · exact ⟨u, o, he, ho, hom, hb⟩

/-- Apply on its way: i edits are done. -/
def MSt (w : World) (V : List Fld) (l : List Ed) (i : Nat) (vr : Value) (wr : World) : Prop :=
  ∃ o : List Fx, OwnJ w.heap.size wr vr o ∧ OkR i (o.map Fx.fld) ∧ runE V l = runE (o.map Fx.fld) (l.drop i) ∧ Below w.heap.size w wr

theorem mst_go {w w5 : World} {V R : List Fld} {l : List Ed} {i : Nat} {x : Ed} {u : Value} {o2 : List Fx} (hd : l.drop i = x :: l.drop (i + 1)) (hn : namedE x = true) (hs : shortE x = true) (hok : OkR i R)
    (hrun : runE V l = runE R (l.drop i)) (he : (doE R x).1 = 0) (ho : OwnJ w.heap.size w5 u o2) (hm : o2.map Fx.fld = (doE R x).2) (hb : Below w.heap.size w w5) : MSt w V l (i + 1) u w5 := by
  refine ⟨o2, ho, ?_, ?_, hb⟩
  · rw [hm]
    exact okR_do hok hn hs he
  · rw [hrun, hd, runE, if_pos he, hm]

set_option maxHeartbeats 8000000 in
set_option maxRecDepth 100000 in
theorem papply_mine (v u : Value) (d : List Fx) (l : List Ed) (w : World) (hv : IsXs w v d) (hf : FitX d) (hu : KE.Is w u l) (hfl : FitE l) :
    Calls Tryz.prog 10 #[v, u] w fun e w' => ApMine w (d.map Fx.fld) l e w' := by
  have HMV := hid (may_any v d w hv hf)
  have HME := hid (fun W (hW : Below w.heap.size w W) => pmayE_raw u l W (KE.is_kept hu hW) hfl)
  obtain ⟨V, hV⟩ : ∃ V, d.map Fx.fld = V := ⟨_, rfl⟩
  cases hmv : mayB (d.map Fx.fld) with
  | false =>
    rw [hmv] at HMV
    have H0 : Hid (codeA V l = 3) := by show _ = _; rw [← hV]; exact codeA_field hmv
    rw [hV]
    clear hmv hV hv hf hu hfl
    go_enter Tryz.func10, Tryz.ntmps10
    go_wp2_with fail
    refine HMV.out.mono ?_
    rintro e w1 ⟨rfl, hg1⟩
    have HB1 := hid hg1.below
    clear hg1
    go_wp2_with fail
    go_ret2
    exact ap_nil H0.out (by decide) rfl HB1.out
  | true =>
  rw [hmv] at HMV
  by_cases hme : mayE l = 0
  · have HNO := hid (fun W (hW : Below w.heap.size w W) => norm_normal v d W (hv.kept hW) hf hmv)
    have HOK := hid (okR_may hmv)
    rw [hme] at HME
    obtain ⟨hl16, hen, her, hes⟩ := mayE_zero hme
    have H1 : Hid (mayB V = true) := by show _ = _; rw [← hV]; exact hmv
    have H2 := hid hme
    have HEN := hid hen
    have HER := hid her
    have HES := hid hes
    rw [hV] at HOK HNO ⊢
    obtain ⟨q, cap, rfl, hd⟩ := hu
    have HD := hid hd
    clear hmv hme hV hv hf hfl hen her hes hd
    go_enter Tryz.func10, Tryz.ntmps10
    go_wp2_with fail
    refine HMV.out.mono ?_
    rintro e w1 ⟨rfl, hg1⟩
    have HB1 := hid hg1.below
    clear hg1
    go_wp2_with fail
    refine (HME.out _ HB1.out).mono ?_
    rintro e w2 ⟨rfl, hb2⟩
    have HB2 := hid (bel_then HB1.out HB1.out.size hb2)
    clear hb2
    go_wp2_with fail
    refine (HNO.out _ HB2.out).mono ?_
    rintro e w3 ⟨u7, o3, rfl, hoj, hm3, hb3⟩
    have HST : Hid (MSt w V l 0 u7 w3) := ⟨o3, ⟨⟨own_weak hoj.1.1 HB2.out.size, fun x hx => own_weak (hoj.1.2 x hx) HB2.out.size⟩, hoj.2⟩, by rw [hm3]; exact HOK.out, by rw [hm3]; rfl, bel_then HB2.out HB2.out.size hb3⟩
    clear hoj hm3 hb3
    go_wp2_with fail
    go_loopg [7, 27] l.length (fun g vr vi wr => ∃ i : Nat, vi = .int .i64 i ∧ i ≤ l.length ∧ l.length - i ≤ g ∧ Hid (MSt w V l i vr wr))
    case atStart => exact ⟨0, rfl, by omega, by omega, HST⟩
    case round =>
    clear HST HMV HME HNO HOK
    obtain ⟨i, rfl, hi, hgk, HST⟩ := hrel
    obtain ⟨o, hoj, hok, hrun, hbo⟩ := HST.out
    clear HST
    by_cases hlt : i < l.length
    · have hltz : (i : Int) < (l.length : Int) := by omega
      have hiz : (0 : Int) ≤ i := by omega
      obtain ⟨b, off, rfl, hat⟩ : ∃ b off, q = some ⟨b, off, none⟩ ∧ KE.At w b off l := by
        rcases HD.out with h | h
        · subst h; simp at hlt
        · exact h
      obtain ⟨c0, c1, c2⟩ := ke_cells (Kind.at_kept hat hbo) i hlt
      have hdr : l.drop i = l[i] :: l.drop (i + 1) := List.drop_eq_getElem_cons hlt
      have hxn := HEN.out _ (List.getElem_mem hlt)
      have hxr := HER.out _ (List.getElem_mem hlt)
      have hxs := HES.out _ (List.getElem_mem hlt)
      obtain ⟨x, hx⟩ : ∃ x, l[i] = x := ⟨_, rfl⟩
      rw [hx] at c0 c1 c2 hdr hxn hxr hxs
      obtain ⟨xo, xf, xt⟩ := x
      simp only at c0 c1 c2
      have hor : 1 ≤ xo ∧ xo ≤ 5 := by
        unfold rightE at hxr
        simp only [Bool.and_eq_true, decide_eq_true_eq] at hxr
        exact ⟨hxr.1.1, hxr.1.2⟩
      obtain ⟨fn, eg, hdo, hcall⟩ := deed_any (xo := xo) xf xt hor.1 hor.2
      obtain ⟨R, hR⟩ : ∃ R, o.map Fx.fld = R := ⟨_, rfl⟩
      obtain ⟨W, hW⟩ : ∃ W, wr.alloc (.cells #[.int .i64 xo, .string xf, .string xt] 46) = W := ⟨_, rfl⟩
      obtain ⟨W2, hW2⟩ : ∃ W2, W.alloc (.cells #[.int .i64 xo, .string xf, .string xt] 46) = W2 := ⟨_, rfl⟩
      have hb1 : Below wr.heap.size wr W2 := by
        rw [← hW2, ← hW]
        exact ((Below.refl _ _).alloc (Nat.le_refl _) _).alloc (by simp) _
      have HDO : Hid (Calls Tryz.prog 25 #[.agg #[.int .i64 xo, .string xf, .string xt]] W fun e w' => e = .returned (.func (.func fn) #[] #[.pointer (some ⟨W.heap.size, 0, none⟩)]) ∧ W2 = w') := (hdo W).mono fun e w' h => ⟨h.1, by rw [h.2, hW2]⟩
      have hbw : BoxE W wr.heap.size (xo, xf, xt) := by rw [← hW]; exact boxE_new wr (xo, xf, xt)
      obtain ⟨d0, d1, d2⟩ := hbw.cells
      simp only at d0 d1 d2
      have hbx : BoxE W2 W.heap.size (xo, xf, xt) := by rw [← hW2]; exact boxE_new W (xo, xf, xt)
      have hcl := hcall w.heap.size W.heap.size i _ o W2 (hoj.on hb1) hok (by omega) hbx (Nat.le_trans hbo.size hb1.size)
      rw [hR] at hcl hok hrun
      have HCL := hid hcl
      have HBO := hid (show Below w.heap.size w W2 from bel_then hbo hbo.size hb1)
      have HOK := hid hok
      have HRUN := hid hrun
      have HDR := hid hdr
      have HXN := hid hxn
      have HXS := hid hxs
      clear hbw hat hx hdr hxn hxr hxs hor hdo hcall hoj hok hrun hbo hbx hcl hR hb1
      by_cases hq : (doE R (xo, xf, xt)).1 = 0
      · have HCZ : Hid (Calls Tryz.prog fn #[_, .pointer (some ⟨W.heap.size, 0, none⟩)] W2 fun e w' => ∃ u o', e = .returned (.tuple #[u, .int .i64 0]) ∧ OwnJ w.heap.size w' u o' ∧ o'.map Fx.fld = (doE R (xo, xf, xt)).2 ∧ Below w.heap.size W2 w') := HCL.out.mono fun e w' h => by
          obtain ⟨u, o', a1, a2, a3, a4⟩ := h
          rw [hq] at a1
          exact ⟨u, o', a1, a2, a3, a4⟩
        have HQ := hid hq
        clear HCL hq
        go_wp2_with fail
        refine HDO.out.mono ?_
        rintro e w4 ⟨rfl, rfl⟩
        go_wp2_with (go_at_fn fn; refine HCZ.out.mono ?_; rintro e w5 ⟨u5, o5, rfl, ho5, hm5, hb5⟩; have HO5 := hid ho5; have HM5 := hid hm5; have HB5 := hid hb5; clear ho5 hm5 hb5)
        go_roundg (l.length - (i + 1))
        case measure => omega
        exact ⟨i + 1, by go_num, by omega, by omega, mst_go HDR.out HXN.out HXS.out HOK.out HRUN.out HQ.out HO5.out HM5.out (HBO.out.trans HB5.out)⟩
      · obtain ⟨c, hc⟩ : ∃ c, (doE R (xo, xf, xt)).1 = c := ⟨_, rfl⟩
        have hne : (c != 0) = true := by rw [bne_iff_ne, ← hc]; exact hq
        have HCZ : Hid (Calls Tryz.prog fn #[_, .pointer (some ⟨W.heap.size, 0, none⟩)] W2 fun e w' => ∃ u, e = .returned (.tuple #[u, .int .i64 c]) ∧ Below w.heap.size W2 w') := HCL.out.mono fun e w' h => by
          obtain ⟨u, o', a1, a2, a3, a4⟩ := h
          rw [hc] at a1
          exact ⟨u, a1, a4⟩
        have HCA : Hid (codeA V l = c) := by
          show _ = _
          have e1 : (runE V l).1 = c := by rw [HRUN.out, HDR.out, runE, if_neg hq, hc]
          rw [codeA_run H1.out H2.out (by rw [e1, ← hc]; exact hq), e1]
        have HNZ : Hid (c ≠ 0) := by rw [← hc]; exact hq
        clear HCL hq hc
        go_wp2_with fail
        refine HDO.out.mono ?_
        rintro e w4 ⟨rfl, rfl⟩
        go_wp2_with (go_at_fn fn; refine HCZ.out.mono ?_; rintro e w5 ⟨u5, rfl, hb5⟩; have HB5 := hid hb5; clear hb5)
        go_ret2
        exact ap_nil HCA.out HNZ.out rfl (HBO.out.trans HB5.out)
    · have hltz : ¬ (i : Int) < (l.length : Int) := by omega
      have hil : l.length ≤ i := by omega
      have hrl : runE V l = (0, o.map Fx.fld) := by rw [hrun, List.drop_of_length_le hil]; rfl
      have HRL := hid hrl
      have HMA := hid (may_any _ o wr hoj.1.is (okR_fit hok (by omega)))
      have HOJ := hid hoj
      have HBO := hid hbo
      clear hrun hrl hok hoj hbo
      cases hmm : mayB (o.map Fx.fld) with
      | false =>
        rw [hmm] at HMA
        have HCA : Hid (codeA V l = 5) := codeA_long H1.out H2.out (by rw [HRL.out]) (by rw [HRL.out]; exact hmm)
        go_wp2_with fail
        refine HMA.out.mono ?_
        rintro e w4 ⟨rfl, hg4⟩
        have HG4 := hid hg4.below
        clear hg4
        go_wp2_with fail
        go_ret2
        exact ap_nil HCA.out (by decide) rfl (bel_then HBO.out HBO.out.size HG4.out)
      | true =>
        rw [hmm] at HMA
        have HCA : Hid (codeA V l = 0) := codeA_of H1.out H2.out (by rw [HRL.out]) (by rw [HRL.out]; exact hmm)
        have HAN : Hid (ansA V l = o.map Fx.fld) := by show _ = _; unfold ansA; rw [if_pos HCA.out, HRL.out]
        go_wp2_with fail
        refine HMA.out.mono ?_
        rintro e w4 ⟨rfl, hg4⟩
        have HG4 := hid hg4.below
        clear hg4
        go_wp2_with fail
        go_ret2
        exact ⟨_, o, by rw [HCA.out]; rfl, HOJ.out.on HG4.out, HAN.out.symm, bel_then HBO.out HBO.out.size HG4.out⟩
  · have hne : (mayE l != 0) = true := by rw [bne_iff_ne]; exact hme
    have H0 : Hid (codeA V l = mayE l) := by show _ = _; rw [← hV]; exact codeA_may hmv hme
    have HNZ := hid hme
    obtain ⟨c, hc⟩ : ∃ c, mayE l = c := ⟨_, rfl⟩
    rw [hc] at hne HME H0 HNZ
    rw [hV]
    clear hmv hme hV hv hf hu hfl hc
    go_enter Tryz.func10, Tryz.ntmps10
    go_wp2_with fail
    refine HMV.out.mono ?_
    rintro e w1 ⟨rfl, hg1⟩
    have HB1 := hid hg1.below
    clear hg1
    go_wp2_with fail
    refine (HME.out _ HB1.out).mono ?_
    rintro e w2 ⟨rfl, hb2⟩
    have HB2 := hid (bel_then HB1.out HB1.out.size hb2)
    clear hb2
    go_wp2_with fail
    go_ret2
    exact ap_nil H0.out HNZ.out rfl HB2.out

end Go.Proofs.YtelcongbnmfegaaGreatDoor

/-
  The contracts of slices.Grow of no field, and of slices.Concat of two slices of fields.
-/
namespace Go.Proofs.YtelcongbnmfegaaGreatDoor
open Go.RowKit Go.Lib

set_option maxHeartbeats 2000000 in
set_option maxRecDepth 100000 in
theorem growX_any (m : Nat) (w : World) (hm : m ≤ 1000000) :
    Calls Tryz.prog 97 #[.slice none 0 0, .int .i64 m] w fun e w' => ∃ p c, e = .returned (.slice p 0 c) ∧ RowX w.heap.size w' (.slice p 0 c) [] ∧ Below w.heap.size w w' := by
  obtain ⟨i0, hi0, hz0, hz1, hz2⟩ := info_parts Tryz.infoFld
  have hneg : ¬ ((m : Int) < 0) := by omega
  have hw1 : IntKind.i64.wrap (m : Int) = (m : Int) := by rw [IntKind.wrap_i64]; omega
  by_cases h0 : m = 0
  · subst h0
    go_enter Tryz.func97, Tryz.ntmps97
    go_wp2_with fail
    go_ret
    exact ⟨none, 0, rfl, World.ownsRow_nil _ _ _ _, Below.refl _ _⟩
  · have hpos : (0 : Int) < (m : Int) := by omega
    have hra : ∀ ty, (Builtin.append_ #[22, 3] ty #[.slice none 0 0, .int .i64 m]).run Tryz.prog w = _ := fun ty =>
      Lib.run_append_nil_zeros w 22 3 ty 44 i0 _ .i64 .i64 Tryz.underlying22 Tryz.underlying3 hi0 hz0 m (by omega) (by rw [hz1]; decide) (by omega) (by rw [hz2]; omega)
    obtain ⟨G, hG⟩ : ∃ G, grownCap w m 0 44 = G := ⟨_, rfl⟩
    have hGn : m ≤ G := by rw [← hG]; exact grownCap_ge w _ _ _
    have hGm : G ≤ maxLen := by rw [← hG]; exact grownCap_le_maxLen w m 0 44 (by unfold maxLen; omega)
    rw [hG] at hra
    obtain ⟨L0, hL0⟩ : ∃ L0, Builtin.zeroCells (Value.agg #[.string ⟨#[]⟩, .slice none 0 0]).cells m ++ Builtin.zeroCells (Value.agg #[.string ⟨#[]⟩, .slice none 0 0]).cells (G - m) = L0 := ⟨_, rfl⟩
    have hL0s : L0.size = G * 2 := by
      rw [← hL0, Array.size_append, size_zeroCells, size_zeroCells]
      show m * 2 + (G - m) * 2 = _
      omega
    rw [hL0] at hra
    have HROW : Hid (RowX w.heap.size (w.drew.alloc (.cells L0 44)) (.slice (some ⟨w.heap.size, 0, none⟩) 0 G) []) :=
      rowX_mk rfl (Nat.le_refl _) (heap_alloc_new w.drew _) (Nat.zero_le _) hGm hL0s rfl
    have HB : Hid (Below w.heap.size w (w.drew.alloc (.cells L0 44))) := ((Below.refl _ w).drew).alloc (Nat.le_refl _) _
    have HRA := hid hra
    have hGz : (0 : Int) ≤ (G : Int) := by omega
    clear hra hG hL0 hL0s hi0 hz0 hz1 hz2
    go_enter Tryz.func97, Tryz.ntmps97
    go_wp2_with (at_builtin; refine Lib.wpList_append_run _ rfl _ _ _ _ rfl _ _ rfl rfl _ _ (HRA.out _) ?_)
    go_ret
    exact ⟨_, _, rfl, HROW.out, HB.out⟩

set_option maxHeartbeats 4000000 in
set_option maxRecDepth 100000 in
theorem concatX_any (g : Nat) (pa pb : Option Addr) (ca cb : Nat) (da db : List Fx) (w : World) (hg : w.heap[g]? = some (.cells #[.slice pa da.length ca, .slice pb db.length cb] 22 (0, 0)))
    (ha : da = [] ∨ ∃ b off, pa = some ⟨b, off, none⟩ ∧ XsAt w b off da) (hb : db = [] ∨ ∃ b off, pb = some ⟨b, off, none⟩ ∧ XsAt w b off db) (hla : da.length ≤ 1000) (hlb : db.length ≤ 1000) :
    Calls Tryz.prog 64 #[.slice (some ⟨g, 0, none⟩) 2 2] w fun e w' => ∃ p c, e = .returned (.slice p (da ++ db).length c) ∧ RowX w.heap.size w' (.slice p (da ++ db).length c) (da ++ db) ∧ Below w.heap.size w w' := by
  obtain ⟨i0, hi0, hz0, hz1, hz2⟩ := info_parts Tryz.infoFld
  have HI := hid hi0
  have hgl : g < w.heap.size := (Array.getElem?_eq_some_iff.1 hg).1
  have c0 : w.cell? ⟨g, 0, none⟩ = some (.slice pa da.length ca) := by rw [Lib.cell_of_heap hg]; rfl
  have c1 : w.cell? ⟨g, 1, none⟩ = some (.slice pb db.length cb) := by rw [Lib.cell_of_heap hg]; rfl
  have HC : Hid (∀ W, Below w.heap.size w W → W.cell? ⟨g, 0, none⟩ = some (.slice pa da.length ca) ∧ W.cell? ⟨g, 1, none⟩ = some (.slice pb db.length cb)) := fun W h => ⟨(h.cell (p := ⟨g, 0, none⟩) hgl).trans c0, (h.cell (p := ⟨g, 1, none⟩) hgl).trans c1⟩
  have HSA : Hid (∀ W, Below w.heap.size w W → da.length = 0 ∨ ∃ ad, pa = some ad ∧ ∀ j u, (cellsX da)[j]? = some u → W.cell? (ad.add j) = some u) := fun W h => src_xs (by
    rcases ha with e | ⟨b, off, e, hx⟩
    · exact Or.inl e
    · exact Or.inr ⟨b, off, e, hx.kept h⟩)
  have HSB : Hid (∀ W, Below w.heap.size w W → db.length = 0 ∨ ∃ ad, pb = some ad ∧ ∀ j u, (cellsX db)[j]? = some u → W.cell? (ad.add j) = some u) := fun W h => src_xs (by
    rcases hb with e | ⟨b, off, e, hx⟩
    · exact Or.inl e
    · exact Or.inr ⟨b, off, e, hx.kept h⟩)
  have HGR := hid (growX_any (da.length + db.length) w (by omega))
  have HAP : Hid (cellsX (da ++ db) = cellsX da ++ cellsX db) := cellsX_append da db
  have hw1 : IntKind.i64.wrap ((da.length : Int)) = (da.length : Int) := by rw [IntKind.wrap_i64]; omega
  have hw2 : IntKind.i64.wrap ((da.length : Int) + (db.length : Int)) = (da.length : Int) + (db.length : Int) := by rw [IntKind.wrap_i64]; omega
  have hn1 : ¬ ((da.length : Int) < 0) := by omega
  have hn2 : ¬ ((da.length : Int) + (db.length : Int) < 0) := by omega
  clear hg ha hb hi0 hgl
  go_enter Tryz.func64, Tryz.ntmps64
  go_wp2_with fail
  refine wp_loop_rounds 3 ?_
  rw [rounds_succ]
  go_wp2_with fail
  rw [rounds_succ]
  go_wp2_with fail
  rw [rounds_succ]
  go_wp2_with fail
  refine HGR.out.mono ?_
  rintro e w1 ⟨p1, k1, rfl, hr1, hb1⟩
  obtain ⟨d0, d1⟩ := HC.out _ hb1
  have HR1 : Hid (w1.ownsRow w.heap.size 44 2 (.slice p1 0 k1) 0 []) := hr1
  have HB1 := hid hb1
  have hs1 := hb1.size
  clear hr1 hb1
  go_wp2_with fail
  refine wp_loop_rounds 3 ?_
  rw [rounds_succ]
  go_wp2_with (at_builtin; refine wpList_append_rows _ rfl _ _ 22 rfl w.heap.size 44 i0 (.agg #[.string ⟨#[]⟩, .slice none 0 0]) 2 40 Tryz.underlying22 HI.out hz0 hz1 hz2 rfl (by decide) _ 0 [] rfl HR1.out pa da.length ca (cellsX da) rfl (cellsX_len da) (HSA.out _ HB1.out) (cellsX_ones _) (by unfold maxLen; omega) (by omega) hs1 ?_; intro v2 w2 hown2 hg2)
  have hb2 : Below w.heap.size w w2 := HB1.out.grown hg2 hs1 (fun k hk => (World.ownsRow.lt HR1.out k hk).1)
  rw [Nat.zero_add, List.nil_append] at hown2
  obtain ⟨p2, k2, rfl⟩ : ∃ p c, v2 = .slice p da.length c := by
    rcases hown2.2 with ⟨h1, h2⟩ | ⟨g, cap, _, h1, _⟩
    · exact ⟨none, 0, by rw [h1, h2]⟩
    · exact ⟨_, _, h1⟩
  obtain ⟨f0, f1⟩ := HC.out _ hb2
  have HR2 := hid hown2
  have HB2 := hid hb2
  have hs2 := hb2.size
  clear hown2 hg2 hb2
  rw [rounds_succ]
  go_wp2_with (at_builtin; refine wpList_append_rows _ rfl _ _ 22 rfl w.heap.size 44 i0 (.agg #[.string ⟨#[]⟩, .slice none 0 0]) 2 40 Tryz.underlying22 HI.out hz0 hz1 hz2 rfl (by decide) _ da.length (cellsX da) rfl HR2.out pb db.length cb (cellsX db) rfl (cellsX_len db) (HSB.out _ HB2.out) (cellsX_ones _) (by unfold maxLen; omega) (by omega) hs2 ?_; intro v3 w3 hown3 hg3)
  have hb3 : Below w.heap.size w w3 := HB2.out.grown hg3 hs2 (fun k hk => (World.ownsRow.lt HR2.out k hk).1)
  obtain ⟨p3, k3, rfl⟩ : ∃ p c, v3 = .slice p (da.length + db.length) c := by
    rcases hown3.2 with ⟨h1, h2⟩ | ⟨g, cap, _, h1, _⟩
    · exact ⟨none, 0, by rw [h1, h2]⟩
    · exact ⟨_, _, h1⟩
  have HR3 := hid hown3
  have HB3 := hid hb3
  clear hown3 hg3 hb3
  rw [rounds_succ]
  go_wp2_with fail
  go_ret
  refine ⟨p3, k3, by rw [List.length_append]; rfl, ?_, HB3.out⟩
  unfold RowX
  rw [HAP.out, List.length_append]
  exact HR3.out

end Go.Proofs.YtelcongbnmfegaaGreatDoor

/-
  The plain mathematics of Diff as the package does it: name by name.
-/
namespace Go.Proofs.YtelcongbnmfegaaGreatDoor
open Go.RowKit

/-- The edits of one field from some texts to others. -/
def changeE (n : ByteArray) (f t : List ByteArray) : List Ed := if f = t then [] else if t = [] then [(4, n, ⟨#[]⟩)] else setsE (n, t)

/-- The names of both, side by side. -/
def namesM : List Fld → List Fld → List ByteArray
  | [], [] => []
  | a :: ar, [] => a.1 :: namesM ar []
  | [], b :: br => b.1 :: namesM [] br
  | a :: ar, b :: br => if ltB a.1 b.1 then a.1 :: namesM ar (b :: br)
      else if a.1 = b.1 then a.1 :: namesM ar br
      else b.1 :: namesM (a :: ar) br

theorem namesM_mem (a b : List Fld) (n : ByteArray) : n ∈ namesM a b ↔ n ∈ a.map (·.1) ∨ n ∈ b.map (·.1) := by
  induction a, b using namesM.induct with
  | case1 => simp [namesM]
  | case2 a ar ih => rw [namesM]; simp [ih]
  | case3 b br ih => rw [namesM]; simp [ih]
  | case4 a ar b br h ih => rw [namesM, if_pos h]; simp [ih, or_assoc]
  | case5 a ar b br h h2 ih =>
    rw [namesM, if_neg h, if_pos h2]
    simp [ih, h2]
    constructor
    · rintro (h | h | h)
      · exact Or.inl (Or.inl h)
      · exact Or.inl (Or.inr h)
      · exact Or.inr (Or.inr h)
    · rintro ((h | h) | (h | h))
      · exact Or.inl h
      · exact Or.inr (Or.inl h)
      · exact Or.inl h
      · exact Or.inr (Or.inr h)
  | case6 a ar b br h h2 ih =>
    rw [namesM, if_neg h, if_neg h2]
    simp [ih]
    constructor
    · rintro (h | h | h)
      · exact Or.inr (Or.inl h)
      · exact Or.inl h
      · exact Or.inr (Or.inr h)
    · rintro (h | h | h)
      · exact Or.inr (Or.inl h)
      · exact Or.inl h
      · exact Or.inr (Or.inr h)

theorem rise_head {f : Fld} {r : List Fld} (h : Rising (f :: r)) {n : ByteArray} (hn : n ∈ r.map (·.1)) : ltB f.1 n = true := by
  obtain ⟨g, hg, rfl⟩ := List.mem_map.1 hn
  exact List.rel_of_pairwise_cons h hg

theorem rise_tail {f : Fld} {r : List Fld} (h : Rising (f :: r)) : Rising r := (List.pairwise_cons.1 h).2

theorem namesM_low {a b : List Fld} {m : ByteArray} (ha : ∀ n ∈ a.map (·.1), ltB m n = true) (hb : ∀ n ∈ b.map (·.1), ltB m n = true) : ∀ n ∈ namesM a b, ltB m n = true := fun n hn => by
  rcases (namesM_mem a b n).1 hn with h | h
  · exact ha n h
  · exact hb n h

theorem rise_names {f : Fld} {r : List Fld} {m : ByteArray} (h : Rising (f :: r)) (hm : ltB m f.1 = true) : ∀ n ∈ (f :: r).map (·.1), ltB m n = true := fun n hn => by
  rw [List.map_cons, List.mem_cons] at hn
  rcases hn with rfl | hn
  · exact hm
  · exact ltB_trans hm (rise_head h hn)

theorem lt_of_not {a b : ByteArray} (h : ¬ ltB a b = true) (h2 : a ≠ b) : ltB b a = true := by
  rcases ltB_cases a b with k | k | k
  · exact absurd k h
  · exact absurd k h2
  · exact k

theorem namesM_rising (a b : List Fld) (ha : Rising a) (hb : Rising b) : RisingR ltB (namesM a b) := by
  induction a, b using namesM.induct with
  | case1 => rw [namesM]; exact List.Pairwise.nil
  | case2 a ar ih =>
    rw [namesM]
    exact List.pairwise_cons.2 ⟨namesM_low (fun n hn => rise_head ha hn) (fun n hn => by simp at hn), ih (rise_tail ha) hb⟩
  | case3 b br ih =>
    rw [namesM]
    exact List.pairwise_cons.2 ⟨namesM_low (fun n hn => by simp at hn) (fun n hn => rise_head hb hn), ih ha (rise_tail hb)⟩
  | case4 a ar b br h ih =>
    rw [namesM, if_pos h]
    exact List.pairwise_cons.2 ⟨namesM_low (fun n hn => rise_head ha hn) (rise_names hb h), ih (rise_tail ha) hb⟩
  | case5 a ar b br h h2 ih =>
    rw [namesM, if_neg h, if_pos h2]
    exact List.pairwise_cons.2 ⟨namesM_low (fun n hn => rise_head ha hn) (fun n hn => by rw [h2]; exact rise_head hb hn), ih (rise_tail ha) (rise_tail hb)⟩
  | case6 a ar b br h h2 ih =>
    rw [namesM, if_neg h, if_neg h2]
    exact List.pairwise_cons.2 ⟨namesM_low (rise_names ha (lt_of_not h h2)) (fun n hn => rise_head hb hn), ih ha (rise_tail hb)⟩

theorem textsOf_head (f : Fld) (r : List Fld) : textsOf (f :: r) f.1 = f.2 := textsOf_at (f :: r) f.1 0 (by simp) (fun j hj => by omega) rfl

theorem textsOf_past {f : Fld} {r : List Fld} {n : ByteArray} (h : f.1 ≠ n) : textsOf (f :: r) n = textsOf r n := by
  unfold textsOf
  rw [List.find?_cons_of_neg (by simpa using h)]

theorem textsOf_nil (n : ByteArray) : textsOf [] n = [] := rfl

theorem textsOf_less {r : List Fld} {n : ByteArray} (h : ∀ m ∈ r.map (·.1), ltB n m = true) : textsOf r n = [] :=
  textsOf_out fun f hf e => by
    have := h f.1 (List.mem_map.2 ⟨f, hf, rfl⟩)
    rw [e, ltB_irrefl] at this
    cases this

theorem flat_same {G : List ByteArray} {a b a' b' : List Fld} (ha : ∀ n ∈ G, textsOf a n = textsOf a' n) (hb : ∀ n ∈ G, textsOf b n = textsOf b' n) :
    G.flatMap (fun n => changeE n (textsOf a n) (textsOf b n)) = G.flatMap fun n => changeE n (textsOf a' n) (textsOf b' n) := by
  induction G with
  | nil => rfl
  | cons g G ih =>
    rw [List.flatMap_cons, List.flatMap_cons, ha g (by simp), hb g (by simp), ih (fun n hn => ha n (by simp [hn])) (fun n hn => hb n (by simp [hn]))]

theorem change_wipe {n : ByteArray} {f : List ByteArray} (h : f ≠ []) : changeE n f [] = [(4, n, ⟨#[]⟩)] := by unfold changeE; rw [if_neg h, if_pos rfl]
theorem change_new {f : Fld} (h : f.2 ≠ []) : changeE f.1 [] f.2 = setsE f := by unfold changeE; rw [if_neg (Ne.symm h), if_neg h]

/-- The difference is that of the names, one behind the other. -/
theorem diff_names (a b : List Fld) (ha : Rising a) (hb : Rising b) (na : NoBare a) (nb : NoBare b) : diffE a b = (namesM a b).flatMap fun n => changeE n (textsOf a n) (textsOf b n) := by
  have lo : ∀ {m n : ByteArray}, ltB m n = true → m ≠ n := fun h => ltB_ne h
  induction a, b using namesM.induct with
  | case1 => simp [diffE, namesM]
  | case2 a ar ih =>
    have hl := namesM_low (a := ar) (b := []) (m := a.1) (fun n hn => rise_head ha hn) (fun n hn => by simp at hn)
    rw [namesM, diffE, List.flatMap_cons, ih (rise_tail ha) hb (fun f hf => na f (by simp [hf])) nb, textsOf_head, textsOf_nil, change_wipe (na a (by simp))]
    rw [flat_same (a' := a :: ar) (b' := []) (fun n hn => (textsOf_past (lo (hl n hn))).symm) (fun n hn => rfl)]
    rfl
  | case3 b br ih =>
    have hl := namesM_low (a := []) (b := br) (m := b.1) (fun n hn => by simp at hn) (fun n hn => rise_head hb hn)
    rw [namesM, diffE, List.flatMap_cons, ih ha (rise_tail hb) na (fun f hf => nb f (by simp [hf])), textsOf_head, textsOf_nil, change_new (nb b (by simp))]
    rw [flat_same (a' := []) (b' := b :: br) (fun n hn => rfl) (fun n hn => (textsOf_past (lo (hl n hn))).symm)]
  | case4 a ar b br h ih =>
    have hl := namesM_low (a := ar) (b := b :: br) (m := a.1) (fun n hn => rise_head ha hn) (rise_names hb h)
    rw [namesM, if_pos h, diffE, if_pos h, List.flatMap_cons, ih (rise_tail ha) hb (fun f hf => na f (by simp [hf])) nb, textsOf_head, textsOf_less (rise_names hb h), change_wipe (na a (by simp))]
    rw [flat_same (a' := a :: ar) (b' := b :: br) (fun n hn => (textsOf_past (lo (hl n hn))).symm) (fun n hn => rfl)]
    rfl
  | case5 a ar b br h h2 ih =>
    have hl := namesM_low (a := ar) (b := br) (m := a.1) (fun n hn => rise_head ha hn) (fun n hn => by rw [h2]; exact rise_head hb hn)
    have e : textsOf (b :: br) a.1 = b.2 := by rw [h2]; exact textsOf_head b br
    have e2 : changeE a.1 a.2 b.2 = if a.2 = b.2 then [] else setsE b := by
      unfold changeE
      rw [if_neg (nb b (by simp)), h2]
    rw [namesM, if_neg h, if_pos h2, diffE, if_neg h, if_pos h2, List.flatMap_cons, ih (rise_tail ha) (rise_tail hb) (fun f hf => na f (by simp [hf])) (fun f hf => nb f (by simp [hf])), textsOf_head, e, e2]
    rw [flat_same (a' := a :: ar) (b' := b :: br) (fun n hn => (textsOf_past (lo (hl n hn))).symm) (fun n hn => (textsOf_past (by rw [← h2]; exact lo (hl n hn))).symm)]
    split
    · rfl
    · rfl
  | case6 a ar b br h h2 ih =>
    have hl := namesM_low (a := a :: ar) (b := br) (m := b.1) (rise_names ha (lt_of_not h h2)) (fun n hn => rise_head hb hn)
    rw [namesM, if_neg h, if_neg h2, diffE, if_neg h, if_neg h2, List.flatMap_cons, ih ha (rise_tail hb) na (fun f hf => nb f (by simp [hf])), textsOf_head, textsOf_less (rise_names ha (lt_of_not h h2)), change_new (nb b (by simp))]
    rw [flat_same (a' := a :: ar) (b' := b :: br) (fun n hn => rfl) (fun n hn => (textsOf_past (lo (hl n hn))).symm)]

/-- .. and so by whatever list of the names that rises. -/
theorem diff_by {a b : List Fld} (ha : Rising a) (hb : Rising b) (na : NoBare a) (nb : NoBare b) {G : List ByteArray} (h1 : RisingR ltB G) (h2 : ∀ n, n ∈ G ↔ n ∈ a.map (·.1) ∨ n ∈ b.map (·.1)) :
    diffE a b = G.flatMap fun n => changeE n (textsOf a n) (textsOf b n) := by
  rw [diff_names a b ha hb na nb, rising_uniqR totB h1 (namesM_rising a b ha hb) fun n => (h2 n).trans (namesM_mem a b n).symm]

end Go.Proofs.YtelcongbnmfegaaGreatDoor

/-
  The plain mathematics of terms: which may be, their order, and what is normal.
-/
namespace Go.Proofs.YtelcongbnmfegaaGreatDoor
open Go.RowKit

/-- A term: its field's name, its operator, its text. -/
abbrev Tm := ByteArray × Int × ByteArray

def encM (x : Tm) : List Value := [.string x.1, .int .i64 x.2.1, .string x.2.2]

/-- Terms that a machine can hold. -/
def FitM (p : List Tm) : Prop := p.length ≤ maxLen ∧ ∀ x ∈ p, x.1.size ≤ maxLen ∧ x.2.2.size ≤ maxLen ∧ -9223372036854775808 ≤ x.2.1 ∧ x.2.1 ≤ 9223372036854775807

def rightM (x : Tm) : Bool := decide (1 ≤ x.2.1) && decide (x.2.1 ≤ 7) && (decide (x.2.1 < 6) || decide (x.2.2.size = 0))
def namedM (x : Tm) : Bool := fieldB x.1.data.toList
def shortM (x : Tm) : Bool := decide (x.2.2.size ≤ 128)
/-- What May answers. -/
def mayM (p : List Tm) : Int := if 8 < p.length then 5 else if p.all namedM = false then 2 else if p.all rightM = false then 1 else if p.all shortM = false then 5 else 0

/-- The order of terms. -/
def ltM (a b : Tm) : Bool := if a.1 ≠ b.1 then ltB a.1 b.1 else if a.2.1 ≠ b.2.1 then decide (a.2.1 < b.2.1) else ltB a.2.2 b.2.2

theorem ltM_irrefl (a : Tm) : ltM a a = false := by simp [ltM, ltB_irrefl]

theorem ltB_eq_false {a b : ByteArray} (h : ltB a b = true) : a ≠ b := by
  rintro rfl
  rw [ltB_irrefl] at h
  cases h

theorem ltM_cases (a b : Tm) : ltM a b = true ∨ a = b ∨ ltM b a = true := by
  obtain ⟨a1, a2, a3⟩ := a
  obtain ⟨b1, b2, b3⟩ := b
  unfold ltM
  simp only
  by_cases h1 : a1 = b1
  · subst h1
    by_cases h2 : a2 = b2
    · subst h2
      rcases ltB_cases a3 b3 with h | h | h
      · left; simpa using h
      · right; left; rw [h]
      · right; right; simpa using h
    · have h2' : b2 ≠ a2 := fun e => h2 e.symm
      rcases Int.lt_or_gt_of_ne h2 with h | h
      · left; simp [h2, h]
      · right; right; simp [h2', h]
  · have h1' : b1 ≠ a1 := fun e => h1 e.symm
    rcases ltB_cases a1 b1 with h | h | h
    · left; simp [h1, h]
    · exact absurd h h1
    · right; right; simp [h1', h]

theorem ltM_trans {a b c : Tm} (h : ltM a b = true) (k : ltM b c = true) : ltM a c = true := by
  obtain ⟨a1, a2, a3⟩ := a
  obtain ⟨b1, b2, b3⟩ := b
  obtain ⟨c1, c2, c3⟩ := c
  unfold ltM at *
  simp only at *
  by_cases h1 : a1 = b1
  · subst h1
    by_cases k1 : a1 = c1
    · subst k1
      simp only [ne_eq, not_true_eq_false, if_false] at *
      by_cases h2 : a2 = b2
      · subst h2
        by_cases k2 : a2 = c2
        · subst k2
          simp only [not_true_eq_false, if_false] at *
          exact ltB_trans h k
        · simp only [not_true_eq_false, if_false, k2, not_false_eq_true, if_true] at *
          exact k
      · by_cases k2 : b2 = c2
        · subst k2
          simp only [h2, not_false_eq_true, if_true] at *
          exact h
        · simp only [h2, k2, not_false_eq_true, if_true, decide_eq_true_eq] at h k
          have h3 : a2 ≠ c2 := by omega
          simp only [h3, not_false_eq_true, if_true, decide_eq_true_eq]
          omega
    · simp only [ne_eq, k1, not_false_eq_true, if_true] at *
      exact k
  · by_cases k1 : b1 = c1
    · subst k1
      simp only [ne_eq, h1, not_false_eq_true, if_true] at *
      exact h
    · simp only [ne_eq, h1, k1, not_false_eq_true, if_true] at h k
      have h3 : ltB a1 c1 = true := ltB_trans h k
      have h4 : a1 ≠ c1 := ltB_eq_false h3
      simp only [ne_eq, h4, not_false_eq_true, if_true]
      exact h3

theorem ltM_asymm {a b : Tm} (h : ltM a b = true) : ltM b a = false := by
  cases k : ltM b a with
  | false => rfl
  | true =>
    have := ltM_trans h k
    rw [ltM_irrefl] at this
    cases this

theorem ltM_ne {a b : Tm} (h : ltM a b = true) : a ≠ b := by
  rintro rfl
  rw [ltM_irrefl] at h
  cases h

def RisingM (l : List Tm) : Prop := l.Pairwise fun x y => ltM x y = true

/-- Rising lists of the same terms are one. -/
theorem rising_unique : ∀ (a b : List Tm), RisingM a → RisingM b → (∀ x, x ∈ a ↔ x ∈ b) → a = b
  | [], [], _, _, _ => rfl
  | [], y :: b, _, _, h => by have := (h y).2 (by simp); simp at this
  | x :: a, [], _, _, h => by have := (h x).1 (by simp); simp at this
  | x :: a, y :: b, ha, hb, h => by
    have ha' := List.pairwise_cons.1 ha
    have hb' := List.pairwise_cons.1 hb
    have hxy : x = y := by
      rcases List.mem_cons.1 ((h x).1 (by simp)) with e | e
      · exact e
      · rcases List.mem_cons.1 ((h y).2 (by simp)) with e2 | e2
        · exact e2.symm
        · have h1 := hb'.1 x e
          have h2 := ha'.1 y e2
          rw [ltM_asymm h1] at h2
          cases h2
    subst hxy
    congr 1
    refine rising_unique a b ha'.2 hb'.2 fun z => ⟨fun hz => ?_, fun hz => ?_⟩
    · rcases List.mem_cons.1 ((h z).1 (by simp [hz])) with e | e
      · exact absurd e.symm (ltM_ne (ha'.1 z hz))
      · exact e
    · rcases List.mem_cons.1 ((h z).2 (by simp [hz])) with e | e
      · exact absurd e.symm (ltM_ne (hb'.1 z hz))
      · exact e

/-- x put where it belongs, if it isn't there. -/
def insM (x : Tm) : List Tm → List Tm
  | [] => [x]
  | y :: l => if ltM x y then x :: y :: l else if x = y then y :: l else y :: insM x l

/-- The terms, rising, each once. -/
def sortM (p : List Tm) : List Tm := p.foldl (fun acc x => insM x acc) []

theorem mem_insM (x z : Tm) (l : List Tm) : z ∈ insM x l ↔ z = x ∨ z ∈ l := by
  induction l with
  | nil => simp [insM]
  | cons y l ih =>
    unfold insM
    split
    · simp
    · split
      · rename_i h; subst h; simp
      · simp [ih, or_left_comm]

theorem insM_rising (x : Tm) (l : List Tm) (h : RisingM l) : RisingM (insM x l) := by
  induction l with
  | nil => exact List.pairwise_singleton _ _
  | cons y l ih =>
    have h' := List.pairwise_cons.1 h
    unfold insM
    split
    · rename_i hlt
      refine List.pairwise_cons.2 ⟨fun z hz => ?_, h⟩
      rcases List.mem_cons.1 hz with rfl | hz
      · exact hlt
      · exact ltM_trans hlt (h'.1 z hz)
    · rename_i hlt
      split
      · exact h
      · rename_i hne
        refine List.pairwise_cons.2 ⟨fun z hz => ?_, ih h'.2⟩
        rcases (mem_insM x z l).1 hz with rfl | hz
        · rcases ltM_cases z y with h1 | h1 | h1
          · exact absurd h1 hlt
          · exact absurd h1 hne
          · exact h1
        · exact h'.1 z hz

theorem sortM_spec (p : List Tm) : RisingM (sortM p) ∧ ∀ x, x ∈ sortM p ↔ x ∈ p := by
  have : ∀ (l acc : List Tm), RisingM acc → RisingM (l.foldl (fun acc x => insM x acc) acc) ∧ ∀ x, x ∈ l.foldl (fun acc x => insM x acc) acc ↔ x ∈ acc ∨ x ∈ l := by
    intro l
    induction l with
    | nil => intro acc h; exact ⟨h, fun x => by simp⟩
    | cons y l ih =>
      intro acc h
      obtain ⟨h1, h2⟩ := ih (insM y acc) (insM_rising y acc h)
      refine ⟨h1, fun x => ?_⟩
      rw [List.foldl_cons, h2, mem_insM, List.mem_cons]
      constructor
      · rintro ((h | h) | h)
        · exact Or.inr (Or.inl h)
        · exact Or.inl h
        · exact Or.inr (Or.inr h)
      · rintro (h | h | h)
        · exact Or.inl (Or.inr h)
        · exact Or.inl (Or.inl h)
        · exact Or.inr h
  obtain ⟨h1, h2⟩ := this p [] List.Pairwise.nil
  exact ⟨h1, fun x => by rw [sortM, h2]; simp⟩

theorem sortM_unique {p l : List Tm} (h1 : RisingM l) (h2 : ∀ x, x ∈ l ↔ x ∈ p) : l = sortM p :=
  rising_unique _ _ h1 (sortM_spec p).1 fun x => (h2 x).trans ((sortM_spec p).2 x).symm

theorem sortM_len (p : List Tm) : (sortM p).length ≤ p.length := by
  have key : ∀ (x : Tm) (l : List Tm), (insM x l).length ≤ l.length + 1 := by
    intro x l
    induction l with
    | nil => simp [insM]
    | cons y l ih =>
      unfold insM
      split
      · simp
      · split
        · simp
        · simp; omega
  have : ∀ (l acc : List Tm), (l.foldl (fun acc x => insM x acc) acc).length ≤ acc.length + l.length := by
    intro l
    induction l with
    | nil => intro acc; simp
    | cons y l ih =>
      intro acc
      have h1 := ih (insM y acc)
      have h2 := key y acc
      rw [List.foldl_cons, List.length_cons]
      omega
  simpa [sortM] using this p []

theorem mayM_perm {p q : List Tm} (h : ∀ x, x ∈ p ↔ x ∈ q) (hl : p.length ≤ 8) (hm : q.length ≤ 8) : mayM p = mayM q := by
  have key : ∀ f : Tm → Bool, p.all f = q.all f := fun f => by
    rw [Bool.eq_iff_iff, List.all_eq_true, List.all_eq_true]
    exact ⟨fun H x hx => H x ((h x).2 hx), fun H x hx => H x ((h x).1 hx)⟩
  unfold mayM
  rw [if_neg (show ¬ 8 < p.length by omega), key namedM, key rightM, key shortM, if_neg (show ¬ 8 < q.length by omega)]

/-- What Norm answers. -/
def ansM (p : List Tm) : List Tm := if mayM p = 0 then sortM p else []

theorem mayM_zero {p : List Tm} (h : mayM p = 0) : p.length ≤ 8 ∧ p.all namedM = true ∧ p.all rightM = true ∧ p.all shortM = true := by
  unfold mayM at h
  split at h
  · omega
  · rename_i h1
    split at h
    · omega
    · rename_i h2
      split at h
      · omega
      · rename_i h3
        split at h
        · omega
        · rename_i h4
          exact ⟨by omega, by simpa using h2, by simpa using h3, by simpa using h4⟩

end Go.Proofs.YtelcongbnmfegaaGreatDoor

/-
  The contracts of the reference's less, May and Same of terms.
-/
namespace Go.Proofs.YtelcongbnmfegaaGreatDoor
open Go.RowKit

theorem all_snoc {p : List Tm} {f : Tm → Bool} {i : Nat} (h : i < p.length) : (p.take (i + 1)).all f = ((p.take i).all f && f p[i]) := by
  rw [List.take_succ_eq_append_getElem h, List.all_append]
  simp

end Go.Proofs.YtelcongbnmfegaaGreatDoor

/-
  The contracts of the reference's Same and Norm of terms.
-/
namespace Go.Proofs.YtelcongbnmfegaaGreatDoor
open Go.RowKit

/-- May x stand behind the first k of G? -/
def eligB (G : List Tm) (k : Nat) (x : Tm) : Bool := decide (k = 0) || ltM (G.getD (k - 1) default) x

/-- What the scan has found among the first i: where it stands, or -1. -/
def ScanM (G p : List Tm) (k i : Nat) (at_ : Int) : Prop :=
  (at_ = -1 ∧ ∀ j, (h : j < p.length) → j < i → eligB G k p[j] = false) ∨
  (∃ m : Nat, at_ = m ∧ m < i ∧ ∃ hm : m < p.length, eligB G k p[m] = true ∧ ∀ j, (h : j < p.length) → j < i → eligB G k p[j] = true → ltM p[j] p[m] = false)

theorem RisingM.get {o : List Tm} (h : RisingM o) {i j : Nat} (hij : i < j) (hj : j < o.length) : ltM (o[i]'(by omega)) (o[j]) = true :=
  List.pairwise_iff_getElem.1 h i j (by omega) hj hij

theorem elig_ge {G : List Tm} (h : RisingM G) {k m : Nat} (hk : k ≤ G.length) (hm : m < G.length) : eligB G k G[m] = true ↔ k ≤ m := by
  unfold eligB
  constructor
  · intro he
    rw [Bool.or_eq_true] at he
    rcases he with he | he
    · have := of_decide_eq_true he; omega
    · refine Nat.le_of_not_lt fun hlt => ?_
      rw [List.getD_eq_getElem?_getD, List.getElem?_eq_getElem (show k - 1 < G.length by omega)] at he
      by_cases e : m = k - 1
      · subst e
        rw [Option.getD_some, ltM_irrefl] at he
        cases he
      · have := h.get (show m < k - 1 by omega) (by omega)
        rw [Option.getD_some] at he
        rw [ltM_asymm this] at he
        cases he
  · intro hkm
    by_cases h0 : k = 0
    · rw [decide_eq_true h0]; rfl
    · rw [Bool.or_eq_true]
      right
      rw [List.getD_eq_getElem?_getD, List.getElem?_eq_getElem (show k - 1 < G.length by omega), Option.getD_some]
      exact h.get (by omega) hm

theorem scan_end {G p : List Tm} (h1 : RisingM G) (h2 : ∀ x, x ∈ G ↔ x ∈ p) {k : Nat} (hk : k ≤ G.length) {at_ : Int} (hs : ScanM G p k p.length at_) :
    (at_ = -1 ∧ k = G.length) ∨ (∃ m : Nat, at_ = m ∧ ∃ hm : m < p.length, ∃ hg : k < G.length, p[m] = G[k]) := by
  rcases hs with ⟨e, hn⟩ | ⟨m, e, _, hm, he, hl⟩
  · left
    refine ⟨e, ?_⟩
    by_cases hkl : k = G.length
    · exact hkl
    · exfalso
      have hlt : k < G.length := by omega
      obtain ⟨j, hj, ej⟩ := List.mem_iff_getElem.1 ((h2 G[k]).1 (List.getElem_mem hlt))
      have := hn j hj hj
      rw [ej, (elig_ge h1 hk hlt).2 (Nat.le_refl _)] at this
      cases this
  · right
    obtain ⟨a, ha, ea⟩ := List.mem_iff_getElem.1 ((h2 p[m]).2 (List.getElem_mem hm))
    have hka : k ≤ a := by
      rw [← ea] at he
      exact (elig_ge h1 hk ha).1 he
    refine ⟨m, e, hm, by omega, ?_⟩
    by_cases hlt : k < a
    · exfalso
      obtain ⟨j, hj, ej⟩ := List.mem_iff_getElem.1 ((h2 G[k]).1 (List.getElem_mem (by omega)))
      have := hl j hj hj (by rw [ej]; exact (elig_ge h1 hk (by omega)).2 (Nat.le_refl _))
      rw [ej, ← ea, h1.get hlt ha] at this
      cases this
    · obtain rfl : a = k := by omega
      exact ea.symm

theorem scan_zero (G p : List Tm) (k : Nat) : ScanM G p k 0 (-1) := Or.inl ⟨rfl, fun j _ h => by omega⟩

theorem scan_skip {G p : List Tm} {k i : Nat} {a : Int} (h : ScanM G p k i a) (hi : i < p.length) (he : eligB G k p[i] = false) : ScanM G p k (i + 1) a := by
  rcases h with ⟨e, hn⟩ | ⟨m, e, hm1, hm, hme, hl⟩
  · refine Or.inl ⟨e, fun j hj hji => ?_⟩
    by_cases ej : j = i
    · subst ej; exact he
    · exact hn j hj (by omega)
  · refine Or.inr ⟨m, e, by omega, hm, hme, fun j hj hji hje => ?_⟩
    by_cases ej : j = i
    · subst ej; rw [he] at hje; cases hje
    · exact hl j hj (by omega) hje

theorem scan_first {G p : List Tm} {k i : Nat} (h : ScanM G p k i (-1)) (hi : i < p.length) (he : eligB G k p[i] = true) : ScanM G p k (i + 1) (i : Int) := by
  rcases h with ⟨_, hn⟩ | ⟨m, e, _⟩
  · refine Or.inr ⟨i, rfl, by omega, hi, he, fun j hj hji hje => ?_⟩
    by_cases ej : j = i
    · subst ej; exact ltM_irrefl _
    · rw [hn j hj (by omega)] at hje; cases hje
  · omega

theorem scan_less {G p : List Tm} {k i m : Nat} (h : ScanM G p k i (m : Int)) (hi : i < p.length) (hm : m < p.length) (he : eligB G k p[i] = true) (hl : ltM p[i] p[m] = true) : ScanM G p k (i + 1) (i : Int) := by
  rcases h with ⟨e, _⟩ | ⟨m', e, _, _, _, hll⟩
  · omega
  · obtain rfl : m = m' := by omega
    refine Or.inr ⟨i, rfl, by omega, hi, he, fun j hj hji hje => ?_⟩
    by_cases ej : j = i
    · subst ej; exact ltM_irrefl _
    · have := hll j hj (by omega) hje
      cases hc : ltM p[j] p[i] with
      | false => rfl
      | true => rw [ltM_trans hc hl] at this; cases this

theorem scan_keep {G p : List Tm} {k i m : Nat} (h : ScanM G p k i (m : Int)) (hi : i < p.length) (hm : m < p.length) (hl : ltM p[i] p[m] = false) : ScanM G p k (i + 1) (m : Int) := by
  rcases h with ⟨e, _⟩ | ⟨m', e, h1, h2, h3, hll⟩
  · omega
  · obtain rfl : m = m' := by omega
    refine Or.inr ⟨m, rfl, by omega, h2, h3, fun j hj hji hje => ?_⟩
    by_cases ej : j = i
    · subst ej; exact hl
    · exact hll j hj (by omega) hje

theorem scan_is {G p : List Tm} {k i : Nat} {a : Int} (h : ScanM G p k i a) : a = -1 ∨ ∃ m : Nat, a = m ∧ m < p.length := by
  rcases h with ⟨e, _⟩ | ⟨m, e, _, hm, _⟩
  · exact Or.inl e
  · exact Or.inr ⟨m, e, hm⟩

end Go.Proofs.YtelcongbnmfegaaGreatDoor

/-
  The contract of the reference's Norm of terms.
-/
namespace Go.Proofs.YtelcongbnmfegaaGreatDoor
open Go.RowKit

end Go.Proofs.YtelcongbnmfegaaGreatDoor

/-
  Rows of terms: one written over, cut short, sorted; the order as compare has it; what is left of a sorted row without its doubles.
-/
namespace Go.Proofs.YtelcongbnmfegaaGreatDoor
open Go.RowKit Go.Sort Go.Lib

theorem Kind.cells_set {α : Type} (K : Kind α) (d : List α) (i : Nat) (h : i < d.length) (x : α) (j : Nat) : (K.cells (d.set i x))[j]? = if i * K.k ≤ j ∧ j < i * K.k + K.k then (K.enc x)[j - i * K.k]? else (K.cells d)[j]? := by
  by_cases hj : j < d.length * K.k
  · have hkp := K.pos
    have hq : j / K.k < d.length := (Nat.div_lt_iff_lt_mul hkp).2 hj
    have hm : j % K.k < K.k := Nat.mod_lt _ hkp
    have e : j / K.k * K.k + j % K.k = j := by rw [Nat.mul_comm]; exact Nat.div_add_mod j K.k
    have h1 := K.cells_get (d.set i x) (j / K.k) (by simpa using hq) (j % K.k) hm
    have h2 := K.cells_get d (j / K.k) hq (j % K.k) hm
    rw [e] at h1 h2
    rw [h1, h2, List.getElem_set]
    by_cases hi : i = j / K.k
    · rw [if_pos hi, if_pos (by rw [hi]; omega), hi]
      congr 1
      omega
    · rw [if_neg hi, if_neg]
      intro hh
      exact hi ((blk_iff K.k i j hkp).1 hh).symm
  · have h3 : (i + 1) * K.k ≤ d.length * K.k := Nat.mul_le_mul_right _ h
    rw [Nat.add_mul, Nat.one_mul] at h3
    rw [if_neg (by omega), List.getElem?_eq_none (by rw [K.cells_len, List.length_set]; omega), List.getElem?_eq_none (by rw [K.cells_len]; omega)]

theorem grown_sets {g : Nat} (vs : List Value) : ∀ (w w0 : World) (o : Nat), w0.grownBy w (some g) → w0.grownBy (w.setCells g o vs) (some g) := by
  induction vs with
  | nil => intro w w0 o h; exact h
  | cons v vs ih => intro w w0 o h; rw [World.setCells]; exact ih _ _ _ (grown_trans h (grown_set w g o v))

theorem below_sortM {B : Nat} {w0 w : World} (h : Below B w0 w) (hB : B ≤ w.heap.size) (blk off n : Nat) (d : Array Tm) (os : Array Obj) (hb : B ≤ blk) : Below B w0 (sortWorldK encM 3 w blk off n d os) := by
  refine h.trans ⟨rfl, rfl, rfl, ?_, ?_⟩
  · simp [sortWorldK, putRowK]
  · intro k hk
    have hks : k < w.heap.size := by omega
    simp only [sortWorldK, Sort.grow, putRowK, putRow, mapBlock, Sort.ahead]
    rw [Array.getElem?_append_left (by simpa using hks), Array.getElem?_modify, if_neg (by omega)]

/-- What compare answers. -/
def cmpM (x y : Tm) : Int := pairI (Lib.compareBytes x.1.data.toList y.1.data.toList) (pairI (Lib.compareInt x.2.1 y.2.1) (Lib.compareBytes x.2.2.data.toList y.2.2.data.toList))

theorem pairI_zero (y : Int) : pairI 0 y = y := rfl
theorem pairI_ne {x : Int} (h : x ≠ 0) (y : Int) : pairI x y = x := by unfold pairI; rw [if_neg h]

theorem cmpM_lt (x y : Tm) : ltOf cmpM x y = ltM x y := by
  obtain ⟨a1, a2, a3⟩ := x
  obtain ⟨b1, b2, b3⟩ := y
  show decide (pairI (Lib.compareBytes a1.data.toList b1.data.toList) (pairI (Lib.compareInt a2 b2) (Lib.compareBytes a3.data.toList b3.data.toList)) < 0) = if a1 ≠ b1 then ltB a1 b1 else if a2 ≠ b2 then decide (a2 < b2) else ltB a3 b3
  by_cases h1 : a1 = b1
  · subst h1
    rw [if_neg (show ¬ (a1 ≠ a1) by simp), cb_self, pairI_zero]
    by_cases h2 : a2 = b2
    · subst h2
      have hc : Lib.compareInt a2 a2 = 0 := by unfold Lib.compareInt; simp
      rw [if_neg (show ¬ (a2 ≠ a2) by simp), hc, pairI_zero]
      rfl
    · rw [if_pos h2]
      rcases Int.lt_or_gt_of_ne h2 with h | h
      · have hc : Lib.compareInt a2 b2 = -1 := by unfold Lib.compareInt; simp [h]
        rw [hc, pairI_ne (by decide)]
        simp [h]
      · have hn : ¬ a2 < b2 := by omega
        have hc : Lib.compareInt a2 b2 = 1 := by unfold Lib.compareInt; simp [hn, h]
        rw [hc, pairI_ne (by decide)]
        simp [hn]
  · have hc : Lib.compareBytes a1.data.toList b1.data.toList ≠ 0 := fun e => h1 (ba_eq ((cb_zero _ _).1 e))
    rw [if_pos h1, pairI_ne hc]
    rfl

theorem swoM : SWO (ltOf cmpM) where
  irrefl x := by rw [cmpM_lt]; exact ltM_irrefl x
  trans x y z h1 h2 := by rw [cmpM_lt] at *; exact ltM_trans h1 h2
  ntrans x y z h1 h2 := by
    rw [cmpM_lt] at *
    cases h : ltM x z with
    | false => rfl
    | true =>
      rcases ltM_cases x y with h3 | h3 | h3
      · rw [h1] at h3; cases h3
      · rw [h3, h2] at h; cases h
      · rw [ltM_trans h3 h] at h2; cases h2

/-- A sorted row without its doubles is rising. -/
theorem compact_sorted {d : Array Tm} (hs : SortedIn (ltOf cmpM) 0 d.size d) : RisingM (compactUpTo d d.size) ∧ ∀ x, x ∈ compactUpTo d d.size ↔ x ∈ d.toList := by
  have hle : ∀ i j, i ≤ j → j < d.size → ltM d[j]! d[i]! = false := by
    intro i j hij hj
    rcases Nat.lt_or_ge i j with h | h
    · have := hs i j (Nat.zero_le _) h hj
      rwa [cmpM_lt] at this
    · obtain rfl : i = j := by omega
      exact ltM_irrefl _
  have key : ∀ m, m ≤ d.size → RisingM (compactUpTo d m) ∧ ∀ x, x ∈ compactUpTo d m ↔ ∃ j, j < m ∧ d[j]! = x := by
    intro m
    induction m with
    | zero => intro _; exact ⟨List.Pairwise.nil, fun x => by simp [compactUpTo]⟩
    | succ m ih =>
      intro hm
      obtain ⟨h1, h2⟩ := ih (by omega)
      rw [compactUpTo_succ]
      cases hk : keeps d m with
      | true =>
        rw [if_pos rfl]
        constructor
        · refine List.pairwise_append.2 ⟨h1, List.pairwise_singleton _ _, fun x hx y hy => ?_⟩
          rw [List.mem_singleton] at hy
          subst hy
          obtain ⟨j, hj, rfl⟩ := (h2 x).1 hx
          have hne : d[m]! ≠ d[m - 1]! := by
            unfold keeps at hk
            rcases of_decide_eq_true hk with h | h
            · omega
            · exact h
          have ha := hle j (m - 1) (by omega) (by omega)
          have hb := hle (m - 1) m (by omega) (by omega)
          rcases ltM_cases d[j]! d[m]! with h | h | h
          · exact h
          · rw [h] at ha
            rcases ltM_cases d[m - 1]! d[m]! with h' | h' | h'
            · rw [ha] at h'; cases h'
            · exact absurd h'.symm hne
            · rw [hb] at h'; cases h'
          · rw [hle j m (by omega) (by omega)] at h; cases h
        · intro x
          rw [List.mem_append, List.mem_singleton, h2]
          constructor
          · rintro (⟨j, hj, e⟩ | e)
            · exact ⟨j, by omega, e⟩
            · exact ⟨m, by omega, e.symm⟩
          · rintro ⟨j, hj, e⟩
            by_cases hjm : j = m
            · subst hjm; exact Or.inr e.symm
            · exact Or.inl ⟨j, by omega, e⟩
      | false =>
        rw [if_neg (by simp), List.append_nil]
        refine ⟨h1, fun x => ?_⟩
        rw [h2]
        constructor
        · rintro ⟨j, hj, e⟩
          exact ⟨j, by omega, e⟩
        · rintro ⟨j, hj, e⟩
          by_cases hjm : j = m
          · subst hjm
            have hh : ¬ (j = 0 ∨ d[j]! ≠ d[j - 1]!) := by unfold keeps at hk; exact of_decide_eq_false hk
            have h0 : j ≠ 0 := fun e => hh (Or.inl e)
            have h3 : d[j]! = d[j - 1]! := Classical.byContradiction fun e => hh (Or.inr e)
            exact ⟨j - 1, by omega, by rw [← h3]; exact e⟩
          · exact ⟨j, by omega, e⟩
  obtain ⟨h1, h2⟩ := key d.size (Nat.le_refl _)
  refine ⟨h1, fun x => (h2 x).trans ?_⟩
  rw [List.mem_iff_getElem]
  constructor
  · rintro ⟨j, hj, e⟩
    exact ⟨j, by simpa using hj, by rw [← e, getElem!_pos d j hj]; simp⟩
  · rintro ⟨j, hj, e⟩
    have hj' : j < d.size := by simpa using hj
    exact ⟨j, hj', by rw [getElem!_pos d j hj', ← e]; simp⟩

end Go.Proofs.YtelcongbnmfegaaGreatDoor

/-
  An element written over in a row of its own, for elements of one cell and of two.
-/
namespace Go.Proofs.YtelcongbnmfegaaGreatDoor
open Go.RowKit Go.Lib

theorem Kind.set2 {α : Type} {K : Kind α} (hk : K.k = 2) (d : List α) (i : Nat) (h : i < d.length) (x : α) (a b : Value) (he : K.enc x = [a, b]) : K.cells (d.set i x) = ((K.cells d).set (i * 2) a).set (i * 2 + 1) b := by
  apply List.ext_getElem?
  intro j
  rw [K.cells_set d i h x j]
  have hl : (K.cells d).length = d.length * 2 := by rw [K.cells_len, hk]
  rw [hk, he]
  simp only [List.getElem?_set, List.length_set, hl]
  by_cases h0 : j = i * 2
  · subst h0
    simp
    omega
  · by_cases h1 : j = i * 2 + 1
    · subst h1
      simp
      omega
    · rw [if_neg (by omega), if_neg (fun e => h1 e.symm), if_neg (fun e => h0 e.symm)]

theorem Kind.set1 {α : Type} {K : Kind α} (hk : K.k = 1) (d : List α) (i : Nat) (h : i < d.length) (x : α) (a : Value) (he : K.enc x = [a]) : K.cells (d.set i x) = (K.cells d).set i a := by
  apply List.ext_getElem?
  intro j
  rw [K.cells_set d i h x j]
  have hl : (K.cells d).length = d.length := by rw [K.cells_len, hk, Nat.mul_one]
  rw [hk, he]
  simp only [List.getElem?_set, hl, Nat.mul_one]
  by_cases h0 : j = i
  · subst h0
    simp
    omega
  · rw [if_neg (by omega), if_neg (fun e => h0 e.symm)]

/-- An element of two cells written over. -/
theorem Kind.own_put2 {α : Type} {K : Kind α} (hk : K.k = 2) {n0 g n cap : Nat} {w : World} {d : List α} (h : K.Own n0 w (.slice (some ⟨g, 0, none⟩) n cap) d) (hn : d.length = n) (i : Nat) (hi : i < d.length) (x : α) (a b : Value) (he : K.enc x = [a, b]) :
    K.Own n0 ((w.setCell ⟨g, i * 2, none⟩ a).setCell ⟨g, i * 2 + 1, none⟩ b) (.slice (some ⟨g, 0, none⟩) n cap) (d.set i x) := by
  subst hn
  have h1 := World.ownsRow.stored h (i * 2) a
  have h2 := World.ownsRow.stored h1.1 (i * 2 + 1) b
  unfold Kind.Own
  rw [Kind.set2 hk d i hi x a b he, List.length_set]
  exact h2.1

/-- An element of one cell written over. -/
theorem Kind.own_put1 {α : Type} {K : Kind α} (hk : K.k = 1) {n0 g n cap : Nat} {w : World} {d : List α} (h : K.Own n0 w (.slice (some ⟨g, 0, none⟩) n cap) d) (hn : d.length = n) (i : Nat) (hi : i < d.length) (x : α) (a : Value) (he : K.enc x = [a]) :
    K.Own n0 (w.setCell ⟨g, i, none⟩ a) (.slice (some ⟨g, 0, none⟩) n cap) (d.set i x) := by
  subst hn
  have h1 := World.ownsRow.stored h i a
  unfold Kind.Own
  rw [Kind.set1 hk d i hi x a he, List.length_set]
  exact h1.1

/-- A row that is not empty lies in a block of its own, whose cells may be written. -/
theorem Kind.own_form {α : Type} {K : Kind α} {n0 n c : Nat} {w : World} {q : Option Addr} {d : List α} (h : K.Own n0 w (.slice q n c) d) (h0 : 0 < d.length) : ∃ g, q = some ⟨g, 0, none⟩ ∧ n0 ≤ g ∧ d.length = n ∧ K.At w g 0 d ∧ ∀ j, w.frozen? ⟨g, j, none⟩ = false := by
  rcases h.2 with ⟨_, h1⟩ | ⟨g, cap, cur, hv, hb, hg, _⟩
  · omega
  · injection hv with h1 h2 h3
    subst h1
    obtain ⟨p, c', he, hd⟩ := Kind.own_is h
    injection he with e1 e2 e3
    rcases hd with hd | ⟨b, off, hp, hat⟩
    · rw [hd] at h0; simp at h0
    · rw [← e1] at hp
      injection hp with hp
      injection hp with hp1 hp2
      subst hp1 hp2
      exact ⟨g, rfl, hb, h2.symm, hat, fun j => Lib.frozen_of_heap hg _⟩

/-- One more in its place, by shifting: what a list is between two rounds of the shift. -/
theorem shift_step {α : Type} (l : List α) (y : α) (p i : Nat) (hp : p < i) (hi : i ≤ l.length) :
    (l.take i ++ y :: l.drop i).set i (l[i - 1]'(by omega)) = l.take (i - 1) ++ (l[i - 1]'(by omega)) :: l.drop (i - 1) := by
  obtain ⟨k, rfl⟩ : ∃ k, i = k + 1 := ⟨i - 1, by omega⟩
  have hk : k < l.length := by omega
  apply List.ext_getElem?
  intro j
  have h1 : (l.take (k + 1)).length = k + 1 := by rw [List.length_take]; omega
  have h2 : (l.take k).length = k := by rw [List.length_take]; omega
  simp only [Nat.add_sub_cancel]
  rw [List.getElem?_set]
  by_cases hj : k + 1 = j
  · subst hj
    rw [if_pos rfl, if_pos (by rw [List.length_append, h1]; simp), List.getElem?_append_right (by omega), h2]
    simp [List.getElem?_drop, hk]
  · rw [if_neg hj]
    by_cases hlt : j < k
    · rw [List.getElem?_append_left (by omega), List.getElem?_append_left (by omega), List.getElem?_take, List.getElem?_take, if_pos (by omega), if_pos hlt]
    · by_cases he : j = k
      · subst he
        rw [List.getElem?_append_left (by omega), List.getElem?_append_right (by omega), h2, List.getElem?_take, if_pos (by omega)]
        simp [hk]
      · have hgt : k + 1 < j := by omega
        obtain ⟨m, rfl⟩ : ∃ m, j = k + 2 + m := ⟨j - (k + 2), by omega⟩
        rw [List.getElem?_append_right (by omega), List.getElem?_append_right (by omega), h1, h2, show k + 2 + m - (k + 1) = m + 1 by omega, show k + 2 + m - k = m + 1 + 1 by omega, List.getElem?_cons_succ, List.getElem?_cons_succ, List.getElem?_drop, List.getElem?_drop]
        congr 1
        omega

end Go.Proofs.YtelcongbnmfegaaGreatDoor

/-
  Rows of texts and keys; rows cut short, sorted, written behind their end, whatever their kind.
-/
namespace Go.Proofs.YtelcongbnmfegaaGreatDoor
open Go.RowKit Go.Sort Go.Lib
def encKy (x : Ky) : List Value := [.string x.1, .string x.2]
theorem kt_cells (d : List ByteArray) : KT.cells d = d.map Value.string := by
  induction d with
  | nil => rfl
  | cons x d ih =>
    have : KT.cells (x :: d) = Value.string x :: KT.cells d := rfl
    rw [this, ih]; rfl

theorem kt_own {n0 : Nat} {w : World} {v : Value} {d : List ByteArray} : KT.Own n0 w v d ↔ OwnT n0 w v d := by
  unfold Kind.Own OwnT
  rw [kt_cells]
  rfl

theorem kt_at {w : World} {b off : Nat} {d : List ByteArray} : KT.At w b off d ↔ ∀ i, (h : i < d.length) → w.cell? ⟨b, off + i, none⟩ = some (.string d[i]) := by
  constructor
  · intro h i hi
    have := h i hi 0 (.string d[i]) rfl
    have e : off + i * KT.k + 0 = off + i := by show off + i * 1 + 0 = _; omega
    rwa [e] at this
  · intro h i hi j u hu
    have hj : j = 0 := by
      have := (List.getElem?_eq_some_iff.1 hu).1
      have hl : (KT.enc d[i]).length = 1 := rfl
      omega
    subst hj
    have e : off + i * KT.k + 0 = off + i := by show off + i * 1 + 0 = _; omega
    rw [e, h i hi]
    exact hu

theorem kt_txt {w : World} {p : Option Addr} {d : List ByteArray} : TxtAt w p d ↔ (d = [] ∨ ∃ b off, p = some ⟨b, off, none⟩ ∧ KT.At w b off d) := by
  unfold TxtAt
  constructor
  · rintro (h | ⟨b, off, hp, h⟩)
    · exact Or.inl h
    · exact Or.inr ⟨b, off, hp, kt_at.2 h⟩
  · rintro (h | ⟨b, off, hp, h⟩)
    · exact Or.inl h
    · exact Or.inr ⟨b, off, hp, kt_at.1 h⟩

theorem Kind.take_cells {α : Type} (K : Kind α) : ∀ (d : List α) (k : Nat), K.cells (d.take k) = (K.cells d).take (k * K.k)
  | [], k => by simp [Kind.cells]
  | x :: d, 0 => by simp [Kind.cells]
  | x :: d, k + 1 => by
    have e1 : K.cells (x :: d) = K.enc x ++ K.cells d := rfl
    have e2 : K.cells ((x :: d).take (k + 1)) = K.enc x ++ K.cells (d.take k) := rfl
    have h1 : (K.enc x).take (k * K.k + K.k) = K.enc x := List.take_of_length_le (by rw [K.len]; omega)
    rw [e1, e2, K.take_cells d k, Nat.add_mul, Nat.one_mul, List.take_append, h1, K.len, Nat.add_sub_cancel]

/-- The row cut short. -/
theorem Kind.own_cut {α : Type} {K : Kind α} {n0 g n cap : Nat} {w : World} {d : List α} (h : K.Own n0 w (.slice (some ⟨g, 0, none⟩) n cap) d) (k : Nat) (hk : k ≤ d.length) :
    K.Own n0 w (.slice (some ⟨g, 0, none⟩) k cap) (d.take k) := by
  have hl : (d.take k).length = k := by rw [List.length_take]; omega
  rcases h.2 with ⟨hv, _⟩ | ⟨g', cap', cur, hv, h1, h2, h3, h4, h5, h6⟩
  · cases hv
  · injection hv with e1 e2 e3
    injection e1 with e1
    injection e1 with e1 _ _
    subst e1 e3
    refine ⟨by rw [K.cells_len], Or.inr ⟨g, cap, cur, by rw [hl], h1, h2, by rw [hl]; omega, h4, h5, ?_⟩⟩
    rw [hl, K.take_cells, ← h6, List.take_take]
    congr 1
    have := Nat.mul_le_mul_right K.k hk
    omega

/-- Cells behind the row's end written over. -/
theorem Kind.own_past {α : Type} {K : Kind α} {n0 g n cap : Nat} {d : List α} (vs : List Value) : ∀ (w : World) (o : Nat), K.Own n0 w (.slice (some ⟨g, 0, none⟩) n cap) d → d.length = n → n * K.k ≤ o → K.Own n0 (w.setCells g o vs) (.slice (some ⟨g, 0, none⟩) n cap) d := by
  induction vs with
  | nil => intro w o h _ _; exact h
  | cons v vs ih =>
    intro w o h hn ho
    rw [World.setCells]
    refine ih _ _ ?_ hn (by omega)
    subst hn
    have h1 := (World.ownsRow.stored h o v).1
    rw [List.set_eq_of_length_le (by rw [K.cells_len]; exact ho)] at h1
    exact h1

theorem Kind.flat {α : Type} [Inhabited α] (K : Kind α) (d : List α) (t : Nat) (h : t < d.length * K.k) : (K.cells d)[t]? = some (K.enc d[t / K.k]!)[t % K.k]! := by
  have hq : t / K.k < d.length := (Nat.div_lt_iff_lt_mul K.pos).2 h
  have hm : t % K.k < K.k := Nat.mod_lt _ K.pos
  have e : t / K.k * K.k + t % K.k = t := by rw [Nat.mul_comm]; exact Nat.div_add_mod t K.k
  have h1 := K.cells_get d (t / K.k) hq (t % K.k) hm
  rw [e] at h1
  rw [h1, getElem!_pos d (t / K.k) hq, List.getElem?_eq_getElem (by rw [K.len]; exact hm), getElem!_pos _ _ (by rw [K.len]; exact hm)]

theorem Kind.own_holds {α : Type} [Inhabited α] {K : Kind α} {n0 g n cap : Nat} {w : World} {d : List α} (h : K.Own n0 w (.slice (some ⟨g, 0, none⟩) n cap) d) : HoldsK K.enc K.k w g 0 d.toArray := by
  rcases h.2 with ⟨hv, _⟩ | ⟨g', cap', cur, hv, h1, h2, h3, h4, h5, h6⟩
  · cases hv
  · injection hv with e1 e2 e3
    injection e1 with e1
    injection e1 with e1 _ _
    subst e1
    intro j hj
    rw [size_flatK] at hj
    have hj' : j < d.length * K.k := by simpa using hj
    have hg := K.flat d j hj'
    rw [← h6, List.getElem?_take_of_lt hj'] at hg
    rw [get_flatK _ _ _ _ hj]
    constructor
    · simp only [World.cell?, h2, Nat.zero_add]
      have hq : j / K.k < d.length := (Nat.div_lt_iff_lt_mul K.pos).2 hj'
      have he : d[j / K.k]! = d.toArray[j / K.k]! := by
        rw [getElem!_pos d (j / K.k) hq, getElem!_pos d.toArray (j / K.k) (by simpa using hq)]; simp
      rw [← Array.getElem?_toList, hg, he]
      rfl
    · simp [World.frozen?, h2]

theorem below_sortK {α : Type} [Inhabited α] (enc : α → List Value) (k : Nat) {B : Nat} {w0 w : World} (h : Below B w0 w) (hB : B ≤ w.heap.size) (blk off n : Nat) (d : Array α) (os : Array Obj) (hb : B ≤ blk) : Below B w0 (sortWorldK enc k w blk off n d os) := by
  refine h.trans ⟨rfl, rfl, rfl, ?_, ?_⟩
  · simp [sortWorldK, putRowK]
  · intro k' hk
    have hks : k' < w.heap.size := by omega
    simp only [sortWorldK, Sort.grow, putRowK, putRow, mapBlock, Sort.ahead]
    rw [Array.getElem?_append_left (by simpa using hks), Array.getElem?_modify, if_neg (by omega)]

/-- A row whose elements have been put in another order. -/
theorem Kind.own_sorted {α : Type} [Inhabited α] {K : Kind α} {n0 g n cap : Nat} {w : World} {d : List α} (h : K.Own n0 w (.slice (some ⟨g, 0, none⟩) n cap) d) (e : Array α) (he : e.size = d.length) (m : Nat) (os : Array Obj) :
    K.Own n0 (sortWorldK K.enc K.k w g 0 m e os) (.slice (some ⟨g, 0, none⟩) n cap) e.toList := by
  have hH := K.own_holds h
  rcases h.2 with ⟨hv, _⟩ | ⟨g', cap', cur, hv, h1, h2, h3, h4, h5, h6⟩
  · cases hv
  · injection hv with e1 e2 e3
    injection e1 with e1
    injection e1 with e1 _ _
    subst e1 e2 e3
    have hgl := (Array.getElem?_eq_some_iff.1 h2).1
    have hl : e.toList.length = d.length := by simpa using he
    have hheap : (sortWorldK K.enc K.k w g 0 m e os).heap[g]? = some (.cells (putCells id 0 (flatK K.enc K.k e) cur) K.T (0, 0)) := by
      simp only [sortWorldK, Sort.grow, putRowK, putRow, mapBlock, Sort.ahead]
      rw [Array.getElem?_append_left (by simpa using hgl), Array.getElem?_modify, if_pos rfl, h2]
      rfl
    have hH2 : HoldsK K.enc K.k (sortWorldK K.enc K.k w g 0 m e os) g 0 e := by
      exact holdsK_grow K.enc K.k _ os g 0 _ (by simpa [putRowK] using hgl) (holdsK_putRowK K.enc K.k (Sort.ahead w m) g 0 _ _ (holdsK_ahead K.enc K.k w m g 0 _ hH) (by simpa using he))
    have hsz : (putCells id 0 (flatK K.enc K.k e) cur).size = cur.size := by simp [putCells]
    refine ⟨by rw [K.cells_len], Or.inr ⟨g, cap, _, by rw [hl], h1, hheap, by rw [hl]; exact h3, h4, by rw [hsz]; exact h5, ?_⟩⟩
    apply List.ext_getElem?
    intro j
    rw [hl, List.getElem?_take]
    by_cases hj : j < d.length * K.k
    · have hje : j < e.size * K.k := by rw [he]; exact hj
      rw [if_pos hj, K.flat e.toList j (by rw [hl]; exact hj)]
      have := (hH2 j (by rw [size_flatK]; exact hje)).1
      rw [get_flatK _ _ _ _ (by first | exact hje | (rw [size_flatK]; exact hje))] at this
      simp only [World.cell?, hheap, Nat.zero_add] at this
      simp only [Option.isSome_none, Bool.false_eq_true, if_false] at this
      rw [Array.getElem?_toList, this]
      have hq : j / K.k < e.size := (Nat.div_lt_iff_lt_mul K.pos).2 hje
      have he2 : e.toList[j / K.k]! = e[j / K.k]! := by
        rw [getElem!_pos e (j / K.k) hq, getElem!_pos e.toList (j / K.k) (by simpa using hq)]; simp
      rw [he2]
      rfl
    · rw [if_neg hj, List.getElem?_eq_none]
      rw [K.cells_len, hl]
      omega

theorem Kind.own_ge {α : Type} {K : Kind α} {n0 g n cap : Nat} {w : World} {d : List α} (h : K.Own n0 w (.slice (some ⟨g, 0, none⟩) n cap) d) : n0 ≤ g ∧ g < w.heap.size ∧ d.length ≤ cap ∧ cap ≤ maxLen := by
  rcases h.2 with ⟨hv, _⟩ | ⟨g', cap', cur, hv, h1, h2, h3, h4, _⟩
  · cases hv
  · injection hv with e1 e2 e3
    injection e1 with e1
    injection e1 with e1 _ _
    subst e1 e3
    exact ⟨h1, (Array.getElem?_eq_some_iff.1 h2).1, h3, h4⟩

theorem Kind.own_drew {α : Type} {K : Kind α} {n0 : Nat} {w : World} {v : Value} {d : List α} (h : K.Own n0 w v d) (q : Nat) : K.Own n0 (w.drewN q) v d := h

theorem Kind.own_some {α : Type} [Inhabited α] {K : Kind α} {n0 g n cap : Nat} {w : World} {d : List α} (h : K.Own n0 w (.slice (some ⟨g, 0, none⟩) n cap) d) (t : Nat) (ht : t < d.length * K.k) :
    (w.cell? ⟨g, t, none⟩).isSome = true ∧ w.frozen? ⟨g, t, none⟩ = false := by
  have := K.own_holds h t (by rw [size_flatK]; simpa using ht)
  rw [Nat.zero_add] at this
  exact ⟨by rw [this.1]; rfl, this.2⟩

/-- An element's cells in a row of its own. -/
theorem Kind.own_at {α : Type} {K : Kind α} {n0 g n cap : Nat} {w : World} {d : List α} (h : K.Own n0 w (.slice (some ⟨g, 0, none⟩) n cap) d) : K.At w g 0 d := by
  by_cases h0 : 0 < d.length
  · obtain ⟨g', e, _, _, hat, _⟩ := Kind.own_form h h0
    cases e
    exact hat
  · intro i hi; omega

theorem Kind.own_free {α : Type} {K : Kind α} {n0 g n cap : Nat} {w : World} {d : List α} (h : K.Own n0 w (.slice (some ⟨g, 0, none⟩) n cap) d) (j : Nat) : w.frozen? ⟨g, j, none⟩ = false := by
  rcases h.2 with ⟨hv, _⟩ | ⟨g', cap', cur, hv, h1, h2, _⟩
  · cases hv
  · injection hv with e1 e2 e3
    injection e1 with e1
    injection e1 with e1 _ _
    subst e1
    exact Lib.frozen_of_heap h2 _

theorem Kind.newsN {α : Type} (K : Kind α) (W : World) (x : α) (N : Nat) (hN : N = W.heap.size) : ∀ j u, (K.cells [x])[j]? = some u → (W.alloc (.cells (K.enc x).toArray K.T)).cell? ((⟨N, 0, none⟩ : Addr).add j) = some u := by
  subst hN
  exact K.news W x

end Go.Proofs.YtelcongbnmfegaaGreatDoor

/-
  What references mean (stage 5): the mathematics, without the program.
-/
namespace Go.Proofs.YtelcongbnmfegaaGreatDoor
open Go.RowKit Go.Lib

/-- The text up to the first slash, and behind it. -/
def cutS : List UInt8 → Option (List UInt8 × List UInt8)
  | [] => none
  | c :: r => if c = 47 then some ([], r) else (cutS r).map fun x => (c :: x.1, x.2)

theorem cutS_some {l a b : List UInt8} (h : cutS l = some (a, b)) : l = a ++ 47 :: b ∧ (47 : UInt8) ∉ a := by
  induction l generalizing a with
  | nil => simp [cutS] at h
  | cons c r ih =>
    unfold cutS at h
    by_cases hc : c = 47
    · rw [if_pos hc] at h
      simp at h
      obtain ⟨rfl, rfl⟩ := h
      simp [hc]
    · rw [if_neg hc] at h
      cases hr : cutS r with
      | none => rw [hr] at h; simp at h
      | some x =>
        obtain ⟨a1, b1⟩ := x
        rw [hr] at h
        simp at h
        obtain ⟨rfl, rfl⟩ := h
        obtain ⟨e, hn⟩ := ih hr
        rw [e]
        refine ⟨rfl, ?_⟩
        simp only [List.mem_cons, not_or]
        exact ⟨fun h => hc h.symm, hn⟩

theorem cutS_of {a b : List UInt8} (h : (47 : UInt8) ∉ a) : cutS (a ++ 47 :: b) = some (a, b) := by
  induction a with
  | nil => simp [cutS]
  | cons c r ih =>
    simp only [List.mem_cons, not_or] at h
    simp only [List.cons_append, cutS]
    rw [if_neg (fun e => h.1 e.symm), ih h.2]
    rfl

def keyL (k : List UInt8 × List UInt8) : Bool := typeB k.1 && idenB k.2

/-- The key of a text. -/
def parseS (l : List UInt8) : Option (List UInt8 × List UInt8) :=
  match cutS l with
  | some k => if keyL k then some k else none
  | none => none

/-- The key that a text names; the temporary name that it names. -/
def namedS : List UInt8 → Option (List UInt8 × List UInt8)
  | 42 :: r => parseS r
  | _ => none

def tempS : List UInt8 → Option (List UInt8)
  | 42 :: 64 :: r => if tempB r then some r else none
  | _ => none

/-- A key's reference. -/
def refS (k : List UInt8 × List UInt8) : List UInt8 := 42 :: (k.1 ++ 47 :: k.2)

theorem type_slash {l : List UInt8} (h : typeB l = true) : (47 : UInt8) ∉ l := by
  cases l with
  | nil => simp
  | cons c r =>
    simp only [typeB, spell, Bool.and_eq_true, List.all_eq_true] at h
    intro hm
    rcases List.mem_cons.1 hm with rfl | hm
    · exact absurd h (by simp [bigB])
    · have := h.2 _ hm
      revert this
      simp [letB, bigB, smallB]

theorem parseS_some {l : List UInt8} {k : List UInt8 × List UInt8} (h : parseS l = some k) : l = k.1 ++ 47 :: k.2 ∧ keyL k = true := by
  unfold parseS at h
  cases hc : cutS l with
  | none => rw [hc] at h; cases h
  | some x =>
    rw [hc] at h
    simp only at h
    split at h
    · next hk =>
      cases h
      exact ⟨(cutS_some hc).1, hk⟩
    · cases h

theorem parseS_of {k : List UInt8 × List UInt8} (h : keyL k = true) : parseS (k.1 ++ 47 :: k.2) = some k := by
  have ht : typeB k.1 = true := by simp only [keyL, Bool.and_eq_true] at h; exact h.1
  unfold parseS
  rw [cutS_of (type_slash ht)]
  simp [h]

theorem named_ref {k : List UInt8 × List UInt8} (h : keyL k = true) : namedS (refS k) = some k := parseS_of h

theorem named_some {l : List UInt8} {k : List UInt8 × List UInt8} (h : namedS l = some k) : l = refS k ∧ keyL k = true := by
  unfold namedS at h
  split at h
  · obtain ⟨h1, h2⟩ := parseS_some h
    exact ⟨by rw [h1]; rfl, h2⟩
  · cases h

theorem temp_some {l n : List UInt8} (h : tempS l = some n) : l = 42 :: 64 :: n ∧ tempB n = true := by
  unfold tempS at h
  split at h
  · split at h
    · next hk => cases h; exact ⟨rfl, hk⟩
    · cases h
  · cases h

theorem temp_of {n : List UInt8} (h : tempB n = true) : tempS (42 :: 64 :: n) = some n := by simp [tempS, h]

/-- No reference to a key is a temporary one. -/
theorem temp_ref {k : List UInt8 × List UInt8} (h : keyL k = true) : tempS (refS k) = none := by
  cases ht : tempS (refS k) with
  | none => rfl
  | some n =>
    obtain ⟨e, _⟩ := temp_some ht
    exfalso
    simp only [keyL, Bool.and_eq_true] at h
    obtain ⟨a, b⟩ := k
    cases a with
    | nil => simp [typeB, spell] at h
    | cons c r =>
      simp only [refS, List.cons_append, List.cons.injEq, true_and] at e
      obtain ⟨rfl, _⟩ := e
      simp [typeB, spell, bigB] at h

theorem named_temp {l : List UInt8} {k : List UInt8 × List UInt8} (h : namedS l = some k) : tempS l = none := by
  obtain ⟨rfl, hk⟩ := named_some h
  exact temp_ref hk

/-! Names of keys and binds, as the program holds them. -/

abbrev Bd := ByteArray × Ky

def Ky.l (k : Ky) : List UInt8 × List UInt8 := (k.1.data.toList, k.2.data.toList)
def bytesL (l : List UInt8) : ByteArray := ⟨l.toArray⟩
theorem bytesL_list (l : List UInt8) : (bytesL l).data.toList = l := rfl
theorem bytesL_of (b : ByteArray) : bytesL b.data.toList = b := rfl

def keyOK (k : Ky) : Bool := keyL k.l
def namedT (t : ByteArray) : Option Ky := (namedS t.data.toList).map fun k => (bytesL k.1, bytesL k.2)
def tempT (t : ByteArray) : Option ByteArray := (tempS t.data.toList).map bytesL
def refT (k : Ky) : ByteArray := bytesL (refS k.l)

theorem namedT_ref {k : Ky} (h : keyOK k = true) : namedT (refT k) = some k := by
  unfold namedT refT
  rw [bytesL_list, named_ref h]
  rfl

theorem namedT_some {t : ByteArray} {k : Ky} (h : namedT t = some k) : t = refT k ∧ keyOK k = true := by
  unfold namedT at h
  cases hn : namedS t.data.toList with
  | none => rw [hn] at h; cases h
  | some x =>
    rw [hn] at h
    simp only [Option.map_some, Option.some.injEq] at h
    subst h
    obtain ⟨h1, h2⟩ := named_some hn
    exact ⟨by rw [← bytesL_of t, h1]; rfl, h2⟩

theorem tempT_ref {k : Ky} (h : keyOK k = true) : tempT (refT k) = none := by
  unfold tempT refT
  rw [bytesL_list, temp_ref h]
  rfl

theorem namedT_temp {t : ByteArray} {k : Ky} (h : namedT t = some k) : tempT t = none := by
  obtain ⟨rfl, hk⟩ := namedT_some h
  exact tempT_ref hk

theorem refT_inj {a b : Ky} (ha : keyOK a = true) (hb : keyOK b = true) (h : refT a = refT b) : a = b := by
  have := namedT_ref ha
  rw [h, namedT_ref hb] at this
  exact (Option.some.inj this).symm

/-! Rename. -/

def renT (a b : Ky) (t : ByteArray) : ByteArray := if namedT t = some a then refT b else t
def mapT (g : ByteArray → ByteArray) (fs : List Fld) : List Fld := fs.map fun f => (f.1, f.2.map g)
def pointsF (fs : List Fld) (k : Ky) : Prop := ∃ f ∈ fs, ∃ t ∈ f.2, namedT t = some k

theorem points_map {g : ByteArray → ByteArray} {fs : List Fld} {k : Ky} : pointsF (mapT g fs) k ↔ ∃ f ∈ fs, ∃ t ∈ f.2, namedT (g t) = some k := by
  unfold pointsF mapT
  constructor
  · rintro ⟨f, hf, t, ht, h⟩
    obtain ⟨f0, h0, rfl⟩ := List.mem_map.1 hf
    obtain ⟨t0, h1, rfl⟩ := List.mem_map.1 ht
    exact ⟨f0, h0, t0, h1, h⟩
  · rintro ⟨f, hf, t, ht, h⟩
    exact ⟨_, List.mem_map.2 ⟨f, hf, rfl⟩, _, List.mem_map.2 ⟨t, ht, rfl⟩, h⟩

theorem ren_named {a b k : Ky} (hb : keyOK b = true) (hab : a ≠ b) (t : ByteArray) : namedT (renT a b t) = some k ↔ (namedT t = some k ∧ k ≠ a) ∨ (k = b ∧ namedT t = some a) := by
  unfold renT
  split
  · next h =>
    rw [namedT_ref hb, h]
    constructor
    · intro e
      exact Or.inr ⟨(Option.some.inj e).symm, rfl⟩
    · rintro (⟨e, hk⟩ | ⟨rfl, _⟩)
      · exact absurd (Option.some.inj e).symm hk
      · rfl
  · next h =>
    constructor
    · intro e
      exact Or.inl ⟨e, fun hk => h (by rw [e, hk])⟩
    · rintro (⟨e, _⟩ | ⟨_, e⟩)
      · exact e
      · exact absurd e h

theorem ren_from {a b : Ky} (hb : keyOK b = true) (hab : a ≠ b) (fs : List Fld) : ¬ pointsF (mapT (renT a b) fs) a := by
  rw [points_map]
  rintro ⟨f, _, t, _, h⟩
  rcases (ren_named hb hab t).1 h with ⟨_, h2⟩ | ⟨h1, _⟩
  · exact h2 rfl
  · exact hab h1

theorem ren_to {a b : Ky} (hb : keyOK b = true) (hab : a ≠ b) (fs : List Fld) : pointsF (mapT (renT a b) fs) b ↔ pointsF fs a ∨ pointsF fs b := by
  rw [points_map]
  constructor
  · rintro ⟨f, hf, t, ht, h⟩
    rcases (ren_named hb hab t).1 h with ⟨h1, _⟩ | ⟨_, h2⟩
    · exact Or.inr ⟨f, hf, t, ht, h1⟩
    · exact Or.inl ⟨f, hf, t, ht, h2⟩
  · rintro (⟨f, hf, t, ht, h⟩ | ⟨f, hf, t, ht, h⟩)
    · exact ⟨f, hf, t, ht, (ren_named hb hab t).2 (Or.inr ⟨rfl, h⟩)⟩
    · exact ⟨f, hf, t, ht, (ren_named hb hab t).2 (Or.inl ⟨h, fun e => hab e.symm⟩)⟩

theorem ren_back_text {a b : Ky} (hb : keyOK b = true) {t : ByteArray} (h : namedT t ≠ some b) : renT b a (renT a b t) = t := by
  unfold renT
  by_cases h1 : namedT t = some a
  · rw [if_pos h1, namedT_ref hb, if_pos rfl]
    exact (namedT_some h1).1.symm
  · rw [if_neg h1, if_neg h]

theorem map_same {fs : List Fld} {g : ByteArray → ByteArray} (h : ∀ f ∈ fs, ∀ t ∈ f.2, g t = t) : mapT g fs = fs := by
  unfold mapT
  conv => rhs; rw [← List.map_id fs]
  apply List.map_congr_left
  intro f hf
  have : f.2.map g = f.2 := by
    conv => rhs; rw [← List.map_id f.2]
    exact List.map_congr_left fun t ht => h f hf t ht
  rw [this]
  rfl

theorem map_map {fs : List Fld} {g h : ByteArray → ByteArray} : mapT g (mapT h fs) = mapT (g ∘ h) fs := by
  unfold mapT
  rw [List.map_map]
  apply List.map_congr_left
  intro f _
  simp

theorem ren_back {a b : Ky} (hb : keyOK b = true) {fs : List Fld} (h : ¬ pointsF fs b) : mapT (renT b a) (mapT (renT a b) fs) = fs := by
  rw [map_map]
  exact map_same fun f hf t ht => ren_back_text hb fun e => h ⟨f, hf, t, ht, e⟩

/-! Resolve. -/

def boundT (bs : List Bd) (n : ByteArray) : Option Ky := (bs.find? fun b => decide (b.1 = n)).map (·.2)

def resT (bs : List Bd) (t : ByteArray) : ByteArray :=
  match tempT t with
  | none => t
  | some n => match boundT bs n with
    | some k => refT k
    | none => t

def allBound (bs : List Bd) (fs : List Fld) : Prop := ∀ f ∈ fs, ∀ t ∈ f.2, ∀ n, tempT t = some n → (boundT bs n).isSome = true

theorem bound_mem {bs : List Bd} {n : ByteArray} {k : Ky} (h : boundT bs n = some k) : (n, k) ∈ bs := by
  unfold boundT at h
  cases hf : bs.find? fun b => decide (b.1 = n) with
  | none => rw [hf] at h; cases h
  | some b =>
    rw [hf] at h
    simp only [Option.map_some, Option.some.injEq] at h
    have h1 := List.find?_some hf
    have h2 := List.mem_of_find?_eq_some hf
    simp only [decide_eq_true_eq] at h1
    obtain ⟨b1, b2⟩ := b
    simp only at h h1
    subst h h1
    exact h2

theorem bound_of {bs : List Bd} (hn : (bs.map (·.1)).Nodup) {n : ByteArray} {k : Ky} (h : (n, k) ∈ bs) : boundT bs n = some k := by
  induction bs with
  | nil => cases h
  | cons b r ih =>
    rw [List.map_cons, List.nodup_cons] at hn
    unfold boundT
    rw [List.find?_cons]
    rcases List.mem_cons.1 h with e | h
    · subst e; simp
    · have hne : b.1 ≠ n := fun e => hn.1 (by rw [e]; exact List.mem_map.2 ⟨_, h, rfl⟩)
      rw [decide_eq_false hne]
      exact ih hn.2 h

/-- The order of binds is no matter. -/
theorem bound_turn {bs cs : List Bd} (h1 : (bs.map (·.1)).Nodup) (h2 : (cs.map (·.1)).Nodup) (hm : ∀ x, x ∈ bs ↔ x ∈ cs) (n : ByteArray) : boundT bs n = boundT cs n := by
  cases hb : boundT bs n with
  | some k => exact (bound_of h2 ((hm _).1 (bound_mem hb))).symm
  | none =>
    cases hc : boundT cs n with
    | none => rfl
    | some k => rw [bound_of h1 ((hm _).2 (bound_mem hc))] at hb; cases hb

theorem res_turn {bs cs : List Bd} (h1 : (bs.map (·.1)).Nodup) (h2 : (cs.map (·.1)).Nodup) (hm : ∀ x, x ∈ bs ↔ x ∈ cs) : resT bs = resT cs := by
  funext t
  unfold resT
  cases tempT t with
  | none => rfl
  | some n => simp only [bound_turn h1 h2 hm n]

/-- Behind Resolve there is no temporary reference. -/
theorem res_temp {bs : List Bd} (hk : ∀ b ∈ bs, keyOK b.2 = true) {t : ByteArray} (h : ∀ n, tempT t = some n → (boundT bs n).isSome = true) : tempT (resT bs t) = none := by
  unfold resT
  cases ht : tempT t with
  | none => exact ht
  | some n =>
    simp only
    cases hb : boundT bs n with
    | none => have := h n ht; rw [hb] at this; cases this
    | some k => exact tempT_ref (hk _ (bound_mem hb))

theorem res_stays {bs : List Bd} {t : ByteArray} (h : tempT t = none) : resT bs t = t := by unfold resT; rw [h]

theorem res_named {bs : List Bd} (hk : ∀ b ∈ bs, keyOK b.2 = true) {t n : ByteArray} (ht : tempT t = some n) (h : (boundT bs n).isSome = true) : ∃ k, boundT bs n = some k ∧ namedT (resT bs t) = some k := by
  cases hb : boundT bs n with
  | none => rw [hb] at h; cases h
  | some k =>
    refine ⟨k, rfl, ?_⟩
    unfold resT
    rw [ht]
    simp only [hb]
    exact namedT_ref (hk _ (bound_mem hb))

/-- Behind Resolve the keys are those that were there, and those of the names that were used. -/
theorem res_points {bs : List Bd} (hk : ∀ b ∈ bs, keyOK b.2 = true) {fs : List Fld} (h : allBound bs fs) (k : Ky) :
    pointsF (mapT (resT bs) fs) k ↔ pointsF fs k ∨ ∃ f ∈ fs, ∃ t ∈ f.2, ∃ n, tempT t = some n ∧ boundT bs n = some k := by
  rw [points_map]
  constructor
  · rintro ⟨f, hf, t, ht, e⟩
    cases hn : tempT t with
    | none => rw [res_stays hn] at e; exact Or.inl ⟨f, hf, t, ht, e⟩
    | some n =>
      obtain ⟨k', hb, hk'⟩ := res_named hk hn (h f hf t ht n hn)
      rw [hk'] at e
      exact Or.inr ⟨f, hf, t, ht, n, hn, by rw [hb]; exact e⟩
  · rintro (⟨f, hf, t, ht, e⟩ | ⟨f, hf, t, ht, n, hn, e⟩)
    · exact ⟨f, hf, t, ht, by rw [res_stays (namedT_temp e)]; exact e⟩
    · obtain ⟨k', hb, hk'⟩ := res_named hk hn (by rw [e]; rfl)
      rw [hb] at e
      exact ⟨f, hf, t, ht, by rw [hk']; exact e⟩

end Go.Proofs.YtelcongbnmfegaaGreatDoor

/-
  Rising lists (stage 5): one more in its place; the keys and the temporary names of a value.
-/
namespace Go.Proofs.YtelcongbnmfegaaGreatDoor
open Go.RowKit Go.Lib

/-- All that is told by the texts, in order. -/
def toldBy {α : Type} [DecidableEq α] (lt : α → α → Bool) (g : ByteArray → Option α) (ts : List ByteArray) : List α :=
  ts.foldl (fun acc t => match g t with
    | some x => insR lt x acc
    | none => acc) []

theorem told_go {α : Type} [DecidableEq α] {lt : α → α → Bool} (T : Tot lt) (g : ByteArray → Option α) (ts : List ByteArray) : ∀ acc : List α, RisingR lt acc →
    RisingR lt (ts.foldl (fun acc t => match g t with | some x => insR lt x acc | none => acc) acc) ∧ ∀ z, z ∈ ts.foldl (fun acc t => match g t with | some x => insR lt x acc | none => acc) acc ↔ z ∈ acc ∨ ∃ t ∈ ts, g t = some z := by
  induction ts with
  | nil => intro acc h; exact ⟨h, fun z => by simp⟩
  | cons t r ih =>
    intro acc h
    simp only [List.foldl_cons]
    cases hg : g t with
    | none =>
      obtain ⟨h1, h2⟩ := ih acc h
      refine ⟨h1, fun z => ?_⟩
      rw [h2 z]
      constructor
      · rintro (h | ⟨u, hu, e⟩)
        · exact Or.inl h
        · exact Or.inr ⟨u, List.mem_cons_of_mem _ hu, e⟩
      · rintro (h | ⟨u, hu, e⟩)
        · exact Or.inl h
        · rcases List.mem_cons.1 hu with rfl | hu
          · rw [hg] at e; cases e
          · exact Or.inr ⟨u, hu, e⟩
    | some x =>
      obtain ⟨h1, h2⟩ := ih (insR lt x acc) (rising_insR T x h)
      refine ⟨h1, fun z => ?_⟩
      rw [h2 z, mem_insR]
      constructor
      · rintro ((rfl | h) | ⟨u, hu, e⟩)
        · exact Or.inr ⟨t, by simp, hg⟩
        · exact Or.inl h
        · exact Or.inr ⟨u, List.mem_cons_of_mem _ hu, e⟩
      · rintro (h | ⟨u, hu, e⟩)
        · exact Or.inl (Or.inr h)
        · rcases List.mem_cons.1 hu with rfl | hu
          · rw [hg] at e; exact Or.inl (Or.inl (Option.some.inj e).symm)
          · exact Or.inr ⟨u, hu, e⟩

theorem told_rising {α : Type} [DecidableEq α] {lt : α → α → Bool} (T : Tot lt) (g : ByteArray → Option α) (ts : List ByteArray) : RisingR lt (toldBy lt g ts) := (told_go T g ts [] List.Pairwise.nil).1
theorem told_mem {α : Type} [DecidableEq α] {lt : α → α → Bool} (T : Tot lt) (g : ByteArray → Option α) (ts : List ByteArray) (z : α) : z ∈ toldBy lt g ts ↔ ∃ t ∈ ts, g t = some z := by
  have := (told_go T g ts [] List.Pairwise.nil).2 z
  simpa [toldBy] using this

def textsF (fs : List Fld) : List ByteArray := fs.flatMap (·.2)
def keysF (fs : List Fld) : List Ky := toldBy ltKy namedT (textsF fs)
def tempsF (fs : List Fld) : List ByteArray := toldBy ltB tempT (textsF fs)

theorem mem_textsF {fs : List Fld} {t : ByteArray} : t ∈ textsF fs ↔ ∃ f ∈ fs, t ∈ f.2 := by simp [textsF]

/-- The keys of a value are those at which it points. -/
theorem mem_keysF {fs : List Fld} {k : Ky} : k ∈ keysF fs ↔ pointsF fs k := by
  unfold keysF pointsF
  rw [told_mem totK]
  constructor
  · rintro ⟨t, ht, h⟩
    obtain ⟨f, hf, h'⟩ := mem_textsF.1 ht
    exact ⟨f, hf, t, h', h⟩
  · rintro ⟨f, hf, t, ht, h⟩
    exact ⟨t, mem_textsF.2 ⟨f, hf, ht⟩, h⟩

theorem mem_tempsF {fs : List Fld} {n : ByteArray} : n ∈ tempsF fs ↔ ∃ f ∈ fs, ∃ t ∈ f.2, tempT t = some n := by
  unfold tempsF
  rw [told_mem totB]
  constructor
  · rintro ⟨t, ht, h⟩
    obtain ⟨f, hf, h'⟩ := mem_textsF.1 ht
    exact ⟨f, hf, t, h', h⟩
  · rintro ⟨f, hf, t, ht, h⟩
    exact ⟨t, mem_textsF.2 ⟨f, hf, ht⟩, h⟩

/-- Behind Resolve: no temporary name. -/
theorem res_tempsF {bs : List Bd} (hk : ∀ b ∈ bs, keyOK b.2 = true) {fs : List Fld} (h : allBound bs fs) : tempsF (mapT (resT bs) fs) = [] := by
  apply List.eq_nil_iff_forall_not_mem.2
  intro n hn
  obtain ⟨f, hf, t, ht, e⟩ := mem_tempsF.1 hn
  unfold mapT at hf
  obtain ⟨f0, h0, rfl⟩ := List.mem_map.1 hf
  obtain ⟨t0, h1, rfl⟩ := List.mem_map.1 ht
  rw [res_temp hk (h f0 h0 t0 h1)] at e
  cases e

end Go.Proofs.YtelcongbnmfegaaGreatDoor

/-
  Rows of binds.
-/
namespace Go.Proofs.YtelcongbnmfegaaGreatDoor
open Go.RowKit Go.Sort Go.Lib
def encBd (x : Bd) : List Value := [.string x.1, .string x.2.1, .string x.2.2]
end Go.Proofs.YtelcongbnmfegaaGreatDoor

/-
  Texts sorted, and each once: what slices.Sort and slices.Compact leave of a row of one's own.
-/
namespace Go.Proofs.YtelcongbnmfegaaGreatDoor
open Go.RowKit Go.Sort Go.Lib

theorem compact_rise {α : Type} [DecidableEq α] [Inhabited α] {lt : α → α → Bool} (T : Tot lt) {d : Array α} (hle : ∀ i j, i ≤ j → j < d.size → lt d[j]! d[i]! = false) : RisingR lt (compactUpTo d d.size) ∧ ∀ x, x ∈ compactUpTo d d.size ↔ x ∈ d.toList := by
  have key : ∀ m, m ≤ d.size → RisingR lt (compactUpTo d m) ∧ ∀ x, x ∈ compactUpTo d m ↔ ∃ j, j < m ∧ d[j]! = x := by
    intro m
    induction m with
    | zero => intro _; exact ⟨List.Pairwise.nil, fun x => by simp [compactUpTo]⟩
    | succ m ih =>
      intro hm
      obtain ⟨h1, h2⟩ := ih (by omega)
      rw [compactUpTo_succ]
      cases hk : keeps d m with
      | true =>
        rw [if_pos rfl]
        constructor
        · refine List.pairwise_append.2 ⟨h1, List.pairwise_singleton _ _, fun x hx y hy => ?_⟩
          rw [List.mem_singleton] at hy
          subst hy
          obtain ⟨j, hj, rfl⟩ := (h2 x).1 hx
          have hne : d[m]! ≠ d[m - 1]! := by
            unfold keeps at hk
            rcases of_decide_eq_true hk with h | h
            · omega
            · exact h
          have ha := hle j (m - 1) (by omega) (by omega)
          have hb := hle (m - 1) m (by omega) (by omega)
          rcases T.tot d[j]! d[m]! with h | h | h
          · exact h
          · rw [h] at ha
            rcases T.tot d[m - 1]! d[m]! with h' | h' | h'
            · rw [ha] at h'; cases h'
            · exact absurd h'.symm hne
            · rw [hb] at h'; cases h'
          · rw [hle j m (by omega) (by omega)] at h; cases h
        · intro x
          rw [List.mem_append, List.mem_singleton, h2]
          constructor
          · rintro (⟨j, hj, e⟩ | e)
            · exact ⟨j, by omega, e⟩
            · exact ⟨m, by omega, e.symm⟩
          · rintro ⟨j, hj, e⟩
            by_cases hjm : j = m
            · subst hjm; exact Or.inr e.symm
            · exact Or.inl ⟨j, by omega, e⟩
      | false =>
        rw [if_neg (by simp), List.append_nil]
        refine ⟨h1, fun x => ?_⟩
        rw [h2]
        constructor
        · rintro ⟨j, hj, e⟩
          exact ⟨j, by omega, e⟩
        · rintro ⟨j, hj, e⟩
          by_cases hjm : j = m
          · subst hjm
            have hh : ¬ (j = 0 ∨ d[j]! ≠ d[j - 1]!) := by unfold keeps at hk; exact of_decide_eq_false hk
            have h0 : j ≠ 0 := fun e => hh (Or.inl e)
            have h3 : d[j]! = d[j - 1]! := Classical.byContradiction fun e => hh (Or.inr e)
            exact ⟨j - 1, by omega, by rw [← h3]; exact e⟩
          · exact ⟨j, by omega, e⟩
  obtain ⟨h1, h2⟩ := key d.size (Nat.le_refl _)
  refine ⟨h1, fun x => (h2 x).trans ?_⟩
  rw [List.mem_iff_getElem]
  constructor
  · rintro ⟨j, hj, e⟩
    exact ⟨j, by simpa using hj, by rw [← e, getElem!_pos d j hj]; simp⟩
  · rintro ⟨j, hj, e⟩
    have hj' : j < d.size := by simpa using hj
    exact ⟨j, hj', by rw [getElem!_pos d j hj', ← e]; simp⟩

def ltL (a b : List UInt8) : Bool := decide (Lib.compareBytes a b < 0)
theorem ltL_bytes (a b : List UInt8) : ltB (bytesL a) (bytesL b) = ltL a b := rfl
theorem ltL_dec (a b : List UInt8) : ltL a b = decide (a < b) := by unfold ltL; rw [cb_less, bytesLess_eq]
theorem totL : Tot ltL where
  irr a := ltB_irrefl (bytesL a)
  tr a b c h k := ltB_trans (a := bytesL a) (b := bytesL b) (c := bytesL c) h k
  tot a b := by
    rcases ltB_cases (bytesL a) (bytesL b) with h | h | h
    · exact Or.inl h
    · exact Or.inr (Or.inl (by have := congrArg (fun x : ByteArray => x.data.toList) h; simpa [bytesL] using this))
    · exact Or.inr (Or.inr h)

theorem merge_ord (ss : List (List UInt8)) : (ss.mergeSort fun x y => decide (x ≤ y)).Pairwise fun x y => ltL y x = false := by
  have h : (ss.mergeSort fun x y => decide (x ≤ y)).Pairwise fun x y => decide (x ≤ y) = true := by
    refine List.pairwise_mergeSort ?_ ?_ ss
    · intro a b c h1 h2
      simp only [decide_eq_true_eq] at *
      exact List.le_trans h1 h2
    · intro a b
      rcases List.le_total a b with h | h <;> simp [h]
  refine h.imp fun {x y} hxy => ?_
  rw [ltL_dec, decide_eq_false_iff_not]
  exact of_decide_eq_true hxy

theorem rising_bytes {r : List (List UInt8)} (h : RisingR ltL r) : RisingR ltB (r.map bytesL) := by
  unfold RisingR at *
  rw [List.pairwise_map]
  exact h.imp fun {a b} hab => hab

theorem bytes_inj : ∀ {a b : List UInt8}, bytesL a = bytesL b → a = b := fun {a b} h => by
  have := congrArg (fun x : ByteArray => x.data.toList) h
  simpa [bytesL] using this

/-- The texts, rising, each once. -/
def sortT (ts : List ByteArray) : List ByteArray := toldBy ltB some ts

theorem sortT_rising (ts : List ByteArray) : RisingR ltB (sortT ts) := told_rising totB _ _
theorem sortT_mem (ts : List ByteArray) (z : ByteArray) : z ∈ sortT ts ↔ z ∈ ts := by
  unfold sortT
  rw [told_mem totB]
  constructor
  · rintro ⟨t, ht, e⟩; rw [← Option.some.inj e]; exact ht
  · intro h; exact ⟨z, h, rfl⟩

theorem sortT_of {ts r : List ByteArray} (h1 : RisingR ltB r) (h2 : ∀ z, z ∈ r ↔ z ∈ ts) : r = sortT ts :=
  rising_uniqR totB h1 (sortT_rising ts) fun z => (h2 z).trans (sortT_mem ts z).symm

/-- What the sort, and then the doubles' fall, leave. -/
theorem sorted_texts (ts : List ByteArray) : (compactUpTo ((ts.map (·.data.toList)).mergeSort fun x y => decide (x ≤ y)).toArray ((ts.map (·.data.toList)).mergeSort fun x y => decide (x ≤ y)).toArray.size).map bytesL = sortT ts := by
  obtain ⟨m, hm⟩ : ∃ m, (ts.map (·.data.toList)).mergeSort (fun x y => decide (x ≤ y)) = m := ⟨_, rfl⟩
  have hord := merge_ord (ts.map (·.data.toList))
  have hperm : (((ts.map (·.data.toList)).mergeSort fun x y => decide (x ≤ y))).Perm (ts.map (·.data.toList)) := List.mergeSort_perm _ _
  rw [hm] at hord hperm ⊢
  obtain ⟨h1, h2⟩ := compact_rise (d := m.toArray) totL (fun i j hij hj => by
    have hj' : j < m.length := by simpa using hj
    rw [getElem!_pos m.toArray j hj, getElem!_pos m.toArray i (by omega)]
    simp only [List.getElem_toArray]
    rcases Nat.lt_or_eq_of_le hij with h | h
    · exact List.pairwise_iff_getElem.1 hord i j (by omega) hj' h
    · subst h; exact totL.irr _)
  refine sortT_of (rising_bytes h1) fun z => ?_
  rw [List.mem_map]
  constructor
  · rintro ⟨a, ha, rfl⟩
    have := (h2 a).1 ha
    simp only at this
    obtain ⟨t, ht, e⟩ := List.mem_map.1 (hperm.mem_iff.1 this)
    rw [← e]
    exact ht
  · intro hz
    exact ⟨z.data.toList, (h2 _).2 (hperm.mem_iff.2 (List.mem_map.2 ⟨z, hz, rfl⟩)), rfl⟩

end Go.Proofs.YtelcongbnmfegaaGreatDoor

/-
  The contracts of slices.Sort and slices.Compact at rows of texts of one's own.
-/
namespace Go.Proofs.YtelcongbnmfegaaGreatDoor
open Go.RowKit Go.Sort Go.Lib

def orderT (ts : List ByteArray) : List ByteArray := ((ts.map (·.data.toList)).mergeSort fun x y => decide (x ≤ y)).map bytesL
def onceT (ts : List ByteArray) : List ByteArray := (Lib.compact (ts.map (·.data.toList))).map bytesL

theorem bytes_lists (l : List (List UInt8)) : (l.map bytesL).map (·.data.toList) = l := by
  rw [List.map_map]
  conv => rhs; rw [← List.map_id l]
  rfl

theorem order_once (ts : List ByteArray) : onceT (orderT ts) = sortT ts := by
  unfold onceT orderT
  rw [bytes_lists]
  have := sorted_texts ts
  simpa [Lib.compact] using this

theorem encStr_bytes (l : List (List UInt8)) : l.map encStr = (l.map bytesL).map Value.string := by
  rw [← map_encStr, bytes_lists]

theorem orderT_len (ts : List ByteArray) : (orderT ts).length = ts.length := by
  unfold orderT
  rw [List.length_map, List.length_mergeSort, List.length_map]

theorem sortS_own (n0 : Nat) (u : Value) (ts : List ByteArray) (w : World) (h : OwnT n0 w u ts) (h0 : n0 ≤ w.heap.size) (hl : ts.length ≤ 4000000) :
    Calls Tryz.prog 65 #[u] w fun e w' => e = .returned (.tuple #[]) ∧ OwnT n0 w' u (orderT ts) ∧ Below n0 w w' := by
  rcases h.2 with ⟨rfl, hz⟩ | ⟨g, cap, cur, rfl, hb, hg, hn, hm, hs, ht⟩
  · obtain rfl := List.length_eq_zero_iff.1 hz
    refine (Tryz.slices_Sort_string_none _ _ w).mono ?_
    rintro e w' ⟨rfl, rfl⟩
    refine ⟨rfl, ?_, Below.refl _ _⟩
    have : orderT [] = [] := by have := orderT_len []; exact List.length_eq_zero_iff.1 this
    rw [this]
    exact h
  · obtain ⟨ss, hss⟩ : ∃ ss, ts.map (·.data.toList) = ss := ⟨_, rfl⟩
    have hsl : ss.length = ts.length := by rw [← hss, List.length_map]
    have hh : w.ownsRow n0 9 1 (.slice (some ⟨g, 0, none⟩) ts.length cap) ts.length (ss.map encStr) := by rw [← hss, map_encStr]; exact h
    obtain ⟨g', cap', e0, _, hgl, _, _, _, hH⟩ := holds_of_ownsRow hh (by simp)
    injection e0 with e1 _ e3
    injection e1 with e1
    injection e1 with e1
    subst e1 e3
    have hc := Tryz.slices_Sort_string g 0 cap ss w hH hgl (by omega)
    rw [hsl] at hc
    refine hc.mono ?_
    rintro e w' ⟨rfl, n, os, rfl⟩
    have hl2 : (ss.mergeSort fun x y => decide (x ≤ y)).length = ss.length := List.length_mergeSort ss
    refine ⟨rfl, ?_, (Below.refl _ _).grown (grownBy_sorted _) h0 (fun k hk => by cases hk; exact hb)⟩
    have := ownsRow_sorted (n := n) (os := os) (ts := ss.mergeSort fun x y => decide (x ≤ y)) (cap := cap) hl2 hb hg (by omega) hm hs
    unfold OwnT
    rw [orderT_len]
    unfold orderT
    rw [hss, ← encStr_bytes, ← hsl]
    exact this

theorem onceT_len (ts : List ByteArray) : (onceT ts).length ≤ ts.length := by
  unfold onceT
  rw [List.length_map]
  have := Lib.compact_length_le (ts.map (·.data.toList))
  rwa [List.length_map] at this

theorem compS_own (n0 : Nat) (u : Value) (ts : List ByteArray) (w : World) (h : OwnT n0 w u ts) (h0 : n0 ≤ w.heap.size) (hl : ts.length ≤ 4000000) :
    Calls Tryz.prog 66 #[u] w fun e w' => ∃ u', e = .returned u' ∧ OwnT n0 w' u' (onceT ts) ∧ Below n0 w w' := by
  rcases h.2 with ⟨rfl, hz⟩ | ⟨g, cap, cur, rfl, hb, hg, hn, hm, hs, ht⟩
  · obtain rfl := List.length_eq_zero_iff.1 hz
    refine (Any.slices_Compact_string_empty Tryz.laysCompact _ _ w).mono ?_
    rintro e w' ⟨rfl, rfl⟩
    have : onceT [] = [] := by have := onceT_len []; exact List.length_eq_zero_iff.1 (by simpa using this)
    refine ⟨_, rfl, ?_, Below.refl _ _⟩
    rw [this]
    exact h
  · obtain ⟨ss, hss⟩ : ∃ ss, ts.map (·.data.toList) = ss := ⟨_, rfl⟩
    have hsl : ss.length = ts.length := by rw [← hss, List.length_map]
    have hh : w.ownsRow n0 9 1 (.slice (some ⟨g, 0, none⟩) ts.length cap) ts.length (ss.map encStr) := by rw [← hss, map_encStr]; exact h
    obtain ⟨g', cap', e0, _, hgl, _, _, _, hH⟩ := holds_of_ownsRow hh (by simp)
    injection e0 with e1 _ e3
    injection e1 with e1
    injection e1 with e1
    subst e1 e3
    have hc := Tryz.slices_Compact_string g 0 cap ss w hH (by omega) (by omega)
    rw [hsl] at hc
    refine hc.mono ?_
    rintro e w' ⟨rfl, q, rfl⟩
    have hle := Lib.compact_length_le ss
    have ho : (onceT ts).length = (Lib.compact ss).length := by unfold onceT; rw [hss, List.length_map]
    refine ⟨_, rfl, ?_, below_putRow (Below.refl _ _) hb⟩
    have := ownsRow_putRow (q := q) (k := (Lib.compact ss).length) (ys := Lib.compact ss ++ List.replicate (ts.length - (Lib.compact ss).length) []) hh (by simp; omega) (by omega)
    rw [List.take_left] at this
    unfold OwnT
    rw [ho]
    unfold onceT
    rw [hss, ← encStr_bytes]
    exact this

end Go.Proofs.YtelcongbnmfegaaGreatDoor

/-
  The contract of the reference's Diff: what its loop needs.
-/
namespace Go.Proofs.YtelcongbnmfegaaGreatDoor
open Go.RowKit

/-- Whether a difference goes on with a wipe; whether both go on. -/
def wipeB : List Fld → List Fld → Bool
  | _, [] => true
  | [], _ :: _ => false
  | a :: _, b :: _ => ltB a.1 b.1
def bothB : List Fld → List Fld → Bool
  | a :: _, b :: _ => decide (a.1 = b.1) && decide (a.2 = b.2)
  | _, _ => false
def sameN : List Fld → Fld → Bool
  | a :: _, b => decide (a.1 = b.1)
  | [], _ => false

theorem diff_wipe {a : Fld} {A B : List Fld} (h : wipeB (a :: A) B = true) : diffE (a :: A) B = [(4, a.1, ⟨#[]⟩)] ++ diffE A B := by
  cases B with
  | nil => rw [diffE]; rfl
  | cons b B => rw [diffE, if_pos (show ltB a.1 b.1 = true from h)]; rfl

theorem diff_both {a b : Fld} {A B : List Fld} (h : wipeB (a :: A) (b :: B) = false) (h2 : bothB (a :: A) (b :: B) = true) : diffE (a :: A) (b :: B) = diffE A B := by
  simp only [bothB, Bool.and_eq_true, decide_eq_true_eq] at h2
  rw [diffE, if_neg (by simp only [wipeB] at h; rw [h]; decide), if_pos h2.1, if_pos h2.2]

theorem diff_sets {b : Fld} {A B : List Fld} (h : wipeB A (b :: B) = false) (h2 : bothB A (b :: B) = false) : diffE A (b :: B) = setsE b ++ diffE (if sameN A b then A.tail else A) B := by
  cases A with
  | nil => rw [diffE]; rfl
  | cons a A =>
    have h1 : ¬ ltB a.1 b.1 = true := by simp only [wipeB] at h; rw [h]; decide
    rw [diffE, if_neg h1]
    simp only [bothB] at h2
    by_cases e : a.1 = b.1
    · have h3 : ¬ a.2 = b.2 := fun k => by rw [decide_eq_true e, decide_eq_true k] at h2; cases h2
      rw [if_pos e, if_neg h3]
      simp [sameN, e]
    · rw [if_neg e]
      simp [sameN, e]

theorem sets_len (b : Fld) : (setsE b).length = b.2.length := by
  unfold setsE
  cases b.2 <;> simp

theorem sets_take {b : Fld} {k : Nat} (h : k < b.2.length) : (setsE b).take (k + 1) = (setsE b).take k ++ [((if k = 0 then 1 else 2 : Int), b.1, b.2[k])] := by
  have hl : k < (setsE b).length := by rw [sets_len]; exact h
  rw [List.take_succ_eq_append_getElem hl]
  congr 2
  obtain ⟨n, ts⟩ := b
  cases ts with
  | nil => simp at h
  | cons t ts =>
    cases k with
    | zero => rfl
    | succ k => simp [setsE]

theorem diff_len (A B : List Fld) : (diffE A B).length ≤ A.length + (B.map fun f => f.2.length).sum := by
  induction A, B using diffE.induct with
  | case1 => simp [diffE]
  | case2 a ar ih => rw [diffE]; simp at ih ⊢; omega
  | case3 b br ih => rw [diffE, List.length_append, sets_len]; simp at ih ⊢; omega
  | case4 a ar b br hlt ih => rw [diffE, if_pos hlt]; simp at ih ⊢; omega
  | case5 a ar b br hlt hab heq ih => rw [diffE, if_neg hlt, if_pos hab, if_pos heq]; simp at ih ⊢; omega
  | case6 a ar b br hlt hab heq ih => rw [diffE, if_neg hlt, if_pos hab, if_neg heq, List.length_append, sets_len]; simp at ih ⊢; omega
  | case7 a ar b br hlt hab ih => rw [diffE, if_neg hlt, if_neg hab, List.length_append, sets_len]; simp at ih ⊢; omega

theorem sum_texts (B : List Fld) (h : ∀ f ∈ B, f.2.length ≤ 8) : (B.map fun f => f.2.length).sum ≤ 8 * B.length := by
  induction B with
  | nil => simp
  | cons b B ih =>
    have h1 := h b (by simp)
    have h2 := ih fun f hf => h f (by simp [hf])
    simp
    omega

theorem diff_small {A B : List Fld} (hA : mayB A = true) (hB : mayB B = true) : (diffE A B).length ≤ 144 := by
  have h1 := diff_len A B
  have h2 := sum_texts B fun f hf => (fitsP ((mayR hB).2.1 f hf)).2.2.1
  have h3 := (mayR hA).1
  have h4 := (mayR hB).1
  omega

/-- The reference's Diff, on its way. -/
def DSt (w : World) (A B : List Fld) (i j : Nat) (vl : Value) (wr : World) : Prop :=
  ∃ e : List Ed, KE.Own w.heap.size wr vl e ∧ diffE A B = e ++ diffE (A.drop i) (B.drop j) ∧ Below w.heap.size w wr

/-- What Diff answers. -/
def DiPost (w : World) (A B : List Fld) (e : Ending) (w' : World) : Prop :=
  ∃ u, e = .returned (.tuple #[u, .int .i64 (codeDf A B)]) ∧ KE.Own w.heap.size w' u (ansDf A B) ∧ Below w.heap.size w w'

theorem di_no {w w' : World} {A B : List Fld} {c : Int} {e : Ending} (hc : codeDf A B = c) (h0 : c ≠ 0) (he : e = .returned (.tuple #[.slice none 0 0, .int .i64 c])) (hb : Below w.heap.size w w') : DiPost w A B e w' :=
  ⟨_, by rw [he, hc], by unfold ansDf; rw [if_neg (by rw [hc]; exact h0)]; exact KE.own_nil _ _, hb⟩

theorem codeDf_a {A B : List Fld} (h : mayB A = false) : codeDf A B = 3 := by unfold codeDf; rw [if_pos (Or.inl h)]
theorem codeDf_b {A B : List Fld} (h : mayB B = false) : codeDf A B = 3 := by unfold codeDf; rw [if_pos (Or.inr h)]
theorem codeDf_of {A B : List Fld} (h1 : mayB A = true) (h2 : mayB B = true) : codeDf A B = if 16 < (diffE A B).length then 5 else 0 := by
  unfold codeDf
  rw [if_neg]
  rintro (h | h)
  · rw [h1] at h; cases h
  · rw [h2] at h; cases h

/-- What the fields of a value are, in whatever world behind the call's beginning. -/
def XsHid (w : World) (p : Option Addr) (d : List Fx) : Prop :=
  ∀ i, (h : i < d.length) → ∃ b off, p = some ⟨b, off, none⟩ ∧ ∀ W, Below w.heap.size w W → W.cell? ⟨b, off + i * 2, none⟩ = some (.string (d[i]).name) ∧ W.cell? ⟨b, off + i * 2 + 1, none⟩ = some (.slice (d[i]).p (d[i]).txt.length (d[i]).cap)

theorem xsHid {w : World} {p : Option Addr} {d : List Fx} (hd : d = [] ∨ ∃ b off, p = some ⟨b, off, none⟩ ∧ XsAt w b off d) : XsHid w p d := fun i hi => by
  rcases hd with h | ⟨b, off, rfl, hxs⟩
  · subst h; simp at hi
  · exact ⟨b, off, rfl, fun W hW => hxs.kept hW i hi⟩

theorem drop_fld {d : List Fx} {i : Nat} (h : i < d.length) : (d.map Fx.fld).drop i = (d[i]).fld :: (d.map Fx.fld).drop (i + 1) := by
  rw [List.drop_eq_getElem_cons (by simpa using h)]; simp

theorem drop_end {d : List Fx} {i : Nat} (h : d.length ≤ i) : (d.map Fx.fld).drop i = [] := List.drop_eq_nil_iff.2 (by simpa using h)

end Go.Proofs.YtelcongbnmfegaaGreatDoor

/-
  The walk of the reference's Diff.
-/
namespace Go.Proofs.YtelcongbnmfegaaGreatDoor
open Go.RowKit

set_option maxHeartbeats 16000000 in
set_option maxRecDepth 100000 in
theorem rdiff_yes (va vb : Value) (da db : List Fx) (w : World) (ha : IsXs w va da) (hb : IsXs w vb db) (hma : mayB (da.map Fx.fld) = true) (hmb : mayB (db.map Fx.fld) = true) :
    Calls Tryz.prog 16 #[va, vb] w fun e w' => DiPost w (da.map Fx.fld) (db.map Fx.fld) e w' := by
  obtain ⟨j0, hj0, hy0, hy1, hy2⟩ := info_parts Tryz.infoEd
  have HJ := hid hj0
  have mixed := Tryz.mixed
  have HMA := hid (rmay_any va da w ha (may_fitE hma))
  rw [hma] at HMA
  have HMB := hid (fun W (hW : Below w.heap.size w W) => rmay_any vb db W (hb.kept hW) (may_fitE hmb))
  rw [hmb] at HMB
  have hlen := diff_small hma hmb
  have HCD := hid (codeDf_of hma hmb)
  have hla : da.length ≤ 16 := by have := (mayR hma).1; simpa using this
  have hlb : db.length ≤ 16 := by have := (mayR hmb).1; simpa using this
  have HTB : Hid (∀ x ∈ db, x.txt.length ≤ 8) := fun x hx => (fitsP ((mayR hmb).2.1 x.fld (List.mem_map.2 ⟨x, hx, rfl⟩))).2.2.1
  have HTA : Hid (∀ x ∈ da, x.txt.length ≤ 8) := fun x hx => (fitsP ((mayR hma).2.1 x.fld (List.mem_map.2 ⟨x, hx, rfl⟩))).2.2.1
  obtain ⟨pa, ca, rfl, hda, hxa⟩ := ha
  obtain ⟨pb, cb, rfl, hdb, hxb⟩ := hb
  have HA := hid (xsHid hda)
  have HB := hid (xsHid hdb)
  have HXA := hid hxa
  have HXB := hid hxb
  have ST0 : Hid (DSt w (da.map Fx.fld) (db.map Fx.fld) 0 0 (.slice none 0 0) w) := ⟨[], KE.own_nil _ _, by simp, Below.refl _ _⟩
  clear hma hmb hj0 hda hdb hxa hxb
  go_enter Tryz.func16, Tryz.ntmps16
  go_wp2_with (first
    | (go_at_call 26; refine HMA.out.mono ?_; rintro e w1 ⟨rfl, hg1⟩; have hb1 := hg1.below; clear hg1 HMA)
    | (go_at_call 26; refine (HMB.out _ hb1).mono ?_; rintro e w2 ⟨rfl, hg2⟩; have hb2 := bel_then hb1 hb1.size hg2.below; clear hg2 HMB))
  have ST2 : Hid (DSt w (da.map Fx.fld) (db.map Fx.fld) 0 0 (.slice none 0 0) w2) := by
    obtain ⟨e, h1, h2, _⟩ := ST0.out
    have h0 : e = [] := by
      have := h1
      rcases this.2 with ⟨_, h0⟩ | ⟨g, cap, cur, hv, _⟩
      · exact List.length_eq_zero_iff.1 h0
      · cases hv
    subst h0
    exact ⟨[], KE.own_nil _ _, h2, hb2⟩
  clear ST0 hb1 hb2
  go_loopg [6, 7, 8] (da.length + db.length) (fun g vl vi vj wr => ∃ i j : Nat, vi = .int .i64 i ∧ vj = .int .i64 j ∧ i ≤ da.length ∧ j ≤ db.length ∧ (da.length + db.length) - (i + j) ≤ g ∧ Hid (DSt w (da.map Fx.fld) (db.map Fx.fld) i j vl wr))
  case atStart => exact ⟨0, 0, rfl, rfl, by omega, by omega, by omega, ST2⟩
  case round =>
  clear ST2
  obtain ⟨i, j, rfl, rfl, hi, hj, hgk, HST⟩ := hrel
  obtain ⟨e, hoe, heq, hbe⟩ := HST.out
  have hel : e.length ≤ 144 := by have := congrArg List.length heq; rw [List.length_append] at this; omega
  have HOE := hid hoe
  have HEQ := hid heq
  have HBE := hid hbe
  have hsz := hbe.size
  clear HST hoe heq hbe
  by_cases hend : i = da.length ∧ j = db.length
  · obtain ⟨hi1, hj1⟩ := hend
    have hiz : ¬ (i : Int) < (da.length : Int) := by omega
    have hjz : ¬ (j : Int) < (db.length : Int) := by omega
    have hid1 : decide ((i : Int) < (da.length : Int)) = false := decide_eq_false hiz
    have hE : diffE (da.map Fx.fld) (db.map Fx.fld) = e := by
      rw [HEQ.out, drop_end (by omega), drop_end (by omega), diffE, List.append_nil]
    obtain ⟨pe, ce, hve⟩ := Kind.own_shape HOE.out
    subst hve
    rw [hE] at HCD
    have HE := hid hE
    clear hE hi1 hj1
    by_cases h16 : 16 < e.length
    · have h16z : (16 : Int) < (e.length : Int) := by omega
      rw [if_pos h16] at HCD
      clear h16
      go_wp2_with fail
      go_ret2
      exact di_no HCD.out (by decide) rfl HBE.out
    · have h16z : ¬ (16 : Int) < (e.length : Int) := by omega
      rw [if_neg h16] at HCD
      clear h16
      go_wp2_with fail
      go_ret2
      refine ⟨_, by rw [HCD.out]; rfl, ?_, HBE.out⟩
      unfold ansDf
      rw [if_pos HCD.out, HE.out]
      exact HOE.out
  · have hin : i < da.length ∨ j < db.length := by omega
    obtain ⟨T, hT⟩ : ∃ T, wipeB ((da.map Fx.fld).drop i) ((db.map Fx.fld).drop j) = T := ⟨_, rfl⟩
    obtain ⟨T2, hT2⟩ : ∃ T2, bothB ((da.map Fx.fld).drop i) ((db.map Fx.fld).drop j) = T2 := ⟨_, rfl⟩
    have HT := hid hT
    have HT2 := hid hT2
    have HIN := hid hin
    have HLT1 : Hid (¬ j < db.length → T = true ∧ i < da.length) := fun h => by
      refine ⟨?_, by rcases HIN.out with k | k; exact k; exact absurd k h⟩
      rw [← HT.out, drop_end (d := db) (by omega)]
      cases (da.map Fx.fld).drop i <;> rfl
    clear hend hT hT2 hin
    go_upto_region 5 with fail
    go_cut [28] from 19 to 149 (fun v wx => wr = wx ∧ v = .bool true)
    case first =>
      by_cases hia : i < da.length
      · have hiz : (i : Int) < (da.length : Int) := by omega
        go_wp2_with fail
        go_meet
        case rel => exact ⟨rfl, rfl⟩
      · have hiz : ¬ (i : Int) < (da.length : Int) := by omega
        have hjz : (j : Int) < (db.length : Int) := by have := HIN.out; omega
        go_wp2_with fail
        go_meet
        case rel => exact ⟨rfl, rfl⟩
    case rest =>
    obtain ⟨rfl, rfl⟩ := hcut
    go_upto_region 16 with fail
    go_cut [80] from 19 to 149 (fun v wx => v = .bool T ∧ ∃ n, wx = wr.drewN n)
    case first =>
      by_cases hjb : j < db.length
      · have hje : ((j : Int) == (db.length : Int)) = false := beq_eq_false_iff_ne.2 (by omega)
        have hjz : (j : Int) < (db.length : Int) := by omega
        have hj0z : (0 : Int) ≤ j := by omega
        by_cases hia : i < da.length
        · have hiz : (i : Int) < (da.length : Int) := by omega
          have hi0z : (0 : Int) ≤ i := by omega
          have hid1 : decide ((i : Int) < (da.length : Int)) = true := decide_eq_true hiz
          obtain ⟨ba, oa, rfl, hca⟩ := HA.out i hia
          obtain ⟨bb, ob, rfl, hcb⟩ := HB.out j hjb
          obtain ⟨a0, a1⟩ := hca wr HBE.out
          obtain ⟨b0, b1⟩ := hcb wr HBE.out
          have hTT : ltB (da[i]).name (db[j]).name = T := by
            have := HT.out
            rw [drop_fld hia, drop_fld hjb] at this
            exact this
          have f1 := sless_of hTT
          generalize (da[i]).name = an at a0 f1 hTT
          generalize (db[j]).name = bn at b0 f1 hTT
          clear hTT hca hcb
          go_wp2_with fail
          refine wp_region_quiet_lit mixed (by kernel_rfl) ?_
          repeat (go_big_quiet_step (fail))
          refine wpQuiet_nil ?_
          intro _ hw'
          obtain ⟨nq, hw''⟩ := hw'
          subst hw''
          go_wp2_with fail
          go_meet
          case rel => exact ⟨rfl, _, rfl⟩
        · have hiz : ¬ (i : Int) < (da.length : Int) := by omega
          have hid1 : decide ((i : Int) < (da.length : Int)) = false := decide_eq_false hiz
          have hTT : T = false := by
            rw [← HT.out, drop_end (by omega), drop_fld hjb]; rfl
          subst hTT
          go_wp2_with fail
          refine wp_region_quiet_lit mixed (by kernel_rfl) ?_
          repeat (go_big_quiet_step (fail))
          refine wpQuiet_nil ?_
          intro _ hw'
          obtain ⟨nq, hw''⟩ := hw'
          subst hw''
          go_wp2_with fail
          go_meet
          case rel => exact ⟨rfl, _, rfl⟩
      · have hje : ((j : Int) == (db.length : Int)) = true := beq_iff_eq.2 (by omega)
        have hTT := (HLT1.out hjb).1
        subst hTT
        go_wp2_with fail
        refine wp_region_quiet_lit mixed (by kernel_rfl) ?_
        repeat (go_big_quiet_step (fail))
        refine wpQuiet_nil ?_
        intro _ hw'
        obtain ⟨nq, hw''⟩ := hw'
        subst hw''
        go_wp2_with fail
        go_meet
        case rel => exact ⟨rfl, _, rfl⟩
    case rest =>
    obtain ⟨rfl, n1, rfl⟩ := hcut
    have HOE1 : Hid (KE.Own w.heap.size (wr.drewN n1) u6 e) := HOE.out
    have HBE1 := hid (bel_drewN HBE.out n1)
    have hsz1 : w.heap.size ≤ (wr.drewN n1).heap.size := hsz
    obtain ⟨W1, hW1⟩ : ∃ W1, wr.drewN n1 = W1 := ⟨_, rfl⟩
    rw [hW1] at HOE1 HBE1 hsz1 ⊢
    clear hW1 HOE HBE hsz
    cases T with
    | true =>
      have hia : i < da.length := by
        rcases Nat.lt_or_ge i da.length with h | h
        · exact h
        · exfalso
          have hjb : j < db.length := by have := HIN.out; omega
          have := HT.out
          rw [drop_end h, drop_fld hjb] at this
          cases this
      have hiz : (i : Int) < (da.length : Int) := by omega
      have hi0z : (0 : Int) ≤ i := by omega
      obtain ⟨ba, oa, rfl, hca⟩ := HA.out i hia
      obtain ⟨a0, a1⟩ := hca W1 HBE1.out
      have HN : Hid (diffE (da.map Fx.fld) (db.map Fx.fld) = (e ++ [(4, (da[i]).name, ⟨#[]⟩)]) ++ diffE ((da.map Fx.fld).drop (i + 1)) ((db.map Fx.fld).drop j)) := by
        show _ = _
        have h1 := HT.out
        rw [HEQ.out]
        rw [drop_fld hia] at h1 ⊢
        rw [diff_wipe h1, List.append_assoc]
        rfl
      generalize (da[i]).name = an at a0 HN
      clear hca a1
      go_wp2_with (at_builtin; refine wpList_append_own _ rfl _ _ 23 rfl w.heap.size 46 j0 (.agg #[.int .i64 0, .string ⟨#[]⟩, .string ⟨#[]⟩]) 3 40 Tryz.underlying23 HJ.out hy0 hy1 hy2 rfl (by decide) _ _ _ rfl (World.ownsRow.alloc HOE1.out _) ⟨W1.heap.size, 0, none⟩ 1 1 (KE.cells [(4, an, ⟨#[]⟩)]) rfl rfl (KE.news W1 (4, an, ⟨#[]⟩)) (KE.cells_ones _) (by unfold maxLen; omega) (by omega) (by simp; omega) ?_; intro v4 w4 hown4 hg4 hnil4; have HO4 : Hid (KE.Own w.heap.size w4 v4 (e ++ [(4, an, ⟨#[]⟩)])) := Kind.own_snoc hown4 rfl rfl; have HB4 : Hid (Below w.heap.size w w4) := (HBE1.out.alloc hsz1 _).grown hg4 (by simp; omega) (fun k hk => (World.ownsRow.lt HOE1.out k hk).1); clear hown4 hg4 hnil4)
      go_roundg ((da.length + db.length) - (i + 1 + j))
      case measure => omega
      case rel => exact ⟨i + 1, j, by go_num, rfl, by omega, by omega, by omega, ⟨_, HO4.out, HN.out, HB4.out⟩⟩
    | false =>
    have hjb : j < db.length := by
      rcases Nat.lt_or_ge j db.length with h | h
      · exact h
      · have := (HLT1.out (by omega)).1; cases this
    have hjz : (j : Int) < (db.length : Int) := by omega
    have hj0z : (0 : Int) ≤ j := by omega
    obtain ⟨bb, ob, rfl, hcb⟩ := HB.out j hjb
    have hxj : (db[j]).at w := HXB.out _ (List.getElem_mem hjb)
    have htj := HTB.out _ (List.getElem_mem hjb)
    have hdj := drop_fld hjb
    obtain ⟨⟨bn, bp, bc, bt⟩, hbx⟩ : ∃ x, db[j] = x := ⟨_, rfl⟩
    rw [hbx] at hcb hxj htj hdj
    simp only [Fx.at, Fx.fld] at hcb hxj htj hdj
    have HCB := hid hcb
    have HXJ := hid hxj
    have HDJ := hid hdj
    clear hcb hxj hdj hbx
    go_upto_region 19 with fail
    go_cut [115] from 19 to 149 (fun v wx => v = .bool T2 ∧ ∃ n, wx = W1.drewN n)
    case first =>
      obtain ⟨b0, b1⟩ := HCB.out W1 HBE1.out
      by_cases hia : i < da.length
      · have hiz : (i : Int) < (da.length : Int) := by omega
        have hi0z : (0 : Int) ≤ i := by omega
        have hid1 : decide ((i : Int) < (da.length : Int)) = true := decide_eq_true hiz
        obtain ⟨ba, oa, rfl, hca⟩ := HA.out i hia
        obtain ⟨a0, a1⟩ := hca W1 HBE1.out
        have hxi : (da[i]).at w := HXA.out _ (List.getElem_mem hia)
        have hti := HTA.out _ (List.getElem_mem hia)
        have hTT : (decide ((da[i]).name = bn) && decide ((da[i]).txt = bt)) = T2 := by
          have := HT2.out
          rw [drop_fld hia, HDJ.out] at this
          exact this
        obtain ⟨⟨an, ap, ac, at_⟩, hax⟩ : ∃ x, da[i] = x := ⟨_, rfl⟩
        rw [hax] at a0 a1 hxi hti hTT
        simp only [Fx.at] at a0 a1 hxi hti hTT
        by_cases hq : an = bn
        · have hqe := seq_true hq
          have HSM : Hid (∀ n, Calls Tryz.prog 38 #[.slice ap at_.length ac, .slice bp bt.length bc] (W1.drewN n) fun e w' => e = .returned (.bool T2) ∧ ∃ m, w' = (W1.drewN n).drewN m) := fun n => by
            have h1 := sameT_any ap bp ac bc at_ bt (W1.drewN n) (hxi.kept (bel_drewN HBE1.out n)) (HXJ.out.kept (bel_drewN HBE1.out n)) (by unfold maxLen; omega)
            rw [decide_eq_true hq, Bool.true_and] at hTT
            rw [hTT] at h1
            exact h1
          clear hTT hq hxi hca hax
          go_wp2_with fail
          refine wp_region_quiet_lit mixed (by kernel_rfl) ?_
          repeat (go_big_quiet_step (first | (go_at_call 38; refine Calls.quiet_of (HSM.out _))))
          refine wpQuiet_nil ?_
          intro _ hw'
          obtain ⟨nq, hw''⟩ := hw'
          subst hw''
          go_wp2_with fail
          go_meet
          case rel => exact ⟨rfl, _, rfl⟩
        · have hqe := seq_false hq
          have hTF : T2 = false := by rw [← hTT, decide_eq_false hq]; rfl
          subst hTF
          clear hTT hq hxi hca hax
          go_wp2_with fail
          refine wp_region_quiet_lit mixed (by kernel_rfl) ?_
          repeat (go_big_quiet_step (fail))
          refine wpQuiet_nil ?_
          intro _ hw'
          obtain ⟨nq, hw''⟩ := hw'
          subst hw''
          go_wp2_with fail
          go_meet
          case rel => exact ⟨rfl, _, rfl⟩
      · have hiz : ¬ (i : Int) < (da.length : Int) := by omega
        have hid1 : decide ((i : Int) < (da.length : Int)) = false := decide_eq_false hiz
        have hTF : T2 = false := by rw [← HT2.out, drop_end (by omega)]; rfl
        subst hTF
        go_wp2_with fail
        refine wp_region_quiet_lit mixed (by kernel_rfl) ?_
        repeat (go_big_quiet_step (fail))
        refine wpQuiet_nil ?_
        intro _ hw'
        obtain ⟨nq, hw''⟩ := hw'
        subst hw''
        go_wp2_with fail
        go_meet
        case rel => exact ⟨rfl, _, rfl⟩
    case rest =>
    obtain ⟨rfl, n2, rfl⟩ := hcut
    have HOE2 : Hid (KE.Own w.heap.size (W1.drewN n2) u6 e) := HOE1.out
    have HBE2 := hid (bel_drewN HBE1.out n2)
    have hsz2 : w.heap.size ≤ (W1.drewN n2).heap.size := hsz1
    obtain ⟨W2, hW2⟩ : ∃ W2, W1.drewN n2 = W2 := ⟨_, rfl⟩
    rw [hW2] at HOE2 HBE2 hsz2 ⊢
    clear hW2 HOE1 HBE1 hsz1
    cases T2 with
    | true =>
      have hia : i < da.length := by
        rcases Nat.lt_or_ge i da.length with h | h
        · exact h
        · exfalso
          have := HT2.out
          rw [drop_end h] at this
          cases this
      have HN : Hid (diffE (da.map Fx.fld) (db.map Fx.fld) = e ++ diffE ((da.map Fx.fld).drop (i + 1)) ((db.map Fx.fld).drop (j + 1))) := by
        show _ = _
        have h1 := HT.out
        have h2 := HT2.out
        rw [HEQ.out]
        rw [drop_fld hia, HDJ.out] at h1 h2 ⊢
        rw [diff_both h1 h2]
      go_wp2_with fail
      go_roundg ((da.length + db.length) - (i + 1 + (j + 1)))
      case measure => omega
      case rel => exact ⟨i + 1, j + 1, by go_num, by go_num, by omega, by omega, by omega, ⟨_, HOE2.out, HN.out, HBE2.out⟩⟩
    | false =>
    have HN : Hid (diffE (da.map Fx.fld) (db.map Fx.fld) = (e ++ setsE (bn, bt)) ++ diffE (if sameN ((da.map Fx.fld).drop i) (bn, bt) then (da.map Fx.fld).drop (i + 1) else (da.map Fx.fld).drop i) ((db.map Fx.fld).drop (j + 1))) := by
      show _ = _
      have h1 := HT.out
      have h2 := HT2.out
      rw [HEQ.out]
      rw [HDJ.out] at h1 h2 ⊢
      rw [diff_sets h1 h2, List.append_assoc, List.tail_drop]
    have HS0 : Hid (KE.Own w.heap.size W2 u6 (e ++ (setsE (bn, bt)).take 0)) := by rw [List.take_zero, List.append_nil]; exact HOE2.out
    clear HOE2 hsz2
    go_wp2_with fail
    go_loopg [6, 9, 10] bt.length (fun g vl vk v10 wr2 => ∃ k : Nat, vk = .int .i64 k ∧ k ≤ bt.length ∧ bt.length - k ≤ g ∧ Hid (KE.Own w.heap.size wr2 vl (e ++ (setsE (bn, bt)).take k)) ∧ Hid (Below w.heap.size w wr2))
    case atStart => exact ⟨0, rfl, by omega, by omega, HS0, HBE2⟩
    case round =>
    clear HS0 HBE2
    obtain ⟨k, rfl, hk, hgk2, HOK, HBK⟩ := hrel
    obtain ⟨b0, b1⟩ := HCB.out wr HBK.out
    have hszk := HBK.out.size
    by_cases hkl : k < bt.length
    · have hkz : (k : Int) < (bt.length : Int) := by omega
      have hk0z : (0 : Int) ≤ k := by omega
      obtain ⟨b2, o2, rfl, ht2⟩ : ∃ b o, bp = some ⟨b, o, none⟩ ∧ ∀ i, (h : i < bt.length) → w.cell? ⟨b, o + i, none⟩ = some (.string bt[i]) := by
        rcases HXJ.out with h | h
        · rw [h] at hkl; simp at hkl
        · exact h
      have hct : ∀ W, Below w.heap.size w W → W.cell? ⟨b2, o2 + k, none⟩ = some (.string bt[k]) := fun W hW => (hW.cell (p := ⟨b2, o2 + k, none⟩) (cell_block (ht2 k hkl))).trans (ht2 k hkl)
      have hst := sets_take (b := (bn, bt)) (k := k) hkl
      simp only at hst
      obtain ⟨t, hte⟩ : ∃ t, bt[k] = t := ⟨_, rfl⟩
      rw [hte] at hct hst
      have hsl : (e ++ (setsE (bn, bt)).take k).length ≤ 200 := by
        rw [List.length_append, List.length_take, sets_len]; simp only; omega
      obtain ⟨E, hE⟩ : ∃ E, e ++ (setsE (bn, bt)).take k = E := ⟨_, rfl⟩
      obtain ⟨kd, hkd⟩ : ∃ kd : Int, (if k = 0 then 1 else 2) = kd := ⟨_, rfl⟩
      have HSTE : Hid (e ++ (setsE (bn, bt)).take (k + 1) = E ++ [(kd, bn, t)]) := by show _ = _; rw [hst, ← List.append_assoc, hE, hkd]
      rw [hE] at HOK hsl
      have HCT := hid hct
      have HKD := hid hkd
      clear ht2 hct hst hte hE hkd
      go_upto_if 40 with fail
      go_cut [10] from 29 to 58 (fun v wx => wr = wx ∧ v = .int .i64 kd)
      case first =>
        by_cases hk0 : k = 0
        · have hke : ((k : Int) == 0) = true := by rw [hk0]; rfl
          have hkk : kd = 1 := by rw [← HKD.out, if_pos hk0]
          subst hkk
          clear hk0
          go_wp2_with fail
          go_meet
          case rel => exact ⟨rfl, rfl⟩
        · have hke : ((k : Int) == 0) = false := beq_eq_false_iff_ne.2 (by omega)
          have hkk : kd = 2 := by rw [← HKD.out, if_neg hk0]
          subst hkk
          clear hk0
          go_wp2_with fail
          go_meet
          case rel => exact ⟨rfl, rfl⟩
      case rest =>
      obtain ⟨rfl, rfl⟩ := hcut
      have q0 : (wr.drew).cell? ⟨bb, ob + j * 2, none⟩ = some (.string bn) ∧ (wr.drew).cell? ⟨bb, ob + j * 2 + 1, none⟩ = some (.slice (some ⟨b2, o2, none⟩) bt.length bc) ∧ (wr.drew).cell? ⟨b2, o2 + k, none⟩ = some (.string t) := ⟨(HCB.out _ HBK.out.drew).1, (HCB.out _ HBK.out.drew).2, HCT.out _ HBK.out.drew⟩
      have HBA : Hid (Below w.heap.size w (wr.drew.alloc (.cells #[.int .i64 kd, .string bn, .string t] 46))) := HBK.out.drew.alloc (show w.heap.size ≤ wr.drew.heap.size from hszk) _
      have q1 : (wr.drew.alloc (.cells #[.int .i64 kd, .string bn, .string t] 46)).cell? ⟨bb, ob + j * 2, none⟩ = some (.string bn) ∧ (wr.drew.alloc (.cells #[.int .i64 kd, .string bn, .string t] 46)).cell? ⟨bb, ob + j * 2 + 1, none⟩ = some (.slice (some ⟨b2, o2, none⟩) bt.length bc) ∧ (wr.drew.alloc (.cells #[.int .i64 kd, .string bn, .string t] 46)).cell? ⟨b2, o2 + k, none⟩ = some (.string t) := ⟨(HCB.out _ HBA.out).1, (HCB.out _ HBA.out).2, HCT.out _ HBA.out⟩
      go_wp2_with fail
      refine wp_region_held_drew (S := fun W => W.cell? ⟨bb, ob + j * 2, none⟩ = some (.string bn) ∧ W.cell? ⟨bb, ob + j * 2 + 1, none⟩ = some (.slice (some ⟨b2, o2, none⟩) bt.length bc) ∧ W.cell? ⟨b2, o2 + k, none⟩ = some (.string t)) (by kernel_rfl) q0 (fun hHeld => ?_)
      refine take_val (i := 0) (u6) rfl (by kernel_rfl) (by kernel_rfl) (by kernel_rfl) (fun _ _ _ h => h) (by rfl) (fun w hSw => by go_simp) hHeld ?_
      simp only [Act.put, List.setIfInBounds_toArray, List.set_cons_zero, List.set_cons_succ]
      refine take_val (i := 1) (.int .i64 kd) rfl (by kernel_rfl) (by kernel_rfl) (by kernel_rfl) (fun _ _ _ h => h) (by rfl) (fun w hSw => by go_simp) hHeld ?_
      simp only [Act.put, List.setIfInBounds_toArray, List.set_cons_zero, List.set_cons_succ]
      refine take_val (i := 2) (.slice (some ⟨bb, ob, none⟩) db.length cb) rfl (by kernel_rfl) (by kernel_rfl) (by kernel_rfl) (fun _ _ _ h => h) (by rfl) (fun w hSw => by go_simp) hHeld ?_
      simp only [Act.put, List.setIfInBounds_toArray, List.set_cons_zero, List.set_cons_succ]
      refine take_val (i := 3) (.int .i64 j) rfl (by kernel_rfl) (by kernel_rfl) (by kernel_rfl) (fun _ _ _ h => h) (by rfl) (fun w hSw => by go_simp) hHeld ?_
      simp only [Act.put, List.setIfInBounds_toArray, List.set_cons_zero, List.set_cons_succ]
      refine take_val (i := 4) (.pointer (some ⟨bb, ob + j * 2, none⟩)) rfl (by kernel_rfl) (by kernel_rfl) (by kernel_rfl) (fun _ _ _ h => h) (by rfl) (fun w hSw => by go_simp) hHeld ?_
      simp only [Act.put, List.setIfInBounds_toArray, List.set_cons_zero, List.set_cons_succ]
      refine take_val (i := 5) (.pointer (some ⟨bb, ob + j * 2, none⟩)) rfl (by kernel_rfl) (by kernel_rfl) (by kernel_rfl) (fun _ _ _ h => h) (by rfl) (fun w hSw => by go_simp) hHeld ?_
      simp only [Act.put, List.setIfInBounds_toArray, List.set_cons_zero, List.set_cons_succ]
      refine take_val (i := 6) (.string bn) rfl (by kernel_rfl) (by kernel_rfl) (by kernel_rfl) (fun _ _ _ h => h) (by rfl) (fun w hSw => by go_simp) hHeld ?_
      simp only [Act.put, List.setIfInBounds_toArray, List.set_cons_zero, List.set_cons_succ]
      refine take_val (i := 7) (.slice (some ⟨bb, ob, none⟩) db.length cb) rfl (by kernel_rfl) (by kernel_rfl) (by kernel_rfl) (fun _ _ _ h => h) (by rfl) (fun w hSw => by go_simp) hHeld ?_
      simp only [Act.put, List.setIfInBounds_toArray, List.set_cons_zero, List.set_cons_succ]
      refine take_val (i := 8) (.int .i64 j) rfl (by kernel_rfl) (by kernel_rfl) (by kernel_rfl) (fun _ _ _ h => h) (by rfl) (fun w hSw => by go_simp) hHeld ?_
      simp only [Act.put, List.setIfInBounds_toArray, List.set_cons_zero, List.set_cons_succ]
      refine take_val (i := 9) (.pointer (some ⟨bb, ob + j * 2, none⟩)) rfl (by kernel_rfl) (by kernel_rfl) (by kernel_rfl) (fun _ _ _ h => h) (by rfl) (fun w hSw => by go_simp) hHeld ?_
      simp only [Act.put, List.setIfInBounds_toArray, List.set_cons_zero, List.set_cons_succ]
      refine take_val (i := 10) (.pointer (some ⟨bb, ob + j * 2 + 1, none⟩)) rfl (by kernel_rfl) (by kernel_rfl) (by kernel_rfl) (fun _ _ _ h => h) (by rfl) (fun w hSw => by go_simp) hHeld ?_
      simp only [Act.put, List.setIfInBounds_toArray, List.set_cons_zero, List.set_cons_succ]
      refine take_val (i := 11) (.slice (some ⟨b2, o2, none⟩) bt.length bc) rfl (by kernel_rfl) (by kernel_rfl) (by kernel_rfl) (fun _ _ _ h => h) (by rfl) (fun w hSw => by go_simp) hHeld ?_
      simp only [Act.put, List.setIfInBounds_toArray, List.set_cons_zero, List.set_cons_succ]
      refine take_val (i := 12) (.int .i64 k) rfl (by kernel_rfl) (by kernel_rfl) (by kernel_rfl) (fun _ _ _ h => h) (by rfl) (fun w hSw => by go_simp) hHeld ?_
      simp only [Act.put, List.setIfInBounds_toArray, List.set_cons_zero, List.set_cons_succ]
      refine take_val (i := 13) (.pointer (some ⟨b2, o2 + k, none⟩)) rfl (by kernel_rfl) (by kernel_rfl) (by kernel_rfl) (fun _ _ _ h => h) (by rfl) (fun w hSw => by go_simp) hHeld ?_
      simp only [Act.put, List.setIfInBounds_toArray, List.set_cons_zero, List.set_cons_succ]
      refine take_val (i := 14) (.string t) rfl (by kernel_rfl) (by kernel_rfl) (by kernel_rfl) (fun _ _ _ h => h) (by rfl) (fun w hSw => by go_simp) hHeld ?_
      simp only [Act.put, List.setIfInBounds_toArray, List.set_cons_zero, List.set_cons_succ]
      refine take_val (i := 15) (.agg #[.int .i64 kd, .string bn, .string t]) rfl (by kernel_rfl) (by kernel_rfl) (by kernel_rfl) (fun _ _ _ h => h) (by rfl) (fun w hSw => by go_simp) hHeld ?_
      simp only [Act.put, List.setIfInBounds_toArray, List.set_cons_zero, List.set_cons_succ]
      refine wpAnyH_ready (rs := [16]) (by kernel_rfl) (by simp) ?_
      refine AllReadyH.cons (at_drop0 rfl) (fun K hK => ?_) AllReadyH.nil
      rw [if_pos (by rfl)]
      go_simp
      refine hK.out _ _ q1 (fun hHeld => ?_)
      clear hK K
      try simp only [Act.put, List.setIfInBounds_toArray, List.set_cons_zero, List.set_cons_succ]
      refine wpAnyH_ready (rs := [17]) (by kernel_rfl) (by simp) ?_
      refine AllReadyH.cons (at_drop0 rfl) (fun K hK => ?_) AllReadyH.nil
      refine step_append_lies _ (by rfl) (.tmp 41) (.tmp 57) 23 (by rfl) w.heap.size 46 j0 (.agg #[.int .i64 0, .string ⟨#[]⟩, .string ⟨#[]⟩]) 3 40 Tryz.underlying23 HJ.out hy0 hy1 hy2 rfl (by decide) u6 E.length (KE.cells E) (by rfl) (World.ownsRow.alloc (w := wr.drew) HOK.out _) ⟨wr.heap.size, 0, none⟩ 1 1 (KE.cells [(kd, bn, t)]) (by rfl) rfl (KE.news wr.drew (kd, bn, t)) (KE.cells_ones _) (by decide) (by unfold maxLen; omega) (by omega) (by simp; omega) _ rfl ?_
      intro g4 cap4 w4 hown4 hg4 _ _
      have HO4 : Hid (KE.Own w.heap.size w4 (.slice (some ⟨g4, 0, none⟩) (E.length + 1) cap4) (E ++ [(kd, bn, t)])) := Kind.own_snoc hown4 rfl rfl
      have hb4 : Below w.heap.size w w4 := HBA.out.grown hg4 (by simp; omega) (fun k hk => (World.ownsRow.lt HOK.out k hk).1)
      have HB4 := hid hb4
      have q4 : w4.cell? ⟨bb, ob + j * 2, none⟩ = some (.string bn) ∧ w4.cell? ⟨bb, ob + j * 2 + 1, none⟩ = some (.slice (some ⟨b2, o2, none⟩) bt.length bc) ∧ w4.cell? ⟨b2, o2 + k, none⟩ = some (.string t) := ⟨(HCB.out _ hb4).1, (HCB.out _ hb4).2, HCT.out _ hb4⟩
      clear hown4 hg4 hb4
      refine hK.out _ _ q4 (fun hHeld => ?_)
      clear hK K
      try simp only [Act.put, List.setIfInBounds_toArray, List.set_cons_zero, List.set_cons_succ]
      refine take_val (i := 18) (.slice (some ⟨g4, 0, none⟩) (E.length + 1) cap4) rfl (by kernel_rfl) (by kernel_rfl) (by kernel_rfl) (fun _ _ _ h => h) (by rfl) (fun w hSw => by go_simp) hHeld ?_
      simp only [Act.put, List.setIfInBounds_toArray, List.set_cons_zero, List.set_cons_succ]
      refine wpAnyH_done (by kernel_rfl) ?_ _
      go_wp2_with fail
      go_roundg (bt.length - (k + 1))
      case measure => omega
      case rel => exact ⟨k + 1, by go_num, by omega, by omega, by rw [HSTE.out]; exact HO4.out, HB4⟩
    · have hkz : ¬ (k : Int) < (bt.length : Int) := by omega
      have htk : (setsE (bn, bt)).take k = setsE (bn, bt) := List.take_of_length_le (by rw [sets_len]; simp only; omega)
      rw [htk] at HOK
      clear htk
      by_cases hia : i < da.length
      · have hiz : (i : Int) < (da.length : Int) := by omega
        have hi0z : (0 : Int) ≤ i := by omega
        have hid1 : decide ((i : Int) < (da.length : Int)) = true := decide_eq_true hiz
        obtain ⟨ba, oa, rfl, hca⟩ := HA.out i hia
        obtain ⟨a0, a1⟩ := hca wr HBK.out
        have hsn : sameN ((da.map Fx.fld).drop i) (bn, bt) = decide ((da[i]).name = bn) := by rw [drop_fld hia]; rfl
        generalize (da[i]).name = an at a0 hsn
        clear hca a1
        by_cases hq : an = bn
        · have hqe := seq_true hq
          rw [hsn, decide_eq_true hq, if_pos rfl] at HN
          clear hq hsn
          go_wp2_with fail
          refine wp_region_quiet_lit mixed (by kernel_rfl) ?_
          repeat (go_big_quiet_step (fail))
          refine wpQuiet_nil ?_
          intro _ hw'
          obtain ⟨nq, hw''⟩ := hw'
          subst hw''
          go_wp2_with fail
          go_roundg ((da.length + db.length) - (i + 1 + (j + 1)))
          case measure => omega
          case rel => exact ⟨i + 1, j + 1, by go_num, by go_num, by omega, by omega, by omega, ⟨_, HOK.out, HN.out, bel_drewN HBK.out _⟩⟩
        · have hqe := seq_false hq
          rw [hsn, decide_eq_false hq, if_neg (by decide)] at HN
          clear hq hsn
          go_wp2_with fail
          refine wp_region_quiet_lit mixed (by kernel_rfl) ?_
          repeat (go_big_quiet_step (fail))
          refine wpQuiet_nil ?_
          intro _ hw'
          obtain ⟨nq, hw''⟩ := hw'
          subst hw''
          go_wp2_with fail
          go_roundg ((da.length + db.length) - (i + (j + 1)))
          case measure => omega
          case rel => exact ⟨i, j + 1, rfl, by go_num, by omega, by omega, by omega, ⟨_, HOK.out, HN.out, bel_drewN HBK.out _⟩⟩
      · have hiz : ¬ (i : Int) < (da.length : Int) := by omega
        have hid1 : decide ((i : Int) < (da.length : Int)) = false := decide_eq_false hiz
        have hsn : sameN ((da.map Fx.fld).drop i) (bn, bt) = false := by rw [drop_end (by omega)]; rfl
        rw [hsn, if_neg (by decide)] at HN
        clear hsn
        go_wp2_with fail
        refine wp_region_quiet_lit mixed (by kernel_rfl) ?_
        repeat (go_big_quiet_step (fail))
        refine wpQuiet_nil ?_
        intro _ hw'
        obtain ⟨nq, hw''⟩ := hw'
        subst hw''
        go_wp2_with fail
        go_roundg ((da.length + db.length) - (i + (j + 1)))
        case measure => omega
        case rel => exact ⟨i, j + 1, rfl, by go_num, by omega, by omega, by omega, ⟨_, HOK.out, HN.out, bel_drewN HBK.out _⟩⟩

set_option maxHeartbeats 4000000 in
set_option maxRecDepth 100000 in
theorem rdiff_any (va vb : Value) (da db : List Fx) (w : World) (ha : IsXs w va da) (hb : IsXs w vb db) (hfa : FitX da) (hfb : FitX db) :
    Calls Tryz.prog 16 #[va, vb] w fun e w' => DiPost w (da.map Fx.fld) (db.map Fx.fld) e w' := by
  cases hma : mayB (da.map Fx.fld) with
  | false =>
    have HMA := hid (rmay_any va da w ha hfa)
    rw [hma] at HMA
    have HC := hid (codeDf_a (B := db.map Fx.fld) hma)
    clear hma ha hb hfa hfb
    go_enter Tryz.func16, Tryz.ntmps16
    go_wp2_with (first | (go_at_call 26; refine HMA.out.mono ?_; rintro e w1 ⟨rfl, hg1⟩))
    go_ret2
    exact di_no HC.out (by decide) rfl hg1.below
  | true =>
    cases hmb : mayB (db.map Fx.fld) with
    | false =>
      have HMA := hid (rmay_any va da w ha hfa)
      rw [hma] at HMA
      have HMB := hid (fun W (hW : Below w.heap.size w W) => rmay_any vb db W (hb.kept hW) hfb)
      rw [hmb] at HMB
      have HC := hid (codeDf_b (A := da.map Fx.fld) hmb)
      clear hma hmb ha hb hfa hfb
      go_enter Tryz.func16, Tryz.ntmps16
      go_wp2_with (first
        | (go_at_call 26; refine HMA.out.mono ?_; rintro e w1 ⟨rfl, hg1⟩; have hb1 := hg1.below; clear hg1 HMA)
        | (go_at_call 26; refine (HMB.out _ hb1).mono ?_; rintro e w2 ⟨rfl, hg2⟩; have hb2 := bel_then hb1 hb1.size hg2.below; clear hg2 HMB))
      go_ret2
      exact di_no HC.out (by decide) rfl hb2
    | true => exact rdiff_yes va vb da db w ha hb hma hmb

end Go.Proofs.YtelcongbnmfegaaGreatDoor

/-
  The contracts of names and change.
-/
namespace Go.Proofs.YtelcongbnmfegaaGreatDoor
open Go.RowKit Go.Lib

theorem rowX_at {N : Nat} {w : World} {p : Option Addr} {c n : Nat} {o : List Fx} (h : RowX N w (.slice p n c) o) : o = [] ∨ ∃ b off, p = some ⟨b, off, none⟩ ∧ XsAt w b off o := by
  rcases h.2 with ⟨hv, h0⟩ | ⟨g, cap, cur, hv, h1, h2, h3, h4, h5, h6⟩
  · exact Or.inl (List.length_eq_zero_iff.1 h0)
  · injection hv with e1 e2 e3
    subst e1
    refine Or.inr ⟨g, 0, rfl, fun i hi => ?_⟩
    obtain ⟨c0, c1⟩ := cellsX_get o i hi
    have hl : (cellsX o).length = o.length * 2 := cellsX_len o
    have e : ∀ j, j < o.length * 2 → (cellsX o)[j]? = cur[j]? := fun j hj => by
      rw [← h6, List.getElem?_take, if_pos hj, Array.getElem?_toList]
    rw [Nat.zero_add, cell_of_row w g _ cur _ _ h2, cell_of_row w g _ cur _ _ h2, ← e _ (by omega), ← e _ (by omega)]
    exact ⟨c0, c1⟩

set_option maxHeartbeats 4000000 in
set_option maxRecDepth 100000 in
theorem names_any (pa pb : Option Addr) (ca cb : Nat) (da db : List Fx) (w : World)
    (ha : da = [] ∨ ∃ b off, pa = some ⟨b, off, none⟩ ∧ XsAt w b off da) (hb : db = [] ∨ ∃ b off, pb = some ⟨b, off, none⟩ ∧ XsAt w b off db) (hla : da.length ≤ 1000) (hlb : db.length ≤ 1000) :
    Calls Tryz.prog 35 #[.slice pa da.length ca, .slice pb db.length cb] w fun e w' => ∃ u, e = .returned u ∧ OwnT w.heap.size w' u (sortT ((da ++ db).map (·.name))) ∧ Below w.heap.size w w' := by
  obtain ⟨i0, hi0, hz0, hz1, hz2⟩ := info_parts Tryz.infoStr
  have HI := hid hi0
  obtain ⟨W, hW⟩ : ∃ W, w.alloc (.cells #[.slice pa da.length ca, .slice pb db.length cb] 22) = W := ⟨_, rfl⟩
  have hbW : Below w.heap.size w W := by rw [← hW]; exact (Below.refl _ _).alloc (Nat.le_refl _) _
  have hk : ∀ {p : Option Addr} {d : List Fx}, (d = [] ∨ ∃ b off, p = some ⟨b, off, none⟩ ∧ XsAt w b off d) → (d = [] ∨ ∃ b off, p = some ⟨b, off, none⟩ ∧ XsAt W b off d) := fun h => by
    rcases h with e | ⟨b, off, e, hx⟩
    · exact Or.inl e
    · exact Or.inr ⟨b, off, e, hx.kept hbW⟩
  have HCC := hid (concatX_any w.heap.size pa pb ca cb da db W (by rw [← hW]; exact heap_alloc_new w _) (hk ha) (hk hb) hla hlb)
  have HBW := hid hbW
  obtain ⟨d, hd⟩ : ∃ d, da ++ db = d := ⟨_, rfl⟩
  have hdl : d.length ≤ 2000 := by rw [← hd, List.length_append]; omega
  rw [hd] at HCC ⊢
  clear ha hb hi0 hk hbW hd hla hlb
  go_enter Tryz.func35, Tryz.ntmps35
  go_wp2_with fail
  refine HCC.out.mono ?_
  rintro e w1 ⟨p1, k1, rfl, hr1, hb1⟩
  have HB1 := hid (bel_then HBW.out HBW.out.size hb1)
  have HD := hid (rowX_at hr1)
  clear hr1 hb1
  go_wp2_with fail
  go_loopg [5, 13] d.length (fun g vs vi wr => ∃ i : Nat, vi = .int .i64 i ∧ i ≤ d.length ∧ d.length - i ≤ g ∧ Hid (Below w1.heap.size w1 wr) ∧ Hid (OwnT w1.heap.size wr vs ((d.take i).map (·.name))))
  case atStart => exact ⟨0, rfl, by omega, by omega, Below.refl _ _, World.ownsRow_nil _ _ _ _⟩
  case round =>
    obtain ⟨i, rfl, hi, hgk, HB, HO⟩ := hrel
    by_cases hlt : i < d.length
    · have hltz : (i : Int) < (d.length : Int) := by omega
      have hiz : (0 : Int) ≤ i := by omega
      obtain ⟨b, off, rfl, hat⟩ : ∃ b off, p1 = some ⟨b, off, none⟩ ∧ XsAt w1 b off d := by
        rcases HD.out with h | h
        · subst h; simp at hlt
        · exact h
      obtain ⟨c0, c1⟩ := hat.kept HB.out i hlt
      have htk : (d.take (i + 1)).map (·.name) = (d.take i).map (·.name) ++ [(d[i]).name] := by
        rw [List.take_succ_eq_append_getElem hlt, List.map_append]; simp
      have hal2 : ((d.take i).map (·.name)).length = i := by rw [List.length_map, List.length_take]; omega
      obtain ⟨x, hx⟩ : ∃ x, d[i] = x := ⟨_, rfl⟩
      rw [hx] at c0 c1 htk
      obtain ⟨acc, hacc⟩ : ∃ acc, (d.take i).map (·.name) = acc := ⟨_, rfl⟩
      rw [hacc] at HO htk hal2
      have hal3 : acc.length ≤ 2000 := by omega
      have hsz := HB.out.size
      obtain ⟨xn, xp, xc, xt⟩ := x
      simp only [Fx.sl] at c0 c1 htk
      have HTK := hid htk
      have hb2 : Below w1.heap.size w1 ((wr.alloc (.cells #[.string xn, .slice xp xt.length xc] 44)).alloc (.cells #[.string xn] 9)) := (HB.out.alloc hsz _).alloc (Nat.le_trans (HB.out.alloc hsz _).size (Nat.le_refl _)) _
      have HO3 : Hid (OwnT w1.heap.size ((wr.alloc (.cells #[.string xn, .slice xp xt.length xc] 44)).alloc (.cells #[.string xn] 9)) _ acc) := hid (World.ownsRow.alloc (World.ownsRow.alloc HO.out _) _)
      have HB2 := hid hb2
      clear hat hx htk hacc hal2 hb2
      go_wp2_with (at_builtin; refine wpList_append_own _ rfl _ _ 42 rfl w1.heap.size 9 i0 (.string ⟨#[]⟩) 1 16 Tryz.underlying42 HI.out hz0 hz1 hz2 rfl (by decide) _ _ _ rfl HO3.out _ 1 1 [.string xn] rfl rfl (by intro j u hj; match j, hj with | 0, hj => simp at hj; subst hj; simp [Addr.add]) (by intro u hu; simp at hu; subst hu; rfl) (by unfold maxLen; omega) (by omega) HB2.out.size ?_; intro v4 w4 hown4 hg4 hnil4; have HO4 := hid hown4; have HG4 := hid hg4; clear hown4 hg4 hnil4)
      go_roundg (d.length - (i + 1))
      case measure => omega
      refine ⟨i + 1, by go_num, by omega, by omega, ?_, ?_⟩
      · exact HB2.out.grown HG4.out HB2.out.size (fun k hk => (World.ownsRow.lt HO3.out k hk).1)
      · rw [HTK.out]
        show OwnT _ _ _ _
        unfold OwnT
        rw [List.length_append, List.map_append]
        exact HO4.out
    · have hltz : ¬ (i : Int) < (d.length : Int) := by omega
      have htk2 : d.take i = d := List.take_of_length_le (by omega)
      rw [htk2] at HO
      obtain ⟨ns, hns⟩ : ∃ ns, d.map (·.name) = ns := ⟨_, rfl⟩
      have hnl : ns.length ≤ 2000 := by rw [← hns, List.length_map]; omega
      rw [hns] at HO
      have HNS := hid hns
      clear htk2 hns
      have HSO := hid (sortS_own w1.heap.size _ ns wr HO.out HB.out.size (by omega))
      have HON : Hid (onceT (orderT ns) = sortT ns) := order_once ns
      have hol : (orderT ns).length ≤ 2000 := by rw [orderT_len]; exact hnl
      go_wp2_with fail
      refine HSO.out.mono ?_
      rintro e w5 ⟨rfl, ho5, hb5⟩
      have hb51 : Below w1.heap.size w1 w5 := HB.out.trans hb5
      have HCO := hid (compS_own w1.heap.size _ (orderT ns) w5 ho5 hb51.size (by omega))
      have HB51 := hid hb51
      clear ho5 hb5 hb51
      go_wp2_with fail
      refine HCO.out.mono ?_
      rintro e w6 ⟨u6, rfl, ho6, hb6⟩
      rw [HON.out] at ho6
      have HO6 := hid ho6
      have HB6 := hid (HB51.out.trans hb6)
      clear ho6 hb6
      go_wp2_with fail
      go_ret
      exact ⟨_, rfl, by rw [HNS.out]; exact own_weak HO6.out HB1.out.size, bel_then HB1.out HB1.out.size HB6.out⟩

end Go.Proofs.YtelcongbnmfegaaGreatDoor

/-
  The contract of change: the edits of one field.
-/
namespace Go.Proofs.YtelcongbnmfegaaGreatDoor
open Go.RowKit Go.Lib

theorem own_litE {N : Nat} (w : World) (x : Ed) (hN : N ≤ w.heap.size) : KE.Own N (w.alloc (.cells #[.int .i64 x.1, .string x.2.1, .string x.2.2] 46)) (.slice (some ⟨w.heap.size, 0, none⟩) 1 1) [x] :=
  World.ownsRow_lit w #[.int .i64 x.1, .string x.2.1, .string x.2.2] 1 hN (by decide) rfl

theorem changeE_len (n : ByteArray) (f t : List ByteArray) : (changeE n f t).length ≤ t.length + 1 := by
  unfold changeE setsE
  split
  · simp
  · split
    · simp
    · cases t with
      | nil => simp
      | cons a t => simp

def ChPost (w : World) (l : List Ed) (e : Ending) (w' : World) : Prop := ∃ p c, e = .returned (.slice p l.length c) ∧ KE.Own w.heap.size w' (.slice p l.length c) l ∧ Below w.heap.size w w'

set_option maxHeartbeats 4000000 in
set_option maxRecDepth 100000 in
theorem change_any (n : ByteArray) (pf : Option Addr) (cf : Nat) (f : List ByteArray) (tv : Value) (t : List ByteArray) (M : Nat) (w : World) (hf : TxtAt w pf f) (ht : OwnT M w tv t) (hfl : f.length ≤ 1000) (htl : t.length ≤ 1000) :
    Calls Tryz.prog 36 #[.string n, .slice pf f.length cf, tv] w fun e w' => ChPost w (changeE n f t) e w' := by
  obtain ⟨j0, hj0, hy0, hy1, hy2⟩ := info_parts Tryz.infoEd
  have HJ := hid hj0
  obtain ⟨pt, ct, rfl, htc⟩ : ∃ p c, tv = .slice p t.length c ∧ t.length ≤ c := by
    rcases ht.2 with ⟨h1, h2⟩ | ⟨g, cap, cur, h1, _, _, h4, _⟩
    · exact ⟨none, 0, by rw [h1, h2], by omega⟩
    · exact ⟨_, cap, h1, h4⟩
  have htx' : TxtAt w pt t := OwnT.txtAt ht
  have HE := hid (eqTexts_any pf pt cf ct f t w hf htx' (by unfold maxLen; omega) (by unfold maxLen; omega))
  by_cases hft : f = t
  · have hd : decide (f = t) = true := decide_eq_true hft
    rw [hd] at HE
    have HC : Hid (changeE n f t = []) := by show _ = _; unfold changeE; rw [if_pos hft]
    clear hf ht htx' hj0 hft hd
    go_enter Tryz.func36, Tryz.ntmps36
    go_wp2_with fail
    refine HE.out.mono ?_
    rintro e w1 ⟨rfl, q, rfl⟩
    go_wp2_with fail
    go_ret
    refine ⟨none, 0, by rw [HC.out]; rfl, ?_, belE_drew (Below.refl _ _) _⟩
    rw [HC.out]
    exact KE.own_nil _ _
  · have hd : decide (f = t) = false := decide_eq_false hft
    rw [hd] at HE
    cases t with
    | nil =>
      have HC : Hid (changeE n f [] = [(4, n, ⟨#[]⟩)]) := change_wipe hft
      clear hf ht htx' hj0 hft hd
      go_enter Tryz.func36, Tryz.ntmps36
      go_wp2_with fail
      refine HE.out.mono ?_
      rintro e w1 ⟨rfl, q, rfl⟩
      go_wp2_with fail
      go_ret
      refine ⟨some ⟨w.heap.size, 0, none⟩, 1, by rw [HC.out]; rfl, ?_, (belE_drew (Below.refl _ _) q).alloc (Nat.le_refl _) _⟩
      rw [HC.out]
      exact own_litE (w.drewN q) (4, n, ⟨#[]⟩) (Nat.le_refl _)
    | cons a t =>
      have HC : Hid (changeE n f (a :: t) = (1, n, a) :: t.map fun u => (2, n, u)) := by show _ = _; unfold changeE; rw [if_neg hft, if_neg (by simp)]; rfl
      obtain ⟨b, off, rfl, hat⟩ : ∃ b off, pt = some ⟨b, off, none⟩ ∧ ∀ i (h : i < (a :: t).length), w.cell? ⟨b, off + i, none⟩ = some (.string (a :: t)[i]) := by
        rcases htx' with h | h
        · cases h
        · exact h
      have hbl : b < w.heap.size := cell_block (hat 0 (by simp))
      have HAT : Hid (∀ W, Below w.heap.size w W → ∀ i (h : i < (a :: t).length), W.cell? ⟨b, off + i, none⟩ = some (.string (a :: t)[i])) := fun W hb i h => (hb.cell (p := ⟨b, off + i, none⟩) hbl).trans (hat i h)
      obtain ⟨A, hA, HA⟩ : ∃ A : Addr, (if ct = 1 then some (⟨b, off, none⟩ : Addr) else some ⟨b, off + 1, none⟩) = some A ∧ Hid (0 < t.length → A = ⟨b, off + 1, none⟩) := by
        by_cases hh : ct = 1
        · refine ⟨_, if_pos hh, fun h0 => ?_⟩
          simp at htc
          omega
        · exact ⟨_, if_neg hh, fun _ => rfl⟩
      obtain ⟨tl, htl2⟩ : ∃ tl, t.length = tl := ⟨_, rfl⟩
      have hlen : (a :: t).length = tl + 1 := by rw [List.length_cons, htl2]
      have hl1 : (1 : Int) ≤ (tl : Int) + 1 := by omega
      have hl0 : ¬ ((tl : Int) + 1 = 0) := by omega
      have hlz : (((tl : Int) + 1) == 0) = false := by rw [beq_eq_false_iff_ne]; omega
      have hsub : tl + 1 - 1 = tl := by omega
      have htl3 : tl ≤ 1000 := by rw [← htl2]; simp at htl; omega
      have HTL := hid htl2
      rw [hlen] at HE htc ⊢
      clear hf ht htx' hj0 hft hd hat hlen htl2 htl
      go_enter Tryz.func36, Tryz.ntmps36
      go_wp2_with fail
      refine HE.out.mono ?_
      rintro e w1 ⟨rfl, q, rfl⟩
      have hbq : Below w.heap.size w (w.drewN q) := belE_drew (Below.refl _ _) q
      obtain ⟨Wq, hWq⟩ : ∃ Wq, w.drewN q = Wq := ⟨_, rfl⟩
      rw [hWq] at hbq
      have hsq : Wq.heap.size = w.heap.size := by rw [← hWq]; rfl
      have c0 := HAT.out Wq hbq 0 (by simp)
      simp only [Nat.add_zero, List.getElem_cons_zero] at c0
      have HST : Hid (KE.Own w.heap.size (Wq.alloc (.cells #[.int .i64 1, .string n, .string a] 46)) (.slice (some ⟨w.heap.size, 0, none⟩) 1 1) [(1, n, a)]) := by
        have := own_litE (N := w.heap.size) Wq (1, n, a) (by omega)
        rw [hsq] at this
        exact this
      have HBQ : Hid (Below w.heap.size w (Wq.alloc (.cells #[.int .i64 1, .string n, .string a] 46))) := hbq.alloc (by omega) _
      clear hbq
      rw [hWq]
      go_wp2_with fail
      go_loopg [7, 28] tl (fun g vl vi wr => ∃ i : Nat, vi = .int .i64 i ∧ i ≤ tl ∧ tl - i ≤ g ∧ Hid (Below w.heap.size w wr) ∧ Hid (KE.Own w.heap.size wr vl ((1, n, a) :: (t.take i).map fun u => (2, n, u))))
      case atStart => exact ⟨0, rfl, by omega, by omega, HBQ, HST⟩
      case round =>
        obtain ⟨i, rfl, hi, hgk, HB, HO⟩ := hrel
        by_cases hlt : i < tl
        · have hltz : (i : Int) < (tl : Int) := by omega
          have hiz : (0 : Int) ≤ i := by omega
          have hit : i < t.length := by rw [HTL.out]; exact hlt
          obtain rfl : A = ⟨b, off + 1, none⟩ := HA.out (by omega)
          have c1 := HAT.out _ HB.out (i + 1) (by simp; omega)
          rw [List.getElem_cons_succ, show off + (i + 1) = off + 1 + i by omega] at c1
          have htk : (t.take (i + 1)).map (fun u => ((2 : Int), n, u)) = (t.take i).map (fun u => ((2 : Int), n, u)) ++ [(2, n, t[i])] := by
            rw [List.take_succ_eq_append_getElem hit, List.map_append]; simp
          obtain ⟨x, hx⟩ : ∃ x, t[i] = x := ⟨_, rfl⟩
          rw [hx] at c1 htk
          obtain ⟨acc, hacc⟩ : ∃ acc : List Ed, ((1, n, a) :: (t.take i).map fun u => ((2 : Int), n, u)) = acc := ⟨_, rfl⟩
          have hal : acc.length ≤ 1001 := by rw [← hacc]; simp; omega
          have htk2 : ((1, n, a) :: (t.take (i + 1)).map fun u => ((2 : Int), n, u)) = acc ++ [(2, n, x)] := by rw [htk, ← hacc]; rfl
          rw [hacc] at HO
          have HTK := hid htk2
          have hsz := HB.out.size
          have hb2 := HB.out.alloc hsz (.cells #[.int .i64 2, .string n, .string x] 46)
          have HB2 := hid hb2
          have HO3 : Hid (KE.Own w.heap.size (wr.alloc (.cells #[.int .i64 2, .string n, .string x] 46)) _ acc) := hid (World.ownsRow.alloc HO.out _)
          have HNW := hid (KE.news wr (2, n, x))
          clear hx htk htk2 hacc hb2
          go_wp2_with (at_builtin; refine wpList_append_own _ rfl _ _ 23 rfl w.heap.size 46 j0 (.agg #[.int .i64 0, .string ⟨#[]⟩, .string ⟨#[]⟩]) 3 40 Tryz.underlying23 HJ.out hy0 hy1 hy2 rfl (by decide) _ _ _ rfl HO3.out _ 1 1 (KE.cells [(2, n, x)]) rfl rfl HNW.out (KE.cells_ones _) (by unfold maxLen; omega) (by omega) HB2.out.size ?_; intro v4 w4 hown4 hg4 hnil4; have HO4 := hid hown4; have HG4 := hid hg4; clear hown4 hg4 hnil4)
          go_roundg (tl - (i + 1))
          case measure => omega
          refine ⟨i + 1, by go_num, by omega, by omega, ?_, ?_⟩
          · exact HB2.out.grown HG4.out HB2.out.size (fun k hk => (World.ownsRow.lt HO3.out k hk).1)
          · rw [HTK.out]
            exact Kind.own_snoc HO4.out rfl rfl
        · have hltz : ¬ (i : Int) < (tl : Int) := by omega
          have htk2 : t.take i = t := List.take_of_length_le (by rw [HTL.out]; omega)
          rw [htk2] at HO
          obtain ⟨p5, c5, rfl⟩ := Kind.own_shape HO.out
          rw [List.length_cons, List.length_map] at HO
          go_wp2_with fail
          go_ret
          refine ⟨p5, c5, ?_, ?_, HB.out⟩
          · rw [HC.out, List.length_cons, List.length_map]; rfl
          · rw [HC.out, List.length_cons, List.length_map]; exact HO.out

end Go.Proofs.YtelcongbnmfegaaGreatDoor

/-
  The contract of Diff.
-/
namespace Go.Proofs.YtelcongbnmfegaaGreatDoor
open Go.RowKit Go.Lib

theorem may_16 {d : List Fx} (h : mayB (d.map Fx.fld) = true) : ∀ x ∈ d, x.txt.length * 16 ≤ 140737488355328 := fun x hx => by
  have := (fitsP ((mayR h).2.1 x.fld (List.mem_map.2 ⟨x, hx, rfl⟩))).2.2.1
  have h2 : x.txt.length ≤ 8 := this
  omega

theorem map_names (d : List Fx) : (d.map Fx.fld).map (·.1) = d.map (·.name) := by rw [List.map_map]; rfl

set_option maxHeartbeats 4000000 in
set_option maxRecDepth 100000 in
theorem pdiff_plain (va vb : Value) (da db : List Fx) (w : World) (ha : IsXs w va da) (hb : IsXs w vb db) (hfa : FitX da) (hfb : FitX db) :
    Calls Tryz.prog 15 #[va, vb] w fun e w' => DiPost w (da.map Fx.fld) (db.map Fx.fld) e w' := by
  have HMA := hid (may_any va da w ha hfa)
  have HMB := hid (fun W (hW : Below w.heap.size w W) => may_any vb db W (hb.kept hW) hfb)
  cases hma : mayB (da.map Fx.fld) with
  | false =>
    rw [hma] at HMA
    have HC : Hid (codeDf (da.map Fx.fld) (db.map Fx.fld) = 3) := by show _ = _; unfold codeDf; rw [if_pos (Or.inl hma)]
    have HA : Hid (ansDf (da.map Fx.fld) (db.map Fx.fld) = []) := by show _ = _; unfold ansDf; rw [HC.out, if_neg (by decide)]
    clear ha hb hfa hfb hma
    go_enter Tryz.func15, Tryz.ntmps15
    go_wp2_with fail
    refine HMA.out.mono ?_
    rintro e w1 ⟨rfl, hg1⟩
    have HB1 := hid hg1.below
    clear hg1
    go_wp2_with fail
    go_ret2
    exact ⟨_, by rw [HC.out]; rfl, by rw [HA.out]; exact KE.own_nil _ _, HB1.out⟩
  | true =>
  rw [hma] at HMA
  cases hmb : mayB (db.map Fx.fld) with
  | false =>
    rw [hmb] at HMB
    have HC : Hid (codeDf (da.map Fx.fld) (db.map Fx.fld) = 3) := by show _ = _; unfold codeDf; rw [if_pos (Or.inr hmb)]
    have HA : Hid (ansDf (da.map Fx.fld) (db.map Fx.fld) = []) := by show _ = _; unfold ansDf; rw [HC.out, if_neg (by decide)]
    clear ha hb hfa hfb hma hmb
    go_enter Tryz.func15, Tryz.ntmps15
    go_wp2_with fail
    refine HMA.out.mono ?_
    rintro e w1 ⟨rfl, hg1⟩
    have HB1 := hid hg1.below
    clear hg1
    go_wp2_with fail
    refine (HMB.out _ HB1.out).mono ?_
    rintro e w2 ⟨rfl, hg2⟩
    have HB2 := hid (bel_then HB1.out HB1.out.size hg2.below)
    clear hg2
    go_wp2_with fail
    go_ret2
    exact ⟨_, by rw [HC.out]; rfl, by rw [HA.out]; exact KE.own_nil _ _, HB2.out⟩
  | true =>
    rw [hmb] at HMB
    obtain ⟨j0, hj0, hy0, hy1, hy2⟩ := info_parts Tryz.infoEd
    have HJ := hid hj0
    obtain ⟨ra1, ra2, ra3⟩ := mayR hma
    obtain ⟨rb1, rb2, rb3⟩ := mayR hmb
    rw [List.length_map] at ra1 rb1
    have HTA := hid (fun W (n : ByteArray) (hW : Below w.heap.size w W) => texts_any va n da W (ha.kept hW) hfa (may_16 hma))
    have HTB := hid (fun W (n : ByteArray) (hW : Below w.heap.size w W) => texts_any vb n db W (hb.kept hW) hfb (may_16 hmb))
    have HLA := hid (fun n => (okR_texts (okR_may hma) n).1)
    have HLB := hid (fun n => (okR_texts (okR_may hmb) n).1)
    have HDI : Hid (diffE (da.map Fx.fld) (db.map Fx.fld) = (sortT ((da ++ db).map (·.name))).flatMap fun n => changeE n (textsOf (da.map Fx.fld) n) (textsOf (db.map Fx.fld) n)) :=
      diff_by ra3 rb3 (may_nobareE hma) (may_nobareE hmb) (sortT_rising _) (fun n => by rw [sortT_mem, List.map_append, List.mem_append, map_names, map_names])
    have hsl : (sortT ((da ++ db).map (·.name))).length ≤ 32 := by
      have e := order_once ((da ++ db).map (·.name))
      have h1 := onceT_len (orderT ((da ++ db).map (·.name)))
      rw [e, orderT_len, List.length_map, List.length_append] at h1
      omega
    obtain ⟨pa, ca, rfl, hxa, _⟩ := ha
    obtain ⟨pb, cb, rfl, hxb, _⟩ := hb
    have HNM : Hid (∀ W, Below w.heap.size w W → Calls Tryz.prog 35 #[.slice pa da.length ca, .slice pb db.length cb] W fun e w' => ∃ u, e = .returned u ∧ OwnT W.heap.size w' u (sortT ((da ++ db).map (·.name))) ∧ Below W.heap.size W w') := fun W hW =>
      names_any pa pb ca cb da db W (by
        rcases hxa with e | ⟨b, off, e, hx⟩
        · exact Or.inl e
        · exact Or.inr ⟨b, off, e, hx.kept hW⟩) (by
        rcases hxb with e | ⟨b, off, e, hx⟩
        · exact Or.inl e
        · exact Or.inr ⟨b, off, e, hx.kept hW⟩) (by omega) (by omega)
    obtain ⟨G, hG⟩ : ∃ G, sortT ((da ++ db).map (·.name)) = G := ⟨_, rfl⟩
    rw [hG] at HNM HDI hsl
    obtain ⟨A, hA⟩ : ∃ A, da.map Fx.fld = A := ⟨_, rfl⟩
    obtain ⟨B, hB⟩ : ∃ B, db.map Fx.fld = B := ⟨_, rfl⟩
    have HCD : Hid (codeDf A B = if 16 < (diffE A B).length then 5 else 0) := by
      show _ = _
      unfold codeDf
      rw [← hA, ← hB, if_neg (by rw [hma, hmb]; simp)]
    rw [hA, hB] at HDI ⊢
    rw [hA] at HTA HLA
    rw [hB] at HTB HLB
    clear hfa hfb hma hmb hj0 ra1 ra2 ra3 rb1 rb2 rb3 hxa hxb hG hA hB
    go_enter Tryz.func15, Tryz.ntmps15
    go_wp2_with fail
    refine HMA.out.mono ?_
    rintro e w1 ⟨rfl, hg1⟩
    have HB1 := hid hg1.below
    clear hg1
    go_wp2_with fail
    refine (HMB.out _ HB1.out).mono ?_
    rintro e w2 ⟨rfl, hg2⟩
    have HB2 := hid (bel_then HB1.out HB1.out.size hg2.below)
    clear hg2
    go_wp2_with fail
    refine (HNM.out _ HB2.out).mono ?_
    rintro e w3 ⟨un, rfl, hon, hb3⟩
    obtain ⟨pn, cn, rfl⟩ := own_slice hon
    have HTN := hid hon.txtAt
    have HB3 := hid (bel_then HB2.out HB2.out.size hb3)
    clear hon hb3
    go_wp2_with fail
    go_loopg [6, 21] G.length (fun g vl vi wr => ∃ i : Nat, vi = .int .i64 i ∧ i ≤ G.length ∧ G.length - i ≤ g ∧ Hid (Below w3.heap.size w3 wr) ∧ Hid (((G.take i).flatMap fun n => changeE n (textsOf A n) (textsOf B n)).length ≤ 9 * i) ∧ Hid (KE.Own w3.heap.size wr vl ((G.take i).flatMap fun n => changeE n (textsOf A n) (textsOf B n))))
    case atStart => exact ⟨0, rfl, by omega, by omega, Below.refl _ _, Nat.zero_le _, KE.own_nil _ _⟩
    case round =>
      obtain ⟨i, rfl, hi, hgk, HB, HL, HO⟩ := hrel
      by_cases hlt : i < G.length
      · have hltz : (i : Int) < (G.length : Int) := by omega
        have hiz : (0 : Int) ≤ i := by omega
        obtain ⟨b, off, rfl, hat⟩ : ∃ b off, pn = some ⟨b, off, none⟩ ∧ ∀ i (h : i < G.length), w3.cell? ⟨b, off + i, none⟩ = some (.string G[i]) := by
          rcases HTN.out with h | h
          · subst h; simp at hlt
          · exact h
        have c0 : wr.cell? ⟨b, off + i, none⟩ = some (.string G[i]) := (HB.out.cell (p := ⟨b, off + i, none⟩) (cell_block (hat i hlt))).trans (hat i hlt)
        have htk : ((G.take (i + 1)).flatMap fun n => changeE n (textsOf A n) (textsOf B n)) = ((G.take i).flatMap fun n => changeE n (textsOf A n) (textsOf B n)) ++ changeE G[i] (textsOf A G[i]) (textsOf B G[i]) := by
          rw [List.take_succ_eq_append_getElem hlt, List.flatMap_append]; simp
        obtain ⟨n, hn⟩ : ∃ n, G[i] = n := ⟨_, rfl⟩
        rw [hn] at c0 htk
        have hla := HLA.out n
        have hlb := HLB.out n
        have hta := HTA.out wr n (bel_then HB3.out HB3.out.size HB.out)
        have HTB2 : Hid (∀ W, Below wr.heap.size wr W → Calls Tryz.prog 37 #[.slice pb db.length cb, .string n] W fun e w' => TxPost W (textsOf B n) e w') := fun W h => HTB.out W n (bel_then (bel_then HB3.out HB3.out.size HB.out) (Nat.le_trans HB3.out.size HB.out.size) h)
        obtain ⟨ta, hta2⟩ : ∃ ta, textsOf A n = ta := ⟨_, rfl⟩
        obtain ⟨tb, htb2⟩ : ∃ tb, textsOf B n = tb := ⟨_, rfl⟩
        rw [hta2] at hta hla htk
        rw [htb2] at HTB2 hlb htk
        have HTA2 := hid hta
        have hcl := changeE_len n ta tb
        obtain ⟨acc, hacc⟩ : ∃ acc, ((G.take i).flatMap fun n => changeE n (textsOf A n) (textsOf B n)) = acc := ⟨_, rfl⟩
        rw [hacc] at HO htk HL
        have hal : acc.length ≤ 9 * i := HL.out
        have HTK := hid htk
        have HNL : Hid (((G.take (i + 1)).flatMap fun n => changeE n (textsOf A n) (textsOf B n)).length ≤ 9 * (i + 1)) := by
          show _ ≤ _
          rw [htk, List.length_append]
          omega
        have HCH : Hid (∀ (W : World) (pf : Option Addr) (cf : Nat) (tv : Value) (M : Nat), TxtAt W pf ta → OwnT M W tv tb → Calls Tryz.prog 36 #[.string n, .slice pf ta.length cf, tv] W fun e w' => ChPost W (changeE n ta tb) e w') := fun W pf cf tv M h1 h2 => change_any n pf cf ta tv tb M W h1 h2 (by omega) (by omega)
        obtain ⟨ce, hce⟩ : ∃ ce, changeE n ta tb = ce := ⟨_, rfl⟩
        rw [hce] at hcl HTK HCH
        have hsz := HB.out.size
        clear hat hn htk hta hacc hta2 htb2 hce HL
        go_wp2_with fail
        refine HTA2.out.mono ?_
        rintro e w4 ⟨⟨av, rfl, hoa⟩, hb4⟩
        obtain ⟨p4, c4, rfl⟩ := own_slice hoa
        have HOA := hid hoa.txtAt
        have HB4 := hid hb4
        clear hoa hb4
        go_wp2_with fail
        refine (HTB2.out _ HB4.out).mono ?_
        rintro e w5 ⟨⟨bv, rfl, hob⟩, hb5⟩
        have HB5 := hid (bel_then HB4.out HB4.out.size hb5)
        have HCA := hid (HCH.out w5 p4 c4 bv w4.heap.size (HOA.out.kept hb5) hob)
        clear hob hb5
        go_wp2_with fail
        refine HCA.out.mono ?_
        rintro e w6 ⟨p6, c6, rfl, ho6, hb6⟩
        have hb61 : Below wr.heap.size wr w6 := bel_then HB5.out HB5.out.size hb6
        have hb63 : Below w3.heap.size w3 w6 := bel_then HB.out HB.out.size hb61
        have HO6 := hid (Kind.own_on HO.out hb61)
        have hsrc : ce.length = 0 ∨ ∃ ad, p6 = some ad ∧ ∀ j u, (KE.cells ce)[j]? = some u → w6.cell? (ad.add j) = some u := by
          obtain ⟨pp, cc, e1, e2⟩ := Kind.own_is ho6
          injection e1 with e1
          subst e1
          exact Kind.src e2
        have HSRC := hid hsrc
        have HB63 := hid hb63
        clear ho6 hb6 hb61 hb63 hsrc
        go_wp2_with (at_builtin; refine wpList_append_rows _ rfl _ _ 23 rfl w3.heap.size 46 j0 (.agg #[.int .i64 0, .string ⟨#[]⟩, .string ⟨#[]⟩]) 3 40 Tryz.underlying23 HJ.out hy0 hy1 hy2 rfl (by decide) _ _ _ rfl HO6.out p6 ce.length c6 (KE.cells ce) rfl (KE.cells_len ce) HSRC.out (KE.cells_ones _) (by unfold maxLen; omega) (by omega) HB63.out.size ?_; intro v7 w7 hown7 hg7; have HO7 := hid hown7; have HG7 := hid hg7; clear hown7 hg7)
        go_roundg (G.length - (i + 1))
        case measure => omega
        refine ⟨i + 1, by go_num, by omega, by omega, ?_, HNL, ?_⟩
        · exact HB63.out.grown HG7.out HB63.out.size (fun k hk => (World.ownsRow.lt HO6.out k hk).1)
        · rw [HTK.out]
          show World.ownsRow _ _ _ _ _ _ _
          rw [List.length_append, Kind.cells_append]
          exact HO7.out
      · have hltz : ¬ (i : Int) < (G.length : Int) := by omega
        have htk2 : G.take i = G := List.take_of_length_le (by omega)
        rw [htk2, ← HDI.out] at HO
        obtain ⟨p7, c7, rfl⟩ := Kind.own_shape HO.out
        obtain ⟨D, hD⟩ : ∃ D, diffE A B = D := ⟨_, rfl⟩
        rw [hD] at HO HCD
        have HDD := hid hD
        have HBW := hid (bel_then HB3.out HB3.out.size HB.out)
        rw [hD]
        by_cases h16 : 16 < D.length
        · have h16z : (16 : Int) < (D.length : Int) := by omega
          rw [if_pos h16] at HCD
          have HA : Hid (ansDf A B = []) := by show _ = _; unfold ansDf; rw [HCD.out, if_neg (by decide)]
          clear hD
          go_wp2_with fail
          go_ret2
          exact ⟨_, by rw [HCD.out]; rfl, by rw [HA.out]; exact KE.own_nil _ _, HBW.out⟩
        · have h16z : ¬ (16 : Int) < (D.length : Int) := by omega
          rw [if_neg h16] at HCD
          have HA : Hid (ansDf A B = D) := by show _ = _; unfold ansDf; rw [HCD.out, if_pos rfl, HDD.out]
          clear hD
          go_wp2_with fail
          go_ret2
          exact ⟨_, by rw [HCD.out]; rfl, by rw [HA.out]; exact own_weak HO.out HB3.out.size, HBW.out⟩

end Go.Proofs.YtelcongbnmfegaaGreatDoor

/-
  The contracts of strings.IndexRune of a rune beyond ASCII, and of strings.IndexAny, both at the signs of edits.
-/
namespace Go.Proofs.YtelcongbnmfegaaGreatDoor
open Go.RowKit Go.Lib Go.ChangeMaps

def signsA : ByteArray := ⟨#[58, 43, 45, 126, 61]⟩

theorem signs_k (c : UInt8) : signsA.data.toList.contains c = isK c := by
  rw [Bool.eq_iff_iff]
  constructor
  · intro h
    have : c ∈ signsA.data.toList := by simpa using h
    simp [signsA] at this
    rcases this with rfl | rfl | rfl | rfl | rfl <;> decide
  · intro h
    rcases kind_sign h with rfl | rfl | rfl | rfl | rfl <;> decide

/-- k is the place of the first sign in l, or -1. -/
def FirstK (l : List UInt8) (k : Int) : Prop := (k = -1 ∧ ∀ c ∈ l, isK c = false) ∨ ∃ i : Nat, k = i ∧ ∃ h : i < l.length, isK l[i] = true ∧ ∀ c ∈ l.take i, isK c = false

theorem indexAny_first : ∀ l : List UInt8, FirstK l (Lib.indexAny l signsA.data.toList)
  | [] => Or.inl ⟨rfl, fun c hc => by simp at hc⟩
  | b :: l => by
    have ih := indexAny_first l
    unfold Lib.indexAny
    rw [signs_k]
    cases hb : isK b with
    | true =>
      rw [if_pos rfl]
      exact Or.inr ⟨0, rfl, by simp, hb, fun c hc => by simp at hc⟩
    | false =>
      rw [if_neg (by simp)]
      rcases ih with ⟨h1, h2⟩ | ⟨i, h1, hi, h3, h4⟩
      · rw [h1]
        refine Or.inl ⟨rfl, fun c hc => ?_⟩
        rcases List.mem_cons.1 hc with rfl | hc
        · exact hb
        · exact h2 c hc
      · rw [h1]
        have : ((i : Int) == -1) = false := by simp
        rw [this, if_neg (by simp)]
        refine Or.inr ⟨i + 1, rfl, by simpa using hi, by simpa using h3, fun c hc => ?_⟩
        rw [List.take_succ_cons] at hc
        rcases List.mem_cons.1 hc with rfl | hc
        · exact hb
        · exact h4 c hc

theorem get_at (s : ByteArray) (i : Nat) (h : i < s.size) : s.get! i = s[i]'h := by
  simp [ByteArray.get!, getElem!_pos, h]
  rfl

/-- A rune beyond ASCII, as it is read. -/
theorem dec_high (s : ByteArray) (pos : Nat) (h : pos < s.size) (hb : 128 ≤ (s[pos]'h).toNat) :
    128 ≤ (Utf8.decode s pos).1 ∧ (Utf8.decode s pos).1 ≤ 2097151 ∧ 1 ≤ (Utf8.decode s pos).2 ∧ pos + (Utf8.decode s pos).2 ≤ s.size ∧ ∀ j, pos ≤ j → j < pos + (Utf8.decode s pos).2 → 128 ≤ (s.get! j).toNat := by
  have e0 : (s.get! (pos + 0)).toNat = (s[pos]'h).toNat := by rw [Nat.add_zero, get_at s pos h]
  have hlt : ∀ k, (s.get! (pos + k)).toNat < 256 := fun k => UInt8.toNat_lt _
  have hcont : ∀ k, (decide (pos + k < s.size) && (s.get! (pos + k)).toNat / 64 == 2) = true → pos + k < s.size ∧ 128 ≤ (s.get! (pos + k)).toNat := fun k hk => by
    rw [Bool.and_eq_true] at hk
    have h1 := of_decide_eq_true hk.1
    have h2 := beq_iff_eq.1 hk.2
    exact ⟨h1, by omega⟩
  have hp0 : 128 ≤ (s.get! pos).toNat := by rw [get_at s pos h]; exact hb
  have hone : ∀ j, pos ≤ j → j < pos + 1 → 128 ≤ (s.get! j).toNat := fun j h1 h2 => by
    have : j = pos := by omega
    subst this; exact hp0
  have herr : (128 ≤ Utf8.runeError) ∧ Utf8.runeError ≤ 2097151 := by decide
  unfold Utf8.decode
  simp only [e0]
  have h80 : ¬ (s[pos]'h).toNat < 128 := by omega
  rw [if_neg h80]
  have hbound : (s[pos]'h).toNat < 256 := UInt8.toNat_lt _
  have l1 := hlt 1
  have l2 := hlt 2
  have l3 := hlt 3
  split
  · rename_i h1
    rw [Bool.and_eq_true] at h1
    obtain ⟨c1, c2⟩ := hcont 1 h1.2
    split
    · rename_i h2
      refine ⟨h2, by omega, by omega, by omega, fun j g1 g2 => ?_⟩
      rcases (show j = pos ∨ j = pos + 1 by omega) with rfl | rfl
      · exact hp0
      · exact c2
    · exact ⟨herr.1, herr.2, by omega, by omega, hone⟩
  · split
    · rename_i h1
      rw [Bool.and_eq_true, Bool.and_eq_true] at h1
      obtain ⟨c1, c2⟩ := hcont 1 h1.1.2
      obtain ⟨d1, d2⟩ := hcont 2 h1.2
      split
      · rename_i h2
        rw [Bool.and_eq_true] at h2
        have h3 := of_decide_eq_true h2.1
        refine ⟨by omega, by omega, by omega, by omega, fun j g1 g2 => ?_⟩
        rcases (show j = pos ∨ j = pos + 1 ∨ j = pos + 2 by omega) with rfl | rfl | rfl
        · exact hp0
        · exact c2
        · exact d2
      · exact ⟨herr.1, herr.2, by omega, by omega, hone⟩
    · split
      · rename_i h1
        rw [Bool.and_eq_true, Bool.and_eq_true, Bool.and_eq_true] at h1
        obtain ⟨c1, c2⟩ := hcont 1 h1.1.1.2
        obtain ⟨d1, d2⟩ := hcont 2 h1.1.2
        obtain ⟨f1, f2⟩ := hcont 3 h1.2
        split
        · rename_i h2
          rw [Bool.and_eq_true] at h2
          have h3 := of_decide_eq_true h2.1
          refine ⟨by omega, by omega, by omega, by omega, fun j g1 g2 => ?_⟩
          rcases (show j = pos ∨ j = pos + 1 ∨ j = pos + 2 ∨ j = pos + 3 by omega) with rfl | rfl | rfl | rfl
          · exact hp0
          · exact c2
          · exact d2
          · exact f2
        · exact ⟨herr.1, herr.2, by omega, by omega, hone⟩
      · exact ⟨herr.1, herr.2, by omega, by omega, hone⟩

/-- The last byte of a rune beyond ASCII, as it is written. -/
theorem enc_last (r : Int) (h : 128 ≤ r) : ∃ m : Nat, 1 ≤ m ∧ m ≤ 3 ∧ ∃ hs : (Utf8.encode r).size = m + 1, 128 ≤ ((Utf8.encode r)[m]'(by omega)).toNat := by
  have hof : ∀ n : Nat, 128 ≤ n → n < 256 → 128 ≤ (UInt8.ofNat n).toNat := fun n h1 h2 => by
    rw [UInt8.toNat_ofNat_of_lt' (by simpa using h2)]; exact h1
  unfold Utf8.encode
  obtain ⟨c, hc⟩ : ∃ c, (if Utf8.valid r = true then r.toNat else Utf8.runeError) = c := ⟨_, rfl⟩
  have hc128 : 128 ≤ c := by
    rw [← hc]
    split
    · omega
    · decide
  simp only [hc]
  have h0 : ¬ c < 128 := by omega
  simp only [if_neg h0]
  by_cases h1 : c < 2048
  · simp only [if_pos h1]
    exact ⟨1, by omega, by omega, rfl, hof _ (by omega) (by omega)⟩
  · simp only [if_neg h1]
    by_cases h2 : c < 65536
    · simp only [if_pos h2]
      exact ⟨2, by omega, by omega, rfl, hof _ (by omega) (by omega)⟩
    · simp only [if_neg h2]
      exact ⟨3, by omega, by omega, rfl, hof _ (by omega) (by omega)⟩

/-- What Op.next does, wherever the iterator lies. -/
theorem run_next_at (W : World) (N : Nat) (s : ByteArray) (pos : Nat) (ty : TypeId) (hN : W.heap[N]? = some (.stringIter s pos)) (h : pos < s.size) :
    (Instr.next (.pointer (some ⟨N, 0, none⟩)) true ty).run Tryz.prog W =
      .ok (.tuple #[.bool true, .int .i64 pos, .int .i32 (Utf8.decode s pos).1]) (setBlock W N (.stringIter s (pos + (Utf8.decode s pos).2))) := by
  have hlt := (Array.getElem?_eq_some_iff.1 hN).1
  simp [Instr.next, getObj, setObj, Sem.run, hN, h, goInt, Result.andThen, setBlock]

theorem run_next_stop (W : World) (N : Nat) (s : ByteArray) (pos : Nat) (ty : TypeId) (hN : W.heap[N]? = some (.stringIter s pos)) (h : ¬ pos < s.size) :
    (Instr.next (.pointer (some ⟨N, 0, none⟩)) true ty).run Tryz.prog W = .ok (.tuple #[.bool false]) W := by
  simp [Instr.next, getObj, Sem.run, hN, h, Result.andThen]

theorem signs_low (x : UInt8) (h : x ∈ (⟨#[58, 43, 45, 126, 61]⟩ : ByteArray).data.toList) : x.toNat < 128 := by
  simp at h
  rcases h with rfl | rfl | rfl | rfl | rfl <;> decide

set_option maxHeartbeats 4000000 in
set_option maxRecDepth 100000 in
theorem ixrune_err (w : World) :
    Calls Tryz.prog 107 #[.string ⟨#[58, 43, 45, 126, 61]⟩, .int .i32 65533] w fun e w' => e = .returned (.int .i64 (-1)) ∧ Grown w w' := by
  obtain ⟨s, hs⟩ : ∃ s : ByteArray, ⟨#[58, 43, 45, 126, 61]⟩ = s := ⟨_, rfl⟩
  have h7 : s.size = 5 := by rw [← hs]; rfl
  have hlow : ∀ (i : Nat) (h : i < s.size), (s[i]'h).toNat < 128 := by
    subst hs
    intro i h
    exact signs_low _ (List.getElem_mem (l := (⟨#[58, 43, 45, 126, 61]⟩ : ByteArray).data.toList) (n := i) h)
  rw [hs]
  clear hs
  go_enter Tryz.func107, Tryz.ntmps107
  go_wp2_with fail
  go_loopg [5, 6] 5 (fun g _ _ wx => ∃ i : Nat, i + g = 5 ∧ wx = w.iter s i)
  case atStart => exact ⟨0, by omega, rfl⟩
  case round =>
    obtain ⟨i, hig, rfl⟩ := hrel
    cases gk with
    | zero =>
      have hnx := fun ty => run_next_end (P := Tryz.prog) w s i ty (by omega)
      go_wp2_with fail
      go_ret
      exact ⟨rfl, (Grown.refl _).alloc _⟩
    | succ g =>
      have hi : i < s.size := by omega
      have hx := hlow i hi
      have hnx := fun ty => run_next_ascii (P := Tryz.prog) w s i ty hi hx
      have hne : (((s[i]'hi).toNat : Int) == 65533) = false := by simp; omega
      clear hlow
      go_wp2_with fail
      go_roundg g
      case measure => omega
      case rel => exact ⟨i + 1, by omega, rfl⟩

set_option maxHeartbeats 4000000 in
set_option maxRecDepth 100000 in
theorem ixrune_valid (r : Int) (h1 : 128 ≤ r) (h2 : r ≤ 2097151) (hv : Lib.validRune r = true) (hne : r ≠ 65533) (w : World) :
    Calls Tryz.prog 107 #[.string ⟨#[58, 43, 45, 126, 61]⟩, .int .i32 r] w fun e w' => e = .returned (.int .i64 (-1)) ∧ Grown w w' := by
  obtain ⟨m, hm1, hm3, hs, hb⟩ := enc_last r h1
  obtain ⟨pat, hpat⟩ : ∃ pat, Utf8.encode r = pat := ⟨_, rfl⟩
  simp only [hpat] at hs hb
  obtain ⟨b, hbe⟩ : ∃ b, pat[m]'(by omega) = b := ⟨_, rfl⟩
  rw [hbe] at hb
  have hz : (0 : Int) ≤ r := by omega
  have h128 : decide (r < 128) = false := decide_eq_false (by omega)
  have hne' : (r == 65533) = false := by simpa using hne
  have HV := hid hv
  obtain ⟨s, hse⟩ : ∃ s : ByteArray, ⟨#[58, 43, 45, 126, 61]⟩ = s := ⟨_, rfl⟩
  have h7 : s.size = 5 := by rw [← hse]; rfl
  have hlow : ∀ x ∈ s.data.toList, x.toNat < 128 := by subst hse; exact signs_low
  rw [hse]
  clear hv hne hse
  have hback : ((b.toNat : Int)).toNat.toUInt8 = b := by simp
  have HIX : Hid (∀ W k, Calls Tryz.prog 77 #[.string (s.extract k s.size), .int .u8 b.toNat] W fun e w' => e = .returned (.int .i64 (-1)) ∧ w' = W) := fun W k => by
    have := Tryz.strings_IndexByte (s.extract k s.size) b.toNat W
    rw [hback, ix_none (fun hc => by
      have hm : b ∈ s.data.toList := by
        have e : (s.extract k s.size).data.toList = s.data.toList.drop k := by
          have := ext_drop s k
          exact this
        rw [e] at hc
        exact List.mem_of_mem_drop hc
      have := hlow b hm
      omega)] at this
    exact this
  have hsm : m < s.size := by omega
  obtain ⟨c, hce⟩ : ∃ c, s[m]'hsm = c := ⟨_, rfl⟩
  have hc : c.toNat < 128 := by
    rw [← hce]
    exact hlow _ (List.getElem_mem (l := s.data.toList) (n := m) (by simpa using hsm))
  have hx : ((c.toNat : Int) != (b.toNat : Int)) = true := by simp; omega
  have hmz : (0 : Int) ≤ m := by omega
  have hms : (m : Int) < (s.size : Int) := by omega
  have hmp : (m : Int) < (pat.size : Int) := by omega
  have hpz : (pat.size : Int) - 1 = (m : Int) := by omega
  have hww : IntKind.i64.wrap ((m : Int) + 1) = (m : Int) + 1 := wrap_i64E _ (by omega) (by omega)
  have hm1s : (m : Int) + 1 ≤ (s.size : Int) := by omega
  have hm0z : (0 : Int) ≤ (m : Int) + 1 := by omega
  have hmt : ((m : Int) + 1).toNat = m + 1 := by omega
  have hmp2 : m < pat.size := by omega
  have hbe2 : pat[m]'hmp2 = b := hbe
  clear hbe
  clear h7 hs
  clear hlow
  go_enter Tryz.func107, Tryz.ntmps107
  go_wp2_with (first | (go_at_call 135; refine (Tryz.utf8_ValidRune _ _).mono ?_; rintro e w1 ⟨rfl, rfl⟩; rw [HV.out]))
  go_step3
  go_wp2_with fail
  refine wp_loop_rounds 1 ?_
  rw [rounds_succ]
  go_wp2_with fail
  go_step3
  go_wp2_with fail
  go_quiet (fail)
  go_wp2_with fail
  have hG2 := Grown.draws w1 nq
  generalize w1.drewN nq = W2 at hG2 ⊢
  go_quiet (first | (go_at_call 77; refine Calls.quiet_of_same (HIX.out _ _)))
  go_wp2_with fail
  repeat (first | rw [Exit.noGoto_ret] | simp only [Exit.inBlock, Exit.then])
  go_ret
  exact ⟨rfl, hG2.drewN _⟩

set_option maxHeartbeats 2000000 in
set_option maxRecDepth 100000 in
theorem ixrune_none (r : Int) (h1 : 128 ≤ r) (h2 : r ≤ 2097151) (w : World) :
    Calls Tryz.prog 107 #[.string ⟨#[58, 43, 45, 126, 61]⟩, .int .i32 r] w fun e w' => e = .returned (.int .i64 (-1)) ∧ Grown w w' := by
  by_cases hne : r = 65533
  · subst hne; exact ixrune_err w
  · cases hv : Lib.validRune r with
    | true => exact ixrune_valid r h1 h2 hv hne w
    | false =>
      have h128 : decide (r < 128) = false := decide_eq_false (by omega)
      have hz : (0 : Int) ≤ r := by omega
      have hne' : (r == 65533) = false := by simpa using hne
      have HV := hid hv
      clear hv hne
      go_enter Tryz.func107, Tryz.ntmps107
      go_wp2_with (first | (go_at_call 135; refine (Tryz.utf8_ValidRune _ _).mono ?_; rintro e w1 ⟨rfl, rfl⟩; rw [HV.out]))
      repeat (first | rw [Exit.noGoto_ret] | simp only [Exit.inBlock, Exit.then])
      go_ret
      exact ⟨rfl, Grown.refl _⟩

/-- The iterator of s stands at pos, in block N. -/
def ItAt (W : World) (N : Nat) (s : ByteArray) (pos : Nat) : Prop := W.heap[N]? = some (.stringIter s pos)

theorem it_step {w W : World} {s : ByteArray} {pos : Nat} (h : ItAt W w.heap.size s pos) (hb : Below w.heap.size w W) (p' : Nat) :
    ItAt (setBlock W w.heap.size (.stringIter s p')) w.heap.size s p' ∧ Below w.heap.size w (setBlock W w.heap.size (.stringIter s p')) := by
  have hlt := (Array.getElem?_eq_some_iff.1 h).1
  refine ⟨by unfold ItAt setBlock; simp [hlt], hb.os, hb.tape, hb.output, by simpa [setBlock] using hb.size, fun k hk => ?_⟩
  refine Eq.trans ?_ (hb.block k hk)
  show (W.heap.setIfInBounds w.heap.size _)[k]? = _
  rw [Array.getElem?_setIfInBounds, if_neg (by omega)]

set_option maxHeartbeats 4000000 in
set_option maxRecDepth 100000 in
theorem ixany_short (s : ByteArray) (w : World) (h8 : s.size ≤ 8) :
    Calls Tryz.prog 76 #[.string s, .string ⟨#[58, 43, 45, 126, 61]⟩] w fun e w' => (∃ k, e = .returned (.int .i64 k) ∧ FirstK s.data.toList k) ∧ Below w.heap.size w w' := by
  have h8z : decide ((8 : Int) < (s.size : Int)) = false := decide_eq_false (by omega)
  obtain ⟨cs, hcs⟩ : ∃ cs : ByteArray, ⟨#[58, 43, 45, 126, 61]⟩ = cs := ⟨_, rfl⟩
  have HCS := hid hcs
  have hemp : cs.toList.isEmpty = false := sfull_of (by rw [← hcs]; decide)
  have hn1 : ((cs.size : Int) == 1) = false := by rw [← hcs]; rfl
  rw [hcs]
  clear hcs
  go_enter Tryz.func76, Tryz.ntmps76
  go_wp2_with (go_at_call 108; refine (Tryz.strings_shouldUseASCIISet _ _).mono ?_; rintro e w' ⟨rfl, hw⟩; rw [hw, h8z])
  go_loopg [9, 10] s.size (fun g _ _ wx => ∃ i : Nat, i ≤ s.size ∧ s.size - i ≤ g ∧ Hid (ItAt wx w.heap.size s i) ∧ Hid (Below w.heap.size w wx) ∧ Hid (∀ c ∈ s.data.toList.take i, isK c = false))
  case atStart => exact ⟨0, by omega, by omega, World.iter_heap _ _ _, (Below.refl _ _).alloc (Nat.le_refl _) _, fun c hc => by simp at hc⟩
  case round =>
    obtain ⟨i, hi, hg, HI, HB, HN⟩ := hrel
    by_cases hlt : i < s.size
    · have hil : i < s.data.toList.length := by simpa using hlt
      have hnx := fun ty => run_next_at wr w.heap.size s i ty HI.out hlt
      obtain ⟨x, hx⟩ : ∃ x : UInt8, s[i]'hlt = x := ⟨_, rfl⟩
      have hxl : s.data.toList[i] = x := hx
      by_cases hx128 : x.toNat < 128
      · have hdec := decode_ascii s i hlt (by rw [hx]; exact hx128)
        rw [hx] at hdec
        rw [hdec] at hnx
        obtain ⟨hi2, hb2⟩ := it_step HI.out HB.out (i + 1)
        simp only at hnx
        obtain ⟨W1, hW1⟩ : ∃ W1, setBlock wr w.heap.size (.stringIter s (i + 1)) = W1 := ⟨_, rfl⟩
        rw [hW1] at hnx hi2 hb2
        have HI2 := hid hi2
        have HB2 := hid hb2
        have HXL := hid hxl
        have hback : ((x.toNat : Int)).toNat.toUInt8 = x := by simp
        have hcon := Lib.contains_iff_indexByte cs.data.toList x
        have e1 : cs.data.toList.contains x = isK x := by rw [← HCS.out]; exact signs_k x
        rw [e1] at hcon
        cases hop : isK x with
        | true =>
          rw [hop] at hcon
          have hge : (0 : Int) ≤ Lib.indexByte cs.data.toList x := of_decide_eq_true hcon.symm
          have HF : Hid (FirstK s.data.toList (i : Int)) := Or.inr ⟨i, rfl, hil, by rw [hxl]; exact hop, HN.out⟩
          clear hcon e1 hxl hx hW1 hi2 hb2 hdec hop
          go_wp2_with (go_at_call 107; refine (Tryz.strings_IndexRune_ascii _ _ _ (by omega) (by omega)).mono ?_; rintro e w' ⟨rfl, hw⟩; rw [hw, hback])
          go_ret
          exact ⟨⟨_, rfl, HF.out⟩, HB2.out⟩
        | false =>
          rw [hop] at hcon
          have hge : ¬ ((0 : Int) ≤ Lib.indexByte cs.data.toList x) := of_decide_eq_false hcon.symm
          have HF : Hid (∀ c ∈ s.data.toList.take (i + 1), isK c = false) := fun c hc => by
            rw [List.take_succ_eq_append_getElem hil, List.mem_append, List.mem_singleton] at hc
            rcases hc with hc | hc
            · exact HN.out c hc
            · rw [hc, hxl]; exact hop
          clear hcon e1 hxl hx hW1 hi2 hb2 hdec hop
          go_wp2_with (go_at_call 107; refine (Tryz.strings_IndexRune_ascii _ _ _ (by omega) (by omega)).mono ?_; rintro e w' ⟨rfl, hw⟩; rw [hw, hback])
          go_roundg (s.size - (i + 1))
          case measure => omega
          case rel => exact ⟨i + 1, by omega, by omega, HI2, HB2, HF⟩
      · obtain ⟨r1, r2, r3, r4, r5⟩ := dec_high s i hlt (by rw [hx]; omega)
        obtain ⟨hi2, hb2⟩ := it_step HI.out HB.out (i + (Utf8.decode s i).2)
        obtain ⟨r, hr⟩ : ∃ r, (Utf8.decode s i).1 = r := ⟨_, rfl⟩
        obtain ⟨k, hk⟩ : ∃ k, (Utf8.decode s i).2 = k := ⟨_, rfl⟩
        rw [hr, hk] at hnx
        rw [hr] at r1 r2
        rw [hk] at r3 r4 r5 hi2 hb2
        obtain ⟨W1, hW1⟩ : ∃ W1, setBlock wr w.heap.size (.stringIter s (i + k)) = W1 := ⟨_, rfl⟩
        rw [hW1] at hnx hi2 hb2
        have HF : Hid (∀ c ∈ s.data.toList.take (i + k), isK c = false) := fun c hc => by
          obtain ⟨j, hj, rfl⟩ := List.mem_iff_getElem.1 hc
          rw [List.length_take] at hj
          rw [List.getElem_take]
          by_cases hji : j < i
          · exact HN.out _ (List.mem_iff_getElem.2 ⟨j, by rw [List.length_take]; omega, by rw [List.getElem_take]⟩)
          · have hjs : j < s.size := by have := hj; simp at this; omega
            have h128 := r5 j (by omega) (by omega)
            rw [get_at s j hjs] at h128
            have e : s.data.toList[j]'(by simpa using hjs) = s[j]'hjs := rfl
            rw [e]
            cases hop : isK (s[j]'hjs) with
            | false => rfl
            | true => rcases kind_sign hop with h | h | h | h | h <;> (rw [h] at h128; exact absurd h128 (by decide))
        have HIR : Hid (Calls Tryz.prog 107 #[.string cs, .int .i32 r] W1 fun e w' => e = .returned (.int .i64 (-1)) ∧ Grown W1 w') := by
          show Calls _ _ _ _ _
          rw [← HCS.out]
          exact ixrune_none r (by omega) (by omega) W1
        have HI2 := hid hi2
        have HB2 := hid hb2
        clear hxl hx hW1 hi2 hb2 hr hk r5
        go_wp2_with (go_at_call 107; refine HIR.out.mono ?_; rintro e w2 ⟨rfl, hg2⟩)
        go_roundg (s.size - (i + k))
        case measure => omega
        case rel => exact ⟨i + k, by omega, by omega, (hg2.below.block _ (Array.getElem?_eq_some_iff.1 HI2.out).1).trans HI2.out, bel_then HB2.out HB2.out.size hg2.below, HF⟩
    · have hi' : i = s.size := by omega
      have hnx := fun ty => run_next_stop wr w.heap.size s i ty HI.out hlt
      have HF : Hid (FirstK s.data.toList (-1)) := Or.inl ⟨rfl, fun c hc => HN.out c (by rw [List.take_of_length_le (by simp; omega)]; exact hc)⟩
      go_wp2_with fail
      go_ret
      exact ⟨⟨_, rfl, HF.out⟩, HB.out⟩

theorem ixany_any (s : ByteArray) (w : World) (hs : s.size ≤ 4294967000) :
    Calls Tryz.prog 76 #[.string s, .string ⟨#[58, 43, 45, 126, 61]⟩] w fun e w' => (∃ k, e = .returned (.int .i64 k) ∧ FirstK s.data.toList k) ∧ Below w.heap.size w w' := by
  by_cases h8 : s.size ≤ 8
  · exact ixany_short s w h8
  · refine (Tryz.strings_IndexAny_long (fun _ => by kernel_rfl) s ⟨#[58, 43, 45, 126, 61]⟩ w (by decide) (by omega) (by omega) (by decide) (fun j b hb => signs_low b (List.mem_of_getElem? hb))).mono ?_
    rintro e w' ⟨rfl, rfl⟩
    exact ⟨⟨_, rfl, indexAny_first _⟩, ((Below.refl _ _).alloc (Nat.le_refl _) _).alloc (by simp) _⟩

end Go.Proofs.YtelcongbnmfegaaGreatDoor
