/-
  SnapsIDs' walk (stage 10).
-/
import Derived.Test.YtkiandchgbldbaaQid
import Derived.Deep.CutRange
namespace Go.Proofs.Ytkiandchgbldbaa
open Go.RowKit

/-- Rows of bytes that came in. -/
def KY8 : Kind Int := ⟨5, 1, fun x => [.int .u8 x], fun _ => rfl, by decide, fun x u hu => by simp at hu; subst hu; rfl⟩

theorem ks_at {w : World} {b off : Nat} {d : List Int} (h : KS.At w b off d) (i : Nat) (hi : i < d.length) : w.cell? ⟨b, off + i, none⟩ = some (.int .u64 d[i]) := by
  have := h i hi 0 (.int .u64 d[i]) rfl
  have e : off + i * KS.k + 0 = off + i := by show off + i * 1 + 0 = _; omega
  rwa [e] at this
theorem ky8_at {w : World} {b off : Nat} {d : List Int} (h : KY8.At w b off d) (i : Nat) (hi : i < d.length) : w.cell? ⟨b, off + i, none⟩ = some (.int .u8 d[i]) := by
  have := h i hi 0 (.int .u8 d[i]) rfl
  have e : off + i * KY8.k + 0 = off + i := by show off + i * 1 + 0 = _; omega
  rwa [e] at this

/-- The state at a round's beginning. -/
def IdS (n0 g : Nat) (st : List Int) (os : Sn) (v : Value) (W2 W : World) : Prop := Sid KF n0 g os 0 (opQ os) v W ∧ FromQ st os ∧ Below n0 W2 W

set_option maxHeartbeats 4000000 in
set_option maxRecDepth 100000 in
theorem ids10_any (v0 v1 : Value) (st cls : List Int) (w : World) (hv0 : KS.Is w v0 st) (hv1 : KY8.Is w v1 cls) (hst : ∀ x ∈ st, 0 ≤ x ∧ x ≤ 18446744073709551615) (hcl : ∀ x ∈ cls, 0 ≤ x ∧ x ≤ 255) (hl : st.length ≤ 17592186044416) :
    Calls Try.prog 6 #[v0, v1] w fun e w' => e = .returned (.bool true) ∧ Below w.heap.size w w' := by
  have HF := hid (fixed10_any w)
  obtain ⟨j0, hj0, hy0, hy1, hy2⟩ := info_parts Try.infoBoolq
  have HJ0 := hid hj0
  obtain ⟨p, cap, rfl, hd⟩ := hv0
  obtain ⟨p1, cap1, rfl, hd1⟩ := hv1
  have HD := hid hd
  have HD1 := hid hd1
  have HX := hid hst
  have HX1 := hid hcl
  clear hst hd hcl hd1 hj0
  go_enter Try.func6, Try.ntmps6
  go_wp2_with fail
  refine HF.out.mono ?_
  rintro e w1 ⟨rfl, hb1⟩
  have HN := hid (one_new w1)
  have HB1 := hid hb1
  clear hb1 HF
  go_wp2_with fail
  refine HN.out.mono ?_
  rintro e W2 ⟨g, rfl, hp2⟩
  obtain ⟨n0, hn0⟩ : ∃ n0, w1.heap.size = n0 := ⟨_, rfl⟩
  have hb2 : Below n0 w1 W2 := hp2.below (by omega) fun k hk => hk.elim
  have hws : w.heap.size ≤ n0 := by rw [← hn0]; exact HB1.out.size
  have HFS : Hid (IdS n0 g st [] (.slice none 0 0) W2 W2) := by
    rw [hn0] at hp2
    obtain ⟨C, h1, h2, _⟩ := hp2.rebase
    exact ⟨⟨by have := hb2.size; omega, C, h1, h2, Kind.own_nil _ _ _, fun k hk => by cases hk⟩, fun j s hj => by simp at hj, Below.refl _ _⟩
  have HB2 : Hid (Below w.heap.size w W2) := HB1.out.trans (hb2.mono hws)
  clear hp2 hb2 HN HB1 hn0
  go_wp2_with fail
  go_loopg [6, 22] st.length (fun gg vv vi wr => ∃ (os : Sn) (pi : Option Addr) (ci : Nat), vv = .slice pi os.length ci ∧ vi = .int .i64 os.length ∧ os.length ≤ st.length ∧ st.length - os.length ≤ gg ∧ Hid (IdS n0 g st os (.slice pi os.length ci) W2 wr))
  case atStart => exact ⟨[], none, 0, rfl, rfl, by simp, by simp, HFS.out⟩
  case round =>
    clear HFS
    obtain ⟨os, pi, ci, rfl, rfl, hi, hgk, HI⟩ := hrel
    have hbw : Below w.heap.size w wr := HB2.out.trans (HI.out.2.2.mono hws)
    have h40 : os.length < 40000000000000 := by omega
    by_cases hlt : os.length < st.length
    · have hltz : (os.length : Int) < (st.length : Int) := by omega
      have hiz : (0 : Int) ≤ (os.length : Int) := by omega
      obtain ⟨b1, o1, rfl, k1⟩ : ∃ b off, p = some ⟨b, off, none⟩ ∧ KS.At w b off st := by
        rcases HD.out with h | h
        · rw [h] at hlt; simp at hlt
        · exact h
      have y0 := ks_at (Kind.at_kept k1 hbw) os.length hlt
      have hxs := HX.out _ (List.getElem_mem hlt)
      have HS0 : Hid (st[os.length]? = some st[os.length]) := List.getElem?_eq_getElem hlt
      have HK1 := hid k1
      generalize st[os.length] = xs at *
      obtain ⟨⟨hnw, C, tw, hC, ho, hdv⟩, hfr, hbW⟩ := HI.out
      have hop : openQ os 0 xs = (((os.length : Int) + 1, 0), os ++ [some xs]) := by unfold openQ; rw [if_neg (by omega)]
      have H1 := hid (one_open tw xs h40)
      rw [hop] at H1
      have HSID : Hid (∀ w', OneV n0 wr C g (os ++ [some xs]) 0 w' → Sid KF n0 g (os ++ [some xs]) 0 (opQ os) (.slice pi os.length ci) w' ∧ Below n0 W2 w') := fun w' t => ⟨Sid.of t hnw ho hdv, hbW.trans (t.below hnw fun k hk => (hC k hk).1)⟩
      have HFR := hid (from_open hfr HS0.out)
      clear HI tw hC ho hdv hfr hbW hop hbw k1
      go_wp2_with fail
      refine H1.out.mono ?_
      rintro e w3 ⟨rfl, t3⟩
      have HS3 := hid (HSID.out w3 t3)
      clear t3 H1 HSID hnw
      obtain ⟨w4, hw4⟩ : ∃ w4, w3.alloc (.cells #[.bool true] 4) = w4 := ⟨_, rfl⟩
      have HR4 : Hid (w4.ownsRow n0 4 1 (.slice pi os.length ci) os.length (KF.cells (opQ os))) := by
        have q := Kind.own_on HS3.out.1.2.choose_spec.2.2.1 (w' := w4) (by rw [← hw4]; exact (Below.refl _ _).alloc (Nat.le_refl _) _)
        unfold Kind.Own at q
        rw [opQ_len] at q
        exact q
      have HN4 : Hid (∀ j u, (KF.cells [true])[j]? = some u → w4.cell? ((⟨w3.heap.size, 0, none⟩ : Addr).add j) = some u) := by rw [← hw4]; exact KF.news w3 _
      have HZ4 : Hid (w3.heap.size ≤ w4.heap.size ∧ n0 ≤ w4.heap.size) := by
        have e : w4.heap.size = w3.heap.size + 1 := by rw [← hw4, World.size_alloc]
        have := HS3.out.1.1
        exact ⟨by omega, by omega⟩
      have HW4 := hid hw4
      go_upto_if 47 with (at_builtin; refine wpList_append_lies _ rfl _ _ 28 rfl n0 4 j0 (.bool false) 1 1 Try.underlying28 HJ0.out hy0 hy1 hy2 rfl (by decide) (.slice pi os.length ci) _ _ rfl HR4.out _ 1 1 (KF.cells [true]) rfl rfl HN4.out (KF.cells_ones _) (by decide) (by unfold maxLen; omega) (by omega) HZ4.out.2 _ rfl ?_; intro g3 c3 w5 hown3 hg3 hat3 _; have HP := Sid.push HS3.out.1 (d' := opQ os ++ [true]) (v' := .slice (some ⟨g3, 0, none⟩) (os.length + 1) c3) (w2 := w5) (o := .cells #[.bool true] 4) (by rw [HW4.out]; exact hg3) (by unfold Kind.Own; rw [Kind.cells_append, List.length_append, opQ_len]; exact hown3) (hat3.imp Eq.symm fun e => ⟨_, by rw [e]; rfl, HZ4.out.1⟩); have HPP := hid HP; clear HP hown3 hg3 hat3)
      have HI5 : Hid (IdS n0 g st (os ++ [some xs]) (.slice (some ⟨g3, 0, none⟩) (os.length + 1) c3) W2 w5) := ⟨by rw [opQ_snoc]; exact HPP.out.1, HFR.out, HS3.out.2.trans HPP.out.2⟩
      have HE2 : Hid ((os ++ [some xs]).length = os.length + 1) := by show _ = _; rw [List.length_append]; rfl
      clear HPP HFR HS3 HR4 HN4 HZ4 HW4 hw4 HS0
      generalize os ++ [some xs] = os2 at *
      go_cut [11, 22] from 22 to 141 (fun p11 p22 wx => p22 = .int .i64 os.length ∧ Hid (∃ os3 : Sn, os3.length = os.length + 1 ∧ IdS n0 g st os3 (.slice (some ⟨g3, 0, none⟩) (os.length + 1) c3) W2 wx))
      case first =>
        by_cases hcn : os.length < cls.length
        · have hcz : (os.length : Int) < (cls.length : Int) := by omega
          obtain ⟨⟨hn5, C5, t5, hC5, ho5, hd5⟩, hfr5, hbW5⟩ := HI5.out
          have hbw5 : Below w.heap.size w w5 := HB2.out.trans (hbW5.mono hws)
          obtain ⟨b2, o2, rfl, k2⟩ : ∃ b off, p1 = some ⟨b, off, none⟩ ∧ KY8.At w b off cls := by
            rcases HD1.out with h | h
            · rw [h] at hcn; simp at hcn
            · exact h
          have y5 := ky8_at (Kind.at_kept k2 hbw5) os.length hcn
          have hxc := HX1.out _ (List.getElem_mem hcn)
          generalize cls[os.length] = c at *
          have HXC := hid hxc
          have hwc2 : wrap64 c = c := by simp [wrap64]; omega
          have H6 := hid (one_close t5 c (fit_q (by omega) (by omega)))
          have HS6 : Hid (∀ w', OneV n0 w5 C5 g (closeQ os2 c) 0 w' → Sid KF n0 g (closeQ os2 c) 0 (opQ os2) (.slice (some ⟨g3, 0, none⟩) (os.length + 1) c3) w' ∧ Below n0 W2 w') := fun w' t => ⟨Sid.of t hn5 ho5 hd5, hbW5.trans (t.below hn5 fun k hk => (hC5 k hk).1)⟩
          have HF6 := hid (from_close hfr5 c)
          clear HI5 t5 hC5 ho5 hd5 hfr5 hbW5 hbw5 k2 hxc
          go_upto_region 14 with fail
          rw [hwc2]
          clear hwc2
          go_wp2_with fail
          refine H6.out.mono ?_
          rintro e w6 ⟨rfl, t6⟩
          have hs6 := HS6.out w6 t6
          clear t6 H6 HS6
          by_cases h1 : 1 ≤ c
          · by_cases h2 : c ≤ (os.length : Int) + 1
            · obtain ⟨j, hjc⟩ : ∃ j : Nat, c = (j : Int) + 1 := ⟨(c - 1).toNat, by omega⟩
              have hj2 : j < os2.length := by have := HE2.out; omega
              have HG : Hid ((opQ os2)[j]'(by rw [opQ_len]; exact hj2) = (os2[j]).isSome) := opQ_get os2 j _
              obtain ⟨bb, hbb, y6, z6⟩ := kf_rd hs6.1.2.choose_spec.2.2.1 j (by rw [opQ_len]; exact hj2)
              injection hbb with hbb
              injection hbb with hbb
              subst hbb
              rw [HG.out] at y6
              obtain ⟨hs7, hb7⟩ := Sid.put (K := KF) rfl hs6.1 (by rw [opQ_len]; exact HE2.out) j (by rw [opQ_len]; exact hj2) false (.bool false) rfl
              have HR : Hid (∃ os3 : Sn, os3.length = os.length + 1 ∧ IdS n0 g st os3 (.slice (some ⟨g3, 0, none⟩) (os.length + 1) c3) W2 (w6.setCell ⟨g3, j, none⟩ (.bool false))) := ⟨closeQ os2 c, by rw [closeQ_len]; exact HE2.out, by rw [hjc, opQ_close, ← hjc]; exact hs7, HF6.out, hs6.2.trans hb7⟩
              have hac : atQ os2 c = os2[j] := by rw [hjc]; exact atQ_in hj2
              rw [hac]
              have hj0 : (0 : Int) ≤ (j : Int) := by omega
              have hcw : IntKind.i64.wrap (c - 1) = (j : Int) := by rw [IntKind.wrap_i64]; have := HXC.out; omega
              have hcw2 : wrap64 (c - 1) = (j : Int) := by have := HXC.out; rw [hjc]; simp [wrap64]; omega
              clear HF6 hs6 hs7 hb7 HG hac
              generalize (os2[j]).isSome = B at *
              obtain ⟨M, hM⟩ : ∃ M, os.length + 1 = M := ⟨_, rfl⟩
              rw [hM] at HR ⊢
              have hjM : (j : Int) < (M : Int) := by omega
              have hcM : c ≤ (M : Int) := by omega
              have HM := hid hM
              clear hj2 hM h2 hjc
              cases B
              · go_wp2_with fail
                have hM := HM.out
                subst hM
                go_meet
                case rel => exact ⟨rfl, HR.out⟩
              · go_wp2_with fail
                have hM := HM.out
                subst hM
                go_meet
                case rel => exact ⟨rfl, HR.out⟩
            · have hat : atQ os2 c = none := atQ_le (by have := HE2.out; omega)
              have HR : Hid (∃ os3 : Sn, os3.length = os.length + 1 ∧ IdS n0 g st os3 (.slice (some ⟨g3, 0, none⟩) (os.length + 1) c3) W2 w6) := by
                rw [closeQ_same hat] at hs6 HF6
                exact ⟨os2, HE2.out, hs6.1, HF6.out, hs6.2⟩
              rw [hat]
              dsimp only [Option.isSome]
              clear hs6 HF6 hat
              go_wp2_with fail
              go_meet
              case rel => exact ⟨rfl, HR.out⟩
          · have hat : atQ os2 c = none := by unfold atQ; rw [if_neg h1]
            have HR : Hid (∃ os3 : Sn, os3.length = os.length + 1 ∧ IdS n0 g st os3 (.slice (some ⟨g3, 0, none⟩) (os.length + 1) c3) W2 w6) := by
              rw [closeQ_same hat] at hs6 HF6
              exact ⟨os2, HE2.out, hs6.1, HF6.out, hs6.2⟩
            rw [hat]
            dsimp only [Option.isSome]
            clear hs6 HF6 hat
            go_wp2_with fail
            go_meet
            case rel => exact ⟨rfl, HR.out⟩
        · have hcz : ¬ (os.length : Int) < (cls.length : Int) := by omega
          have HR : Hid (∃ os3 : Sn, os3.length = os.length + 1 ∧ IdS n0 g st os3 (.slice (some ⟨g3, 0, none⟩) (os.length + 1) c3) W2 w5) := ⟨os2, HE2.out, HI5.out⟩
          go_wp2_with fail
          go_meet
          case rel => exact ⟨rfl, HR.out⟩
      case rest =>
        obtain ⟨rfl, HRR⟩ := hcut
        obtain ⟨os3, he3, hI3⟩ := HRR.out
        obtain ⟨⟨hn6, C6, t6, hC6, ho6, hd6⟩, hfr6, hbW6⟩ := hI3
        have HT6 := hid t6
        have HO6 := hid ho6
        have HD6 := hid hd6
        have HF6 := hid hfr6
        have HCL : Hid (∀ k, C6 k → n0 ≤ k) := fun k hk => (hC6 k hk).1
        have HBW := hid hbW6
        have HE3 := hid he3
        obtain ⟨M, hM⟩ : ∃ M, os.length + 1 = M := ⟨_, rfl⟩
        have HM := hid hM
        have hMs : M ≤ st.length := by omega
        have hM4 : M < 40000000000000 := by omega
        have hos3 : os3.length = M := by omega
        have HOS3 := hid hos3
        obtain ⟨W6, hW6⟩ : ∃ W6, W6 = wc := ⟨_, rfl⟩
        subst hW6
        rw [hM] at HO6 HD6 ⊢
        clear HRR t6 hC6 ho6 hd6 hfr6 hbW6 he3 hM HI5 HE2 hos3
        go_wp2_with fail
        go_loopg [12, 13, 86] M (fun gg vl vn vj wq => ∃ (j n : Nat) (L : Int), vl = .int .u64 L ∧ vn = .int .i64 n ∧ vj = .int .i64 j ∧ j ≤ M ∧ M - j ≤ gg ∧ n ≤ j ∧ Hid (L = leastQ (os3.take j) 18446744073709551615 ∧ n = countQ (os3.take j) ∧ OneV n0 W6 C6 g os3 0 wq))
        case atStart => exact ⟨0, 0, 18446744073709551615, rfl, rfl, rfl, by omega, by omega, by omega, rfl, rfl, HT6.out⟩
        case round =>
          obtain ⟨j, n, L, rfl, rfl, rfl, hj, hgj, hnj, HJ⟩ := hrel
          by_cases hjlt : j < M
          · have hjl : (j : Int) < (M : Int) := by omega
            have hjs : (j : Int) < (st.length : Int) := by omega
            have hj0 : (0 : Int) ≤ (j : Int) := by omega
            have hj3 : j < os3.length := by have := HOS3.out; omega
            have HCELL : Hid (∀ w', OneV n0 W6 C6 g os3 0 w' → w'.cell? ⟨g3, j, none⟩ = some (.bool (os3[j]).isSome) ∧ w'.cell? ⟨b1, o1 + j, none⟩ = some (.int .u64 (st[j]'(by omega)))) := fun w' t => by
              have hrq : KF.Own n0 w' (.slice (some ⟨g3, 0, none⟩) M c3) (opQ os3) := by
                obtain ⟨_, _, _, _, f9⟩ := OneV.rebase t
                exact f9.row HO6.out HD6.out
              obtain ⟨bi, hbi, y3, _⟩ := kf_rd hrq j (by rw [opQ_len]; exact hj3)
              injection hbi with hbi
              injection hbi with hbi
              subst hbi
              rw [opQ_get] at y3
              have hbJ : Below w.heap.size w w' := (HB2.out.trans (HBW.out.mono hws)).trans ((t.below hn6 HCL.out).mono hws)
              exact ⟨y3, ks_at (Kind.at_kept HK1.out hbJ) j (by omega)⟩
            have H1 := hid (one_stamp HJ.out.2.2 ((j : Int) + 1) (fit_q (by omega) (by omega)))
            rw [atQ_in hj3] at H1
            have HC1 := hid (count_take hj3)
            have HL1 := hid (least_take hj3 18446744073709551615)
            rw [← HJ.out.1] at HL1
            rw [← HJ.out.2.1] at HC1
            have HST : Hid (∀ s, os3[j] = some s → st[j]? = some s) := fun s hs => HF6.out j s (by rw [List.getElem?_eq_getElem hj3, hs])
            have HSJ : Hid (st[j]? = some (st[j]'(by omega))) := List.getElem?_eq_getElem (by omega)
            generalize st[j]'(by omega) = sj at *
            clear HJ
            generalize os3[j] = a at *
            clear hj3
            cases a with
            | none =>
              go_wp2_with fail
              refine H1.out.mono ?_
              rintro e r1 ⟨rfl, t1⟩
              obtain ⟨y3, y4⟩ := HCELL.out r1 t1
              have HT1 := hid t1
              clear t1 H1 HCELL
              dsimp only [Option.getD, Option.isSome] at y3 ⊢
              go_wp2_with fail
              go_roundg (M - (j + 1))
              case measure => omega
              exact ⟨j + 1, n, L, rfl, rfl, by go_num, by omega, by omega, by omega, by rw [HL1.out]; rfl, by rw [HC1.out]; rfl, HT1.out⟩
            | some s =>
              obtain rfl : sj = s := by
                have h1 := HST.out s rfl
                rw [HSJ.out] at h1
                injection h1
              go_wp2_with fail
              refine H1.out.mono ?_
              rintro e r1 ⟨rfl, t1⟩
              obtain ⟨y3, y4⟩ := HCELL.out r1 t1
              have HT1 := hid t1
              clear t1 H1 HCELL HST HSJ
              dsimp only [Option.getD, Option.isSome] at y3 ⊢
              go_wp2_with fail
              go_roundg (M - (j + 1))
              case measure => omega
              exact ⟨j + 1, n + 1, min L sj, rfl, by go_num, by go_num, by omega, by omega, by omega, by rw [HL1.out, minQ_some]; split <;> omega, by rw [HC1.out]; rfl, HT1.out⟩
          · have hjz : ¬ (j : Int) < (M : Int) := by omega
            have HL : Hid (L = leastQ os3 18446744073709551615) := by
              have := HJ.out.1
              rw [List.take_of_length_le (by have := HOS3.out; omega)] at this
              exact this
            have HNN : Hid (n = countQ os3) := by
              have := HJ.out.2.1
              rw [List.take_of_length_le (by have := HOS3.out; omega)] at this
              exact this
            have H1 := hid (one_least HJ.out.2.2 18446744073709551615 (by have := HOS3.out; omega))
            rw [← HL.out] at H1
            clear HJ HL
            go_wp2_with fail
            refine H1.out.mono ?_
            rintro e r1 ⟨rfl, t1⟩
            have H2 := hid (one_count t1)
            rw [← HNN.out] at H2
            clear t1 H1
            go_wp2_with fail
            refine H2.out.mono ?_
            rintro e r2 ⟨rfl, t2⟩
            have HZ : Hid (IdS n0 g st os3 (.slice (some ⟨g3, 0, none⟩) M c3) W2 r2) := ⟨Sid.of t2 hn6 HO6.out HD6.out, HF6.out, HBW.out.trans (t2.below hn6 HCL.out)⟩
            clear t2 H2
            go_wp2_with fail
            go_roundg (st.length - M)
            case measure => have := HM.out; omega
            have hz := HZ.out
            rw [← HOS3.out] at hz
            exact ⟨os3, _, _, by rw [HOS3.out], by have := HM.out; have := HOS3.out; go_num, by have := HOS3.out; omega, by have := HOS3.out; omega, hz⟩
    · have hltz : ¬ (os.length : Int) < (st.length : Int) := by omega
      obtain ⟨⟨hnw, C, tw, hC, ho, hdv⟩, hfr, hbW⟩ := HI.out
      have H1 := hid (one_floor tw)
      have HWE : Hid (∀ w', OneV n0 wr C g os 0 w' → Below w.heap.size w w') := fun w' q => hbw.trans ((q.below hnw fun k hk => (hC k hk).1).mono hws)
      clear HI tw hC ho hdv hfr hbW hbw
      go_wp2_with fail
      refine H1.out.mono ?_
      rintro e r1 ⟨rfl, t1⟩
      have HE := hid (HWE.out r1 t1)
      clear t1 H1
      go_wp2_with fail
      go_ret
      exact ⟨rfl, HE.out⟩

end Go.Proofs.Ytkiandchgbldbaa
