/-
  SnapsFloor's walk (stage 10).
-/
import Derived.Test.YtkiandchgbldbaaQfl
namespace Go.Proofs.Ytkiandchgbldbaa
open Go.RowKit

set_option maxHeartbeats 16000000 in
set_option maxRecDepth 100000 in
theorem floor10_any (v : Value) (ops : List Oq) (now : Int) (w : World) (hv : KOq.Is w v ops) (hx : ∀ x ∈ ops, MU.fit x.2.1 ∧ 0 ≤ x.2.2 ∧ x.2.2 ≤ 18446744073709551615) (hl : ops.length ≤ 16000000000000) :
    Calls Try.prog 4 #[v, .int .u64 now] w fun e w' => e = .returned (.bool true) ∧ Below w.heap.size w w' := by
  have HF := hid (fixed10_any w)
  obtain ⟨i0, hi0, hz0, hz1, hz2⟩ := info_parts Try.infoIntq
  have HI0 := hid hi0
  obtain ⟨p, cap, rfl, hd⟩ := hv
  have HD := hid hd
  have HX := hid hx
  clear hx hd hi0
  go_enter Try.func4, Try.ntmps4
  go_wp2_with fail
  refine HF.out.mono ?_
  rintro e w1 ⟨rfl, hb1⟩
  have HN := hid (one_new w1)
  have HB1 := hid hb1
  clear hb1 HF
  go_wp2_with fail
  refine HN.out.mono ?_
  rintro e W2 ⟨g, rfl, hp2⟩
  obtain ⟨n0, hn0⟩ : ∃ n0, w1.heap.size = n0 := ⟨_, rfl⟩
  have hb2 : Below n0 w1 W2 := hp2.below (by omega) fun k hk => hk.elim
  have hws : w.heap.size ≤ n0 := by rw [← hn0]; exact HB1.out.size
  have HFS : Hid (FlS n0 g [] 0 (.slice none 0 0) W2) := by
    rw [hn0] at hp2
    obtain ⟨C, h1, h2, _⟩ := hp2.rebase
    exact ⟨by have := hb2.size; omega, okQ_nil, C, h1, h2, Kind.own_nil _ _ _, fun k hk => by cases hk⟩
  have HB2 : Hid (Below w.heap.size w W2) := HB1.out.trans (hb2.mono hws)
  clear hp2 hb2 HN HB1 hn0
  go_wp2_with fail
  go_loopg [6, 24] ops.length (fun gg vv vi wr => ∃ (i : Nat) (os : Sn) (fl : Int) (pi : Option Addr) (ci : Nat), vv = .slice pi os.length ci ∧ vi = .int .i64 i ∧ i ≤ ops.length ∧ ops.length - i ≤ gg ∧ Hid (FlS n0 g os fl (.slice pi os.length ci) wr ∧ os.length ≤ i ∧ Below n0 W2 wr))
  case atStart => exact ⟨0, [], 0, none, 0, rfl, rfl, by omega, by omega, HFS.out, Nat.le_refl _, Below.refl _ _⟩
  case round =>
    clear HFS
    obtain ⟨i, os, fl, pi, ci, rfl, rfl, hi, hgk, HI⟩ := hrel
    have hbw : Below w.heap.size w wr := HB2.out.trans (HI.out.2.2.mono hws)
    have hoi : os.length ≤ i := HI.out.2.1
    have h40 : os.length < 40000000000000 := by omega
    by_cases hlt : i < ops.length
    · have hltz : (i : Int) < (ops.length : Int) := by omega
      have hiz : (0 : Int) ≤ i := by omega
      obtain ⟨b1, o1, rfl, k1⟩ : ∃ b off, p = some ⟨b, off, none⟩ ∧ KOq.At w b off ops := by
        rcases HD.out with h | h
        · rw [h] at hlt; simp at hlt
        · exact h
      obtain ⟨y0, y1, y2⟩ := koq_at (Kind.at_kept k1 hbw) i hlt
      have hxi0 := HX.out _ (List.getElem_mem hlt)
      generalize ops[i] = x at *
      obtain ⟨xk, xi, xs⟩ := x
      obtain ⟨hxi1, hxs⟩ := hxi0
      have hxi : MU.fit xi := hxi1
      dsimp only at hxs y0 y1 y2
      obtain ⟨hnw, hok, C, tw, hC, ho, hdv⟩ := HI.out.1
      obtain ⟨V, hV⟩ : ∃ V, wr.alloc (.cells #[.int .i64 xk, .int .i64 xi, .int .u64 xs] 33) = V := ⟨_, rfl⟩
      have hVo : V.heap[wr.heap.size]? = some (.cells #[.int .i64 xk, .int .i64 xi, .int .u64 xs] 33 (0, 0)) := by rw [← hV]; exact heap_alloc_new wr _
      have hBA : Below wr.heap.size wr V := by rw [← hV]; exact (Below.refl _ _).alloc (Nat.le_refl _) _
      have tV : OneV n0 V C g os fl V := by rw [← hV]; exact tw.alloc _
      have hnV : n0 ≤ V.heap.size := Nat.le_trans hnw hBA.size
      have HOV : Hid (KJ.Own n0 V (.slice pi os.length ci) (idsQ os.length)) := Kind.own_on ho hBA
      have HD2 := hid hdv
      have HCL : Hid (∀ k, C k → n0 ≤ k) := fun k hk => (hC k hk).1
      have HBV : Hid (Below n0 W2 V) := HI.out.2.2.trans (hBA.mono hnw)
      have HOK : Hid (OkQ os fl) := hok
      have HT : Hid (∀ os1 fl1 w', OneV n0 V C g os1 fl1 w' → w'.cell? ⟨wr.heap.size, 0, none⟩ = some (.int .i64 xk) ∧ w'.cell? ⟨wr.heap.size, 1, none⟩ = some (.int .i64 xi) ∧ w'.cell? ⟨wr.heap.size, 2, none⟩ = some (.int .u64 xs)) := fun os1 fl1 w' q => by
        have hNC : ¬ C wr.heap.size := fun hc => by have := (hC _ hc).2; omega
        exact ⟨q.cell (by rw [Lib.cell_of_heap hVo]; rfl) hNC, q.cell (by rw [Lib.cell_of_heap hVo]; rfl) hNC, q.cell (by rw [Lib.cell_of_heap hVo]; rfl) hNC⟩
      have HFL := hid (one_floor tV)
      have HXI := hid hxi
      have HXS := hid hxs
      clear HI hok tw hC ho hdv hBA tV hVo hbw k1 hnw hxi1 hxi hxs
      go_wp2_with fail
      refine HFL.out.mono ?_
      rintro e w8 ⟨rfl, t8⟩
      obtain ⟨d0, d1, d2⟩ := HT.out _ _ w8 t8
      have hxi := HXI.out
      have hxs := HXS.out
      clear HFL
      by_cases e1 : xk = 1
      · subst e1
        by_cases hlt2 : xs < fl
        · have hop : openQ os fl xs = ((0, 8), os) := by unfold openQ; rw [if_pos hlt2]
          have H9 := hid (one_open t8 xs h40)
          rw [hop] at H9
          have HZ0 : Hid (∀ r3, OneV n0 V C g os fl r3 → FlS n0 g os fl (.slice pi os.length ci) r3 ∧ os.length ≤ i + 1 ∧ Below n0 W2 r3) := fun r3 t => ⟨FlS.of t hnV HOK.out HOV.out rfl HD2.out, by omega, HBV.out.trans (t.below hnV HCL.out)⟩
          clear hop t8
          go_wp2_with fail
          refine H9.out.mono ?_
          rintro e w9 ⟨rfl, t20⟩
          obtain ⟨_, _, f2⟩ := HT.out _ _ w9 t20
          clear H9
          have hLL : fl ≤ leastQ os 18446744073709551615 := least_ok HOK.out HOK.out.1.2
          have L40 : os.length < 40000000000000 := by omega
          have H20 := hid (one_floor t20)
          clear t20
          go_wp2_with fail
          refine H20.out.mono ?_
          rintro e r1 ⟨rfl, t21⟩
          have H21 := hid (one_least t21 18446744073709551615 L40)
          clear t21 H20 L40
          go_wp2_with fail
          refine H21.out.mono ?_
          rintro e r2 ⟨rfl, t22⟩
          have H22 := hid (one_floor t22)
          clear t22 H21
          generalize leastQ os 18446744073709551615 = LL at *
          go_wp2_with fail
          refine H22.out.mono ?_
          rintro e r3 ⟨rfl, t23⟩
          have HZ := hid (HZ0.out r3 t23)
          clear t23 H22 HZ0
          go_wp2_with fail
          go_roundg (ops.length - (i + 1))
          case measure => omega
          exact ⟨i + 1, os, fl, pi, ci, by rfl, by go_num, by omega, by omega, HZ.out⟩
        · have hop : openQ os fl xs = (((os.length : Int) + 1, 0), os ++ [some xs]) := by unfold openQ; rw [if_neg hlt2]
          have H9 := hid (one_open t8 xs h40)
          have hok2 := okQ_open (x := xs) HOK.out hxs
          rw [hop] at H9 hok2
          have HOK2 : Hid (OkQ (os ++ [some xs]) fl) := hok2
          clear hop t8 hok2
          go_wp2_with fail
          refine H9.out.mono ?_
          rintro e w9 ⟨rfl, t9⟩
          have hr9 : KJ.Own n0 w9 (.slice pi os.length ci) (idsQ os.length) := by
            obtain ⟨_, _, _, _, f9⟩ := OneV.rebase t9
            exact f9.row HOV.out HD2.out
          have HR9 := hid hr9
          obtain ⟨_, _, f2⟩ := HT.out _ _ w9 t9
          have HT9 := hid t9
          have hn9 : n0 ≤ w9.heap.size := Nat.le_trans hnV (t9.below hnV HCL.out).size
          obtain ⟨w10, hw10⟩ : ∃ w10, w9.alloc (.cells #[.int .i64 ((os.length : Int) + 1)] 3) = w10 := ⟨_, rfl⟩
          have HR10 : Hid (w10.ownsRow n0 3 1 (.slice pi os.length ci) os.length (KJ.cells (idsQ os.length))) := by
            have q := Kind.own_on hr9 (w' := w10) (by rw [← hw10]; exact (Below.refl _ _).alloc (Nat.le_refl _) _)
            unfold Kind.Own at q
            rw [idsQ_len] at q
            exact q
          have HN10 : Hid (∀ j u, (KJ.cells [(os.length : Int) + 1])[j]? = some u → w10.cell? ((⟨w9.heap.size, 0, none⟩ : Addr).add j) = some u) := by rw [← hw10]; exact KJ.news w9 _
          have HS10 : Hid (w9.heap.size ≤ w10.heap.size) := by show _ ≤ _; rw [← hw10, World.size_alloc]; omega
          have HW10 := hid hw10
          clear t9 hr9 H9
          have hfew : os.length < 17000000000000 := by omega
          have hne0 : ∀ (b : Bool), (if os.length = 0 then b else b) = b := fun b => by split <;> rfl
          clear hne0
          by_cases hz : os.length = 0
          · have HLZ := hid hz
            have hzz : ¬ (0 : Int) < (os.length : Int) := by omega
            clear hz
            go_wp2_with (first
              | (at_builtin; refine wpList_append_lies _ rfl _ _ 39 rfl n0 3 i0 (.int .i64 0) 1 8 Try.underlying39 HI0.out hz0 hz1 hz2 rfl (by decide) (.slice pi os.length ci) _ _ rfl HR10.out _ 1 1 (KJ.cells [(os.length : Int) + 1]) rfl rfl HN10.out (KJ.cells_ones _) (by decide) (by unfold maxLen; omega) (by omega) (Nat.le_trans hn9 HS10.out) _ rfl ?_
                 intro g3 c3 w11 hown3 hg3 hat3 _
                 have HP := FlS.push HT9.out hnV HOK2.out (by rw [List.length_append]; rfl) HOV.out HD2.out (v' := .slice (some ⟨g3, 0, none⟩) (os.length + 1) c3) (w2 := w11) (o := .cells #[.int .i64 ((os.length : Int) + 1)] 3) (by rw [HW10.out]; exact hg3) (by unfold Kind.Own; rw [Kind.cells_append, List.length_append, idsQ_len]; exact hown3) (hat3.imp Eq.symm fun e => ⟨_, by rw [e]; rfl, HS10.out⟩) HCL.out
                 have HPP := hid HP
                 clear HP hown3 hg3 hat3))
            obtain ⟨hn11, hok11, C11, t20, hC11, hv11, hd11⟩ := HPP.out.1
            have HOK : Hid (OkQ (os ++ [some xs]) fl) := hok11
            have HV11 := hid hv11
            have HD11 := hid hd11
            have HC11 := hid hC11
            have hl2 : (os ++ [some xs]).length ≤ i + 1 := by rw [List.length_append]; show os.length + 1 ≤ _; omega
            have HE2 : Hid ((os ++ [some xs]).length = os.length + 1) := by show _ = _; rw [List.length_append]; rfl
            have HZ0 : Hid (∀ r3, OneV n0 w11 C11 g (os ++ [some xs]) fl r3 → FlS n0 g (os ++ [some xs]) fl (.slice (some ⟨g3, 0, none⟩) (os.length + 1) c3) r3 ∧ (os ++ [some xs]).length ≤ i + 1 ∧ Below n0 W2 r3) := fun r3 t => ⟨FlS.of t hn11 HOK.out HV11.out rfl HD11.out, hl2, (HBV.out.trans HPP.out.2).trans (t.below hn11 fun k hk => (HC11.out k hk).1)⟩
            clear hok11 hC11 hv11 hd11
            generalize os ++ [some xs] = os2 at *
            rw [← HE2.out] at HZ0
            rw [← HE2.out]
            have hLL : fl ≤ leastQ os2 18446744073709551615 := least_ok HOK.out HOK.out.1.2
            have L40 : os2.length < 40000000000000 := by omega
            have H20 := hid (one_floor t20)
            clear t20
            go_wp2_with fail
            refine H20.out.mono ?_
            rintro e r1 ⟨rfl, t21⟩
            have H21 := hid (one_least t21 18446744073709551615 L40)
            clear t21 H20 L40
            go_wp2_with fail
            refine H21.out.mono ?_
            rintro e r2 ⟨rfl, t22⟩
            have H22 := hid (one_floor t22)
            clear t22 H21
            generalize leastQ os2 18446744073709551615 = LL at *
            go_wp2_with fail
            refine H22.out.mono ?_
            rintro e r3 ⟨rfl, t23⟩
            have HZ := hid (HZ0.out r3 t23)
            clear t23 H22 HZ0
            go_wp2_with fail
            go_roundg (ops.length - (i + 1))
            case measure => omega
            exact ⟨i + 1, os2, fl, (some ⟨g3, 0, none⟩), c3, by rfl, by go_num, by omega, by omega, HZ.out⟩
          · have hzp : (0 : Int) < (os.length : Int) := by omega
            obtain ⟨j, hj⟩ : ∃ j, os.length = j + 1 := ⟨os.length - 1, by omega⟩
            obtain ⟨bi, rfl, y3, _⟩ := kj_rd HR9.out j (by rw [idsQ_len]; omega)
            rw [idsQ_get] at y3
            have hjl : (j : Int) < (os.length : Int) := by omega
            have hj0 : (0 : Int) ≤ (j : Int) := by omega
            have hw : IntKind.i64.wrap ((os.length : Int) - 1) = (j : Int) := by rw [IntKind.wrap_i64]; omega
            have hw4 : wrap64 ((os.length : Int) - 1) = (j : Int) := by simp [wrap64]; omega
            have hle : ¬ (os.length : Int) + 1 ≤ (j : Int) + 1 := by omega
            clear hz hj
            go_wp2_with (first
              | (at_builtin; refine wpList_append_lies _ rfl _ _ 39 rfl n0 3 i0 (.int .i64 0) 1 8 Try.underlying39 HI0.out hz0 hz1 hz2 rfl (by decide) (.slice (some ⟨bi, 0, none⟩) os.length ci) _ _ rfl HR10.out _ 1 1 (KJ.cells [(os.length : Int) + 1]) rfl rfl HN10.out (KJ.cells_ones _) (by decide) (by unfold maxLen; omega) (by omega) (Nat.le_trans hn9 HS10.out) _ rfl ?_
                 intro g3 c3 w11 hown3 hg3 hat3 _
                 have HP := FlS.push HT9.out hnV HOK2.out (by rw [List.length_append]; rfl) HOV.out HD2.out (v' := .slice (some ⟨g3, 0, none⟩) (os.length + 1) c3) (w2 := w11) (o := .cells #[.int .i64 ((os.length : Int) + 1)] 3) (by rw [HW10.out]; exact hg3) (by unfold Kind.Own; rw [Kind.cells_append, List.length_append, idsQ_len]; exact hown3) (hat3.imp Eq.symm fun e => ⟨_, by rw [e]; rfl, HS10.out⟩) HCL.out
                 have HPP := hid HP
                 clear HP hown3 hg3 hat3))
            obtain ⟨hn11, hok11, C11, t20, hC11, hv11, hd11⟩ := HPP.out.1
            have HOK : Hid (OkQ (os ++ [some xs]) fl) := hok11
            have HV11 := hid hv11
            have HD11 := hid hd11
            have HC11 := hid hC11
            have hl2 : (os ++ [some xs]).length ≤ i + 1 := by rw [List.length_append]; show os.length + 1 ≤ _; omega
            have HE2 : Hid ((os ++ [some xs]).length = os.length + 1) := by show _ = _; rw [List.length_append]; rfl
            have HZ0 : Hid (∀ r3, OneV n0 w11 C11 g (os ++ [some xs]) fl r3 → FlS n0 g (os ++ [some xs]) fl (.slice (some ⟨g3, 0, none⟩) (os.length + 1) c3) r3 ∧ (os ++ [some xs]).length ≤ i + 1 ∧ Below n0 W2 r3) := fun r3 t => ⟨FlS.of t hn11 HOK.out HV11.out rfl HD11.out, hl2, (HBV.out.trans HPP.out.2).trans (t.below hn11 fun k hk => (HC11.out k hk).1)⟩
            clear hok11 hC11 hv11 hd11
            generalize os ++ [some xs] = os2 at *
            rw [← HE2.out] at HZ0
            rw [← HE2.out]
            have hLL : fl ≤ leastQ os2 18446744073709551615 := least_ok HOK.out HOK.out.1.2
            have L40 : os2.length < 40000000000000 := by omega
            have H20 := hid (one_floor t20)
            clear t20
            go_wp2_with fail
            refine H20.out.mono ?_
            rintro e r1 ⟨rfl, t21⟩
            have H21 := hid (one_least t21 18446744073709551615 L40)
            clear t21 H20 L40
            go_wp2_with fail
            refine H21.out.mono ?_
            rintro e r2 ⟨rfl, t22⟩
            have H22 := hid (one_floor t22)
            clear t22 H21
            generalize leastQ os2 18446744073709551615 = LL at *
            go_wp2_with fail
            refine H22.out.mono ?_
            rintro e r3 ⟨rfl, t23⟩
            have HZ := hid (HZ0.out r3 t23)
            clear t23 H22 HZ0
            go_wp2_with fail
            go_roundg (ops.length - (i + 1))
            case measure => omega
            exact ⟨i + 1, os2, fl, (some ⟨g3, 0, none⟩), c3, by rfl, by go_num, by omega, by omega, HZ.out⟩
      by_cases e2 : xk = 2
      · subst e2
        have H9 := hid (one_close t8 xi hxi)
        have hok2 := okQ_close HOK.out xi
        have hcl := closeQ_len os xi
        clear t8
        go_wp2_with fail
        refine H9.out.mono ?_
        rintro e w9 ⟨rfl, t20⟩
        clear H9
        have hol : (closeQ os xi).length ≤ i := by rw [hcl]; exact hoi
        have HCQ := hid hcl
        have HOK : Hid (OkQ (closeQ os xi) fl) := hok2
        have HZ0 : Hid (∀ r3, OneV n0 V C g (closeQ os xi) fl r3 → FlS n0 g (closeQ os xi) fl (.slice pi os.length ci) r3 ∧ (closeQ os xi).length ≤ i + 1 ∧ Below n0 W2 r3) := fun r3 t => ⟨FlS.of t hnV HOK.out HOV.out HCQ.out HD2.out, by omega, HBV.out.trans (t.below hnV HCL.out)⟩
        generalize (atQ os xi).isSome = RB at *
        generalize closeQ os xi = os2 at *
        clear hok2 hcl
        rw [← HCQ.out] at HZ0
        rw [← HCQ.out]
        have hLL : fl ≤ leastQ os2 18446744073709551615 := least_ok HOK.out HOK.out.1.2
        have L40 : os2.length < 40000000000000 := by omega
        have H20 := hid (one_floor t20)
        clear t20
        go_wp2_with fail
        refine H20.out.mono ?_
        rintro e r1 ⟨rfl, t21⟩
        have H21 := hid (one_least t21 18446744073709551615 L40)
        clear t21 H20 L40
        go_wp2_with fail
        refine H21.out.mono ?_
        rintro e r2 ⟨rfl, t22⟩
        have H22 := hid (one_floor t22)
        clear t22 H21
        generalize leastQ os2 18446744073709551615 = LL at *
        go_wp2_with fail
        refine H22.out.mono ?_
        rintro e r3 ⟨rfl, t23⟩
        have HZ := hid (HZ0.out r3 t23)
        clear t23 H22 HZ0
        go_wp2_with fail
        go_roundg (ops.length - (i + 1))
        case measure => omega
        exact ⟨i + 1, os2, fl, pi, ci, by rfl, by go_num, by omega, by omega, HZ.out⟩
      by_cases e6 : xk = 6
      · subst e6
        have H9 := hid (one_raise t8 xs h40)
        have hok2 := okQ_raise HOK.out hxs
        have hge := raise_ge os fl xs
        clear t8
        generalize raiseQ os fl xs = RR at *
        obtain ⟨rc, fl2⟩ := RR
        dsimp only at hok2 hge H9
        have HOK : Hid (OkQ os fl2) := hok2
        have HZ0 : Hid (∀ r3, OneV n0 V C g os fl2 r3 → FlS n0 g os fl2 (.slice pi os.length ci) r3 ∧ os.length ≤ i + 1 ∧ Below n0 W2 r3) := fun r3 t => ⟨FlS.of t hnV HOK.out HOV.out rfl HD2.out, by omega, HBV.out.trans (t.below hnV HCL.out)⟩
        clear hok2
        go_wp2_with fail
        refine H9.out.mono ?_
        rintro e w9 ⟨rfl, t20⟩
        clear H9
        have hLL : fl2 ≤ leastQ os 18446744073709551615 := least_ok HOK.out HOK.out.1.2
        have L40 : os.length < 40000000000000 := by omega
        have H20 := hid (one_floor t20)
        clear t20
        go_wp2_with fail
        refine H20.out.mono ?_
        rintro e r1 ⟨rfl, t21⟩
        have H21 := hid (one_least t21 18446744073709551615 L40)
        clear t21 H20 L40
        go_wp2_with fail
        refine H21.out.mono ?_
        rintro e r2 ⟨rfl, t22⟩
        have H22 := hid (one_floor t22)
        clear t22 H21
        generalize leastQ os 18446744073709551615 = LL at *
        go_wp2_with fail
        refine H22.out.mono ?_
        rintro e r3 ⟨rfl, t23⟩
        have HZ := hid (HZ0.out r3 t23)
        clear t23 H22 HZ0
        go_wp2_with fail
        go_roundg (ops.length - (i + 1))
        case measure => omega
        exact ⟨i + 1, os, fl2, pi, ci, by rfl, by go_num, by omega, by omega, HZ.out⟩
      have HZ0 : Hid (∀ r3, OneV n0 V C g os fl r3 → FlS n0 g os fl (.slice pi os.length ci) r3 ∧ os.length ≤ i + 1 ∧ Below n0 W2 r3) := fun r3 t => ⟨FlS.of t hnV HOK.out HOV.out rfl HD2.out, by omega, HBV.out.trans (t.below hnV HCL.out)⟩
      have t20 := t8
      clear t8
      have hLL : fl ≤ leastQ os 18446744073709551615 := least_ok HOK.out HOK.out.1.2
      have L40 : os.length < 40000000000000 := by omega
      have H20 := hid (one_floor t20)
      clear t20
      go_wp2_with fail
      refine H20.out.mono ?_
      rintro e r1 ⟨rfl, t21⟩
      have H21 := hid (one_least t21 18446744073709551615 L40)
      clear t21 H20 L40
      go_wp2_with fail
      refine H21.out.mono ?_
      rintro e r2 ⟨rfl, t22⟩
      have H22 := hid (one_floor t22)
      clear t22 H21
      generalize leastQ os 18446744073709551615 = LL at *
      go_wp2_with fail
      refine H22.out.mono ?_
      rintro e r3 ⟨rfl, t23⟩
      have HZ := hid (HZ0.out r3 t23)
      clear t23 H22 HZ0
      go_wp2_with fail
      go_roundg (ops.length - (i + 1))
      case measure => omega
      exact ⟨i + 1, os, fl, pi, ci, by rfl, by go_num, by omega, by omega, HZ.out⟩
    · have hltz : ¬ (i : Int) < (ops.length : Int) := by omega
      obtain ⟨hnw, hok, C, tw, hC, ho, hdv⟩ := HI.out.1
      have HT0 := hid tw
      have HO := hid ho
      have HOK := hid hok
      have HCL : Hid (∀ k, C k → n0 ≤ k) := fun k hk => (hC k hk).1
      have HDV := hid hdv
      have HBW := hid hbw
      clear HI tw hok hC ho hdv hbw hlt
      obtain ⟨W3, hW3⟩ : ∃ W3, W3 = wr := ⟨_, rfl⟩
      subst hW3
      go_wp2_with fail
      go_loopg [12, 99] os.length (fun gg vn vj wq => ∃ (j n : Nat), vn = .int .i64 n ∧ vj = .int .i64 j ∧ j ≤ os.length ∧ os.length - j ≤ gg ∧ n ≤ j ∧ Hid (n = countQ (os.take j) ∧ OneV n0 W3 C g os fl wq))
      case atStart => exact ⟨0, 0, rfl, rfl, by omega, by omega, by omega, rfl, HT0.out⟩
      case round =>
        obtain ⟨j, n, rfl, rfl, hj, hgj, hnj, HJ⟩ := hrel
        by_cases hlt : j < os.length
        · have hjl : (j : Int) < (os.length : Int) := by omega
          have hj0 : (0 : Int) ≤ (j : Int) := by omega
          have hrq : KJ.Own n0 wr (.slice pi os.length ci) (idsQ os.length) := by
            obtain ⟨_, _, _, _, f9⟩ := OneV.rebase HJ.out.2
            exact f9.row HO.out HDV.out
          obtain ⟨bi, rfl, y3, _⟩ := kj_rd hrq j (by rw [idsQ_len]; omega)
          rw [idsQ_get] at y3
          have H1 := hid (one_stamp HJ.out.2 ((j : Int) + 1) (fit_q (by omega) (by omega)))
          have HC1 := hid (count_take hlt)
          rw [atQ_in hlt] at H1
          have HMEM : Hid (∀ s, os[j] = some s → fl ≤ s) := fun s hs => (HOK.out.2 s (by rw [← hs]; exact List.getElem_mem hlt)).1
          have HN := hid HJ.out.1
          rw [← HN.out] at HC1
          clear hrq HJ
          generalize os[j] = a at *
          cases a with
          | none =>
            go_wp2_with fail
            refine H1.out.mono ?_
            rintro e r1 ⟨rfl, t1⟩
            have HT1 := hid t1
            clear t1 H1
            dsimp only [Option.getD, Option.isSome]
            go_wp2_with fail
            go_roundg (os.length - (j + 1))
            case measure => omega
            exact ⟨j + 1, n, rfl, by go_num, by omega, by omega, by omega, by rw [HC1.out]; rfl, HT1.out⟩
          | some s =>
            have hfs : fl ≤ s := HMEM.out s rfl
            go_wp2_with fail
            refine H1.out.mono ?_
            rintro e r1 ⟨rfl, t1⟩
            have H2 := hid (one_floor t1)
            clear t1 H1
            dsimp only [Option.getD, Option.isSome]
            go_wp2_with fail
            refine H2.out.mono ?_
            rintro e r2 ⟨rfl, t2⟩
            have H3 := hid (one_least t2 s h40)
            have hls : leastQ os s ≤ s := least_le os s
            clear t2 H2
            go_wp2_with fail
            refine H3.out.mono ?_
            rintro e r3 ⟨rfl, t3⟩
            have HT3 := hid t3
            clear t3 H3
            generalize leastQ os s = LL at *
            go_wp2_with fail
            go_roundg (os.length - (j + 1))
            case measure => omega
            exact ⟨j + 1, n + 1, by go_num, by go_num, by omega, by omega, by omega, by rw [HC1.out]; rfl, HT3.out⟩
        · have hjz : ¬ (j : Int) < (os.length : Int) := by omega
          have HN : Hid (n = countQ os) := by
            have := HJ.out.1
            rw [List.take_of_length_le (by omega)] at this
            exact this
          have H1 := hid (one_least HJ.out.2 now h40)
          have hln : leastQ os now ≤ now := least_le os now
          have HRL := hid (raise_least (os := os) (fl := fl) (now := now))
          have HWE : Hid (∀ fl1 w', OneV n0 W3 C g os fl1 w' → Below w.heap.size w w') := fun fl1 w' q => HBW.out.trans ((q.below hnw HCL.out).mono hws)
          clear HJ
          go_wp2_with fail
          refine H1.out.mono ?_
          rintro e r1 ⟨rfl, t1⟩
          have H2 := hid (one_floor t1)
          clear t1 H1
          generalize leastQ os now = LL at *
          go_wp2_with fail
          refine H2.out.mono ?_
          rintro e r2 ⟨rfl, t2⟩
          have H3 := hid (one_count t2)
          rw [← HN.out] at H3
          clear t2 H2
          go_wp2_with fail
          refine H3.out.mono ?_
          rintro e r3 ⟨rfl, t3⟩
          have H4 := hid (one_raise t3 LL h40)
          rw [HRL.out] at H4
          clear t3 H3
          by_cases hlf : LL < fl
          · rw [if_pos hlf] at H4
            go_wp2_with fail
            refine H4.out.mono ?_
            rintro e r4 ⟨rfl, t4⟩
            have HE := hid (HWE.out _ r4 t4)
            clear t4 H4
            try dsimp only
            go_wp2_with fail
            go_ret
            exact ⟨rfl, HE.out⟩
          · rw [if_neg hlf] at H4
            go_wp2_with fail
            refine H4.out.mono ?_
            rintro e r4 ⟨rfl, t4⟩
            have H5 := hid (one_floor t4)
            clear t4 H4
            try dsimp only at H5
            try dsimp only
            go_wp2_with fail
            refine H5.out.mono ?_
            rintro e r5 ⟨rfl, t5⟩
            have HE := hid (HWE.out _ r5 t5)
            clear t5 H5
            go_wp2_with fail
            go_ret
            exact ⟨rfl, HE.out⟩

end Go.Proofs.Ytkiandchgbldbaa
