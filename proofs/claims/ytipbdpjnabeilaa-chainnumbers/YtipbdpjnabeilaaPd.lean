/-
  The walk of ChainNumbers (stage 6).
-/
import Derived.Test.YtipbdpjnabeilaaPc
import Derived.Test.YtipbdpjnabeilaaPb
namespace Go.Proofs.Ytipbdpjnabeilaa
open Go.RowKit

theorem told_get {N : Nat} {u : Value} {o : List Vx} {l : List Vr} {W : World} (h : Told N u o l W) (i : Nat) (hi : i < o.length) : (o[i]).ver = l[i]'(by rw [← h.len]; exact hi) := by
  have := h.ver
  subst this
  rw [List.getElem_map]

theorem vans_drew {w : World} {n : Nat} {o : Option Vr} {e : Ending} {w' : World} (h : VAns (w.drewN n) o e w') : VAns w o e w' := by
  obtain ⟨x, h1, h2, h3, h4⟩ := h
  exact ⟨x, h1, h2, h3, ⟨h4.os, h4.tape, h4.output, h4.size, h4.block⟩⟩

/-- What ChainNumbers looks at in one version. -/
structure NumAt (l : List Vr) (x : Vx) : Prop where
  one : 1 ≤ x.num
  top : x.num ≤ 2400000000000
  first : x.num = 1 → x.live = true
  dead : x.live = false → x.o.length = 0
  num : numV l x.num = some x.ver
  at_ : atV l x.stamp = some x.ver

theorem ok_top {l : List Vr} (h : OkV l) (i : Nat) (hi : i < l.length) : (l[i]).num ≤ (lastV l).num := by
  rw [lastV_get (by omega), ok_num h i hi, ok_num h (l.length - 1) (by omega)]
  omega

theorem num_at {N : Nat} {u : Value} {o : List Vx} {l : List Vr} {W : World} (h : Told N u o l W) (ho : OkV l) (ht : (lastV l).num ≤ 2400000000000) (i : Nat) (hi : i < o.length) : NumAt l o[i] := by
  have hl : i < l.length := by rw [← h.len]; exact hi
  have hv := told_get h i hi
  have h1 := ho.first _ (List.getElem_mem hl)
  have h2 := ok_top ho i hl
  have h3 := ok_find ho i hl
  have h4 := ok_at ho i hl
  rw [← hv] at h1 h2 h3 h4
  exact ⟨h1.1, Int.le_trans h2 ht, h1.2.2.1, fun e => by
    have := h1.2.2.2 e
    have h5 : (o[i]).o.map Fx.fld = [] := this
    simpa using h5, h3, h4⟩

theorem num_next {N : Nat} {u : Value} {o : List Vx} {l : List Vr} {W : World} (h : Told N u o l W) (ho : OkV l) (j : Nat) (hj : j + 1 < o.length) : (o[j + 1]).num = (o[j]).num + 1 ∧ (o[j]).stamp < (o[j + 1]).stamp ∧ ((o[j + 1]).live = true ∨ (o[j]).live = true) := by
  have hl : j + 1 < l.length := by rw [← h.len]; exact hj
  have a := told_get h j (by omega)
  have b := told_get h (j + 1) hj
  have h1 := ho.nums j hl
  have h2 := rise_lt ho.rise (Nat.lt_succ_self j) hl
  have h3 := ho.two j hl
  rw [← a, ← b] at h1 h2 h3
  exact ⟨h1, h2, h3⟩

set_option maxHeartbeats 2000000 in
set_option maxRecDepth 100000 in
theorem numbers_any (v : Value) (ops : List Ox) (w : World) (hv : KO.Is w v ops) (hx : ∀ x ∈ ops, OpAt w x) (hl : ops.length ≤ 2199023255552) :
    Calls Try.prog 5 #[v] w fun e w' => e = .returned (.bool true) ∧ Below w.heap.size w w' := by
  have mixed := Try.mixed
  have HF := hid (fixed_any w)
  have HLD : Hid (∀ W, Below w.heap.size w W → Calls Try.prog 15 #[v] W fun e w' => ∃ g, e = .returned (.pointer (some ⟨g, 0, none⟩)) ∧ ChSt W.heap.size g (laidV ops) w' ∧ (lastV (laidV ops)).num ≤ 2199023255552 ∧ Below W.heap.size W w') := fun W hW => st_laid v ops W (Kind.is_kept hv hW) (fun x hx' => (hx x hx').on hW) hl
  obtain ⟨p, cap, rfl, _⟩ := hv
  clear hx hl
  go_enter Try.func5, Try.ntmps5
  go_wp2_with fail
  refine HF.out.mono ?_
  rintro e w1 ⟨rfl, hb1⟩
  have HL1 := hid (HLD.out w1 hb1)
  have HB1 := hid hb1
  clear hb1 HF HLD
  go_wp2_with fail
  refine HL1.out.mono ?_
  rintro e w2 ⟨g, rfl, hC2, _, hb2⟩
  generalize laidV ops = l at hC2
  have HB2 := hid (bel_then HB1.out HB1.out.size hb2)
  have HC2 := hid hC2
  have HAL := hid (st_all hC2)
  clear hC2 hb2 HL1 HB1
  go_wp2_with fail
  refine HAL.out.mono ?_
  intro e w3 hp3
  obtain ⟨u, o, rfl, ht3, hb3⟩ := all_told hp3
  have hC3 := HC2.out.on hb3
  have HLE := hid (st_len hC3)
  have HSI := hid (st_since hC3 0)
  rw [since_zero hC3.ok] at HSI
  have HB3 := hid (bel_then HB2.out HB2.out.size hb3)
  have HC3 := hid hC3
  have HT3 := hid ht3
  have hol := ht3.len
  have hfew := hC3.few
  have HLN : Hid (l.length = o.length) := hol.symm
  obtain ⟨pu, cu, rfl⟩ := Kind.own_shape ht3.own
  rw [← hol] at HLE hfew
  clear hp3 hb3 ht3 hC3 HAL HB2 HC2 hol
  go_wp2_with fail
  refine HLE.out.mono ?_
  rintro e w4 ⟨rfl, rfl⟩
  go_wp2_with fail
  refine HSI.out.mono ?_
  intro e w5 hp5
  obtain ⟨u5, o5, rfl, ht5, hb5⟩ := all_told hp5
  have hl5 := ht5.len
  rw [HLN.out] at hl5
  obtain ⟨p5, c5, rfl⟩ := Kind.own_shape ht5.own
  rw [hl5]
  have HC5 := hid (HC3.out.on hb5)
  have HT5 := hid (HT3.out.on hb5)
  have HB5 := hid (bel_then HB3.out HB3.out.size hb5)
  have HP : Hid (0 < o.length → ∃ b, pu = some ⟨b, 0, none⟩) := fun h0 => by
    rcases HT3.out.own.2 with ⟨h, h'⟩ | ⟨b, _, _, h, _⟩
    · omega
    · injection h with h2 _ _; exact ⟨b, h2⟩
  clear hl5 hp5 hb5 ht5 HSI HLE HB3 HC3 HT3
  go_wp2_with fail
  go_loopg [32] o.length (fun gg vi wr => ∃ i : Nat, vi = .int .i64 i ∧ i ≤ o.length ∧ o.length - i ≤ gg ∧ Hid (Below w5.heap.size w5 wr))
  case atStart => exact ⟨0, rfl, by omega, by omega, Below.refl _ _⟩
  case round =>
    obtain ⟨i, rfl, hi, hgk, HW⟩ := hrel
    by_cases hlt : i < o.length
    · have hltz : (i : Int) < (o.length : Int) := by omega
      have hiz : (0 : Int) ≤ i := by omega
      obtain ⟨b, rfl⟩ := HP.out (by omega)
      have hT := HT5.out.on HW.out
      have hC := HC5.out.on HW.out
      have hat := own_atV hT.own (by omega)
      obtain ⟨y0, y1, y2, y3, y4⟩ := kv_at hat i hlt
      rw [Nat.zero_add] at y0 y1 y2 y3 y4
      have hna := num_at hT hC.ok hC.top i hlt
      have hfx := hT.fits hC.may _ (List.getElem_mem hlt)
      have hmay := hC.may
      have HPREV : Hid (∀ j, i = j + 1 → ∃ pn ps pl, wr.cell? ⟨b, j * 5, none⟩ = some (.int .i64 pn) ∧ wr.cell? ⟨b, j * 5 + 1, none⟩ = some (.int .u64 ps) ∧ wr.cell? ⟨b, j * 5 + 3, none⟩ = some (.bool pl) ∧ (o[i]).num = pn + 1 ∧ ps < (o[i]).stamp ∧ ((o[i]).live = true ∨ pl = true)) := fun j hj => by
        subst hj
        obtain ⟨z0, z1, _, z3, _⟩ := kv_at hat j (by omega)
        rw [Nat.zero_add] at z0 z1 z3
        obtain ⟨n1, n2, n3⟩ := num_next hT hC.ok j hlt
        exact ⟨_, _, _, z0, z1, z3, n1, n2, n3⟩
      obtain ⟨x, hx⟩ : ∃ x, o[i] = x := ⟨_, rfl⟩
      rw [hx] at y0 y1 y2 y3 y4 hna hfx HPREV
      have HBA : Hid (Below wr.heap.size wr (wr.alloc (.cells (encVx x).toArray 41))) := (Below.refl _ _).alloc (Nat.le_refl _) _
      have HVA : Hid (VerAt (wr.alloc (.cells (encVx x).toArray 41)) wr.heap.size x) := heap_alloc_new wr _
      have hCA := hC.on HBA.out
      have HNU : Hid (∀ n, Calls Try.prog 22 #[.pointer (some ⟨g, 0, none⟩), .int .i64 x.num] ((wr.alloc (.cells (encVx x).toArray 41)).drewN n) fun e w' => VAns (wr.alloc (.cells (encVx x).toArray 41)) (some x.ver) e w') := fun n => by
        have := st_number (hCA.on (bel_drewN (Below.refl _ _) n)) x.num (by have := hna.top; omega)
        rw [hna.num] at this
        exact this.mono fun e w' h => vans_drew h
      have HAT : Hid (∀ W, Below (wr.alloc (.cells (encVx x).toArray 41)).heap.size (wr.alloc (.cells (encVx x).toArray 41)) W → Calls Try.prog 16 #[.pointer (some ⟨g, 0, none⟩), .int .u64 x.stamp] W fun e w' => VAns W (some x.ver) e w') := fun W hW => by
        have := st_at (hCA.on hW) x.stamp
        rw [hna.at_] at this
        exact this
      have HFX := hid hfx
      have HVF : Hid (∀ y : Vx, y.ver = x.ver → FitX y.o) := fun y hy => vans_fit (o := some x.ver) hy fun z hz => by cases hz; exact hmay _ (at_mem hna.at_)
      have h1 := hna.one
      have h2 := hna.top
      have H3 := hid hna.first
      have H4 := hid hna.dead
      obtain ⟨B, hB⟩ : ∃ B, wr.heap.size = B := ⟨_, rfl⟩
      rw [hB] at HVA
      have HBW := hid (HW.out)
      clear hna hfx hx hC hT hat hCA hmay
      have HXV : Hid (∀ y : Vx, decide (y.ver = x.ver) = true ↔ y.ver = x.ver) := fun y => decide_eq_true_iff
      have HSV : Hid (∀ (y : Vx) (W : World), y.ver = x.ver → y.at W → x.at W → Calls Try.prog 18 #[.agg (encVx y).toArray, .agg (encVx x).toArray] W fun e w' => e = .returned (.bool true) ∧ Below W.heap.size W w') := fun y W hy ha hb => by
        have := sameV_any y x W ha hb (HVF.out y hy) HFX.out.2
        rw [decide_eq_true hy] at this
        exact this
      have hxa := hid HFX.out.1
      have HVX : Hid (∀ W, Below wr.heap.size wr W → x.at W) := fun W hW => hxa.out.kept hW
      obtain ⟨XV, hXV⟩ : ∃ XV, x.ver = XV := ⟨_, rfl⟩
      rw [hXV] at HNU HAT HSV
      clear HXV hXV HFX hxa
      obtain ⟨xn, xs, xt, xl, xp, xc, xo⟩ := x
      simp only [encVx, Vx.sl] at y0 y1 y2 y3 y4 HNU HAT HSV HBA HVA h1 h2 H3 H4 HPREV
      have hlt1 : decide (xn < 1) = false := decide_eq_false (by omega)
      have hcase : (xl = true ∧ (xn == 1) = true) ∨ (xl = true ∧ (xn == 1) = false) ∨ (xl = false ∧ (xn == 1) = false ∧ decide ((0 : Int) < (xo.length : Int)) = false ∧ decide (0 < xo.length) = false) := by
        cases xl with
        | true => cases (xn == 1) <;> simp
        | false => exact Or.inr (Or.inr ⟨rfl, by rw [beq_eq_false_iff_ne]; intro e; exact absurd (H3.out e) (by simp), decide_eq_false (by have := H4.out rfl; omega), decide_eq_false (by have := H4.out rfl; omega)⟩)
      rcases Nat.eq_zero_or_pos i with hi0 | hi0
      · subst hi0
        rw [Nat.zero_mul] at y0 y1 y2 y3 y4
        rw [Nat.zero_add] at y1 y2 y3 y4
        have hz0 : decide ((0 : Int) < ((0 : Nat) : Int)) = false := by decide
        have hz1 : decide ((0 : Int) < (0 : Int)) = false := by decide
        rcases hcase with ⟨rfl, hq⟩ | ⟨rfl, hq⟩ | ⟨rfl, hq, h0, h0y⟩
        all_goals
          go_wp2_with fail
          refine wp_region_quiet_lit mixed (by kernel_rfl) ?_
          repeat (go_big_quiet_step (fail))
          refine wpQuiet_nil ?_
          intro _ hw'
          obtain ⟨nq, hw''⟩ := hw'
          subst hw''
          go_wp2_with fail
          try rw [hB]
          clear hB
          clear y0 y1 y2 y3 y4 HPREV H3 H4
          refine (HNU.out _).mono ?_
          rintro e w6 ⟨x6, rfl, hx6, hJ6, hb6⟩
          have hBA6 : Below _ _ (w6.alloc (.cells (encVx x6).toArray 41)) := hb6.alloc hb6.size _
          have HAT6 := hid (HAT.out _ hBA6)
          have HV6 : Hid (VerAt (w6.alloc (.cells (encVx x6).toArray 41)) w6.heap.size x6) := heap_alloc_new w6 _
          have HVB := hid (HVA.out.on hBA6)
          have hBA := bel_then HBA.out HBA.out.size hBA6
          have h6at : x6.at w6 := hJ6.1.is
          have HXA6 := hid (fun (W : World) (hW : Below (w6.alloc (.cells (encVx x6).toArray 41)).heap.size (w6.alloc (.cells (encVx x6).toArray 41)) W) => And.intro ((h6at.kept ((Below.refl _ _).alloc (Nat.le_refl _) _)).kept hW) (HVX.out W (bel_then hBA hBA.size hW)))
          have HBR := hid hBA
          have HX6 : Hid (x6.ver = XV) := hx6
          obtain ⟨A6, hA6⟩ : ∃ A6, w6.heap.size = A6 := ⟨_, rfl⟩
          rw [hA6] at HV6
          clear hx6 hJ6 hb6 hBA6 hBA HNU HAT HVA HBA h6at
          have HS6 := hid (fun (W : World) (hW : Below (w6.alloc (.cells (encVx x6).toArray 41)).heap.size (w6.alloc (.cells (encVx x6).toArray 41)) W) => HSV.out x6 W HX6.out (HXA6.out W hW).1 (HXA6.out W hW).2)
          obtain ⟨xn6, xs6, xt6, xl6, xp6, xc6, xo6⟩ := x6
          simp only [encVx, Vx.sl] at HAT6 HV6 HVB HXA6 HBR HS6 ⊢
          have bb1 := HVB.out.cells.2.1
          simp only [Nat.zero_add] at bb1
          go_wp2_with fail
          try rw [hA6]
          clear hA6
          clear bb1
          refine HAT6.out.mono ?_
          rintro e w7 ⟨x7, rfl, hx7, hJ7, hb7⟩
          have hBA7 : Below _ _ (w7.alloc (.cells (encVx x7).toArray 41)) := hb7.alloc hb7.size _
          have HS6' := hid (HS6.out _ hBA7)
          have HVB7 := HVB.out.on hBA7
          obtain ⟨a0, a1, a2, a3, a4⟩ := (HV6.out.on hBA7).cells
          obtain ⟨b0, b1, b2, b3, b4⟩ := HVB7.cells
          simp only [Nat.zero_add, Vx.sl] at a1 a2 a3 a4 b1 b2 b3 b4
          have HVB8 := hid HVB7
          have HV7 : Hid (VerAt (w7.alloc (.cells (encVx x7).toArray 41)) w7.heap.size x7) := heap_alloc_new w7 _
          obtain ⟨A7, hA7⟩ : ∃ A7, w7.heap.size = A7 := ⟨_, rfl⟩
          rw [hA7] at HV7
          have HX7 : Hid (x7.ver = XV) := hx7
          have h7at : x7.at w7 := hJ7.1.is
          have HS7 := hid (fun (W : World) (hW : Below (w7.alloc (.cells (encVx x7).toArray 41)).heap.size (w7.alloc (.cells (encVx x7).toArray 41)) W) => HSV.out x7 W HX7.out ((h7at.kept ((Below.refl _ _).alloc (Nat.le_refl _) _)).kept hW) (HXA6.out W (bel_then hBA7 hBA7.size hW)).2)
          have HBR7 := hid (bel_then HBR.out HBR.out.size hBA7)
          clear hx7 hJ7 hb7 hBA7 HVB7 h7at HAT6 HS6 HXA6 HVB HV6 HBR
          obtain ⟨xn7, xs7, xt7, xl7, xp7, xc7, xo7⟩ := x7
          simp only [encVx, Vx.sl] at HS6' HVB8 HV7 HS7 HBR7 a0 a1 a2 a3 a4 b0 b1 b2 b3 b4 ⊢
          go_wp2_with fail
          try rw [hA7]
          clear hA7
          refine HS6'.out.mono ?_
          rintro e w9 ⟨rfl, hb9⟩
          obtain ⟨d0, d1, d2, d3, d4⟩ := (HV7.out.on hb9).cells
          obtain ⟨e0, e1, e2, e3, e4⟩ := (HVB8.out.on hb9).cells
          simp only [Nat.zero_add, Vx.sl] at d1 d2 d3 d4 e1 e2 e3 e4
          have HS7' := hid (HS7.out w9 hb9)
          have HBR9 := hid (bel_then HBR7.out HBR7.out.size hb9)
          clear hb9 HS6' HS7 HVB8 HV7 HBR7 a0 a1 a2 a3 a4 b0 b1 b2 b3 b4
          go_wp2_with fail
          refine HS7'.out.mono ?_
          rintro e w10 ⟨rfl, hb10⟩
          have HBR10 := hid (bel_then HBW.out HBW.out.size (bel_then HBR9.out HBR9.out.size hb10))
          clear hb10 HS7' HBR9 d0 d1 d2 d3 d4 e0 e1 e2 e3 e4
          go_wp2_with fail
          go_roundg (o.length - (0 + 1))
          case measure => omega
          exact ⟨0 + 1, by go_num, by omega, by omega, HBR10.out⟩
      · obtain ⟨j, rfl⟩ : ∃ j, i = j + 1 := ⟨i - 1, by omega⟩
        obtain ⟨pn, ps, pl, z0, z1, z3, hpn, n2, n3⟩ := HPREV.out j rfl
        subst hpn
        have n2' : decide (xs ≤ ps) = false := decide_eq_false (by omega)
        have hz0 : decide ((0 : Int) < ((j + 1 : Nat) : Int)) = true := decide_eq_true (by omega)
        have hz1 : decide ((0 : Int) < (j : Int) + 1) = true := decide_eq_true (by omega)
        have hne : ((pn + 1 : Int) != pn + 1) = false := by simp
        have zz0 : ∀ ob, (wr.alloc ob).cell? ⟨b, j * 5, none⟩ = some (.int .i64 pn) := fun ob => cell_kept ob z0
        have zz1 : ∀ ob, (wr.alloc ob).cell? ⟨b, j * 5 + 1, none⟩ = some (.int .u64 ps) := fun ob => cell_kept ob z1
        have zz3 : ∀ ob, (wr.alloc ob).cell? ⟨b, j * 5 + 3, none⟩ = some (.bool pl) := fun ob => cell_kept ob z3
        have hcase2 : (xl = true ∧ (pn + 1 == 1) = true) ∨ (xl = true ∧ (pn + 1 == 1) = false) ∨ (xl = false ∧ pl = true ∧ (pn + 1 == 1) = false ∧ decide ((0 : Int) < (xo.length : Int)) = false ∧ decide (0 < xo.length) = false) := by
          rcases hcase with h | h | ⟨h1, h2, h3, h4⟩
          · exact Or.inl h
          · exact Or.inr (Or.inl h)
          · refine Or.inr (Or.inr ⟨h1, ?_, h2, h3, h4⟩)
            rcases n3 with h | h
            · rw [h1] at h; cases h
            · exact h
        clear z0 z1 z3 hcase n3
        rcases hcase2 with ⟨rfl, hq⟩ | ⟨rfl, hq⟩ | ⟨rfl, rfl, hq, h0, h0y⟩
        all_goals
          go_wp2_with fail
          refine wp_region_quiet_lit mixed (by kernel_rfl) ?_
          repeat (go_big_quiet_step (fail))
          refine wpQuiet_nil ?_
          intro _ hw'
          obtain ⟨nq, hw''⟩ := hw'
          subst hw''
          go_wp2_with fail
          try rw [hB]
          clear hB
          clear y0 y1 y2 y3 y4 HPREV H3 H4 zz0 zz1 zz3
          refine (HNU.out _).mono ?_
          rintro e w6 ⟨x6, rfl, hx6, hJ6, hb6⟩
          have hBA6 : Below _ _ (w6.alloc (.cells (encVx x6).toArray 41)) := hb6.alloc hb6.size _
          have HAT6 := hid (HAT.out _ hBA6)
          have HV6 : Hid (VerAt (w6.alloc (.cells (encVx x6).toArray 41)) w6.heap.size x6) := heap_alloc_new w6 _
          have HVB := hid (HVA.out.on hBA6)
          have hBA := bel_then HBA.out HBA.out.size hBA6
          have h6at : x6.at w6 := hJ6.1.is
          have HXA6 := hid (fun (W : World) (hW : Below (w6.alloc (.cells (encVx x6).toArray 41)).heap.size (w6.alloc (.cells (encVx x6).toArray 41)) W) => And.intro ((h6at.kept ((Below.refl _ _).alloc (Nat.le_refl _) _)).kept hW) (HVX.out W (bel_then hBA hBA.size hW)))
          have HBR := hid hBA
          have HX6 : Hid (x6.ver = XV) := hx6
          obtain ⟨A6, hA6⟩ : ∃ A6, w6.heap.size = A6 := ⟨_, rfl⟩
          rw [hA6] at HV6
          clear hx6 hJ6 hb6 hBA6 hBA HNU HAT HVA HBA h6at
          have HS6 := hid (fun (W : World) (hW : Below (w6.alloc (.cells (encVx x6).toArray 41)).heap.size (w6.alloc (.cells (encVx x6).toArray 41)) W) => HSV.out x6 W HX6.out (HXA6.out W hW).1 (HXA6.out W hW).2)
          obtain ⟨xn6, xs6, xt6, xl6, xp6, xc6, xo6⟩ := x6
          simp only [encVx, Vx.sl] at HAT6 HV6 HVB HXA6 HBR HS6 ⊢
          have bb1 := HVB.out.cells.2.1
          simp only [Nat.zero_add] at bb1
          go_wp2_with fail
          try rw [hA6]
          clear hA6
          clear bb1
          refine HAT6.out.mono ?_
          rintro e w7 ⟨x7, rfl, hx7, hJ7, hb7⟩
          have hBA7 : Below _ _ (w7.alloc (.cells (encVx x7).toArray 41)) := hb7.alloc hb7.size _
          have HS6' := hid (HS6.out _ hBA7)
          have HVB7 := HVB.out.on hBA7
          obtain ⟨a0, a1, a2, a3, a4⟩ := (HV6.out.on hBA7).cells
          obtain ⟨b0, b1, b2, b3, b4⟩ := HVB7.cells
          simp only [Nat.zero_add, Vx.sl] at a1 a2 a3 a4 b1 b2 b3 b4
          have HVB8 := hid HVB7
          have HV7 : Hid (VerAt (w7.alloc (.cells (encVx x7).toArray 41)) w7.heap.size x7) := heap_alloc_new w7 _
          obtain ⟨A7, hA7⟩ : ∃ A7, w7.heap.size = A7 := ⟨_, rfl⟩
          rw [hA7] at HV7
          have HX7 : Hid (x7.ver = XV) := hx7
          have h7at : x7.at w7 := hJ7.1.is
          have HS7 := hid (fun (W : World) (hW : Below (w7.alloc (.cells (encVx x7).toArray 41)).heap.size (w7.alloc (.cells (encVx x7).toArray 41)) W) => HSV.out x7 W HX7.out ((h7at.kept ((Below.refl _ _).alloc (Nat.le_refl _) _)).kept hW) (HXA6.out W (bel_then hBA7 hBA7.size hW)).2)
          have HBR7 := hid (bel_then HBR.out HBR.out.size hBA7)
          clear hx7 hJ7 hb7 hBA7 HVB7 h7at HAT6 HS6 HXA6 HVB HV6 HBR
          obtain ⟨xn7, xs7, xt7, xl7, xp7, xc7, xo7⟩ := x7
          simp only [encVx, Vx.sl] at HS6' HVB8 HV7 HS7 HBR7 a0 a1 a2 a3 a4 b0 b1 b2 b3 b4 ⊢
          go_wp2_with fail
          try rw [hA7]
          clear hA7
          refine HS6'.out.mono ?_
          rintro e w9 ⟨rfl, hb9⟩
          obtain ⟨d0, d1, d2, d3, d4⟩ := (HV7.out.on hb9).cells
          obtain ⟨e0, e1, e2, e3, e4⟩ := (HVB8.out.on hb9).cells
          simp only [Nat.zero_add, Vx.sl] at d1 d2 d3 d4 e1 e2 e3 e4
          have HS7' := hid (HS7.out w9 hb9)
          have HBR9 := hid (bel_then HBR7.out HBR7.out.size hb9)
          clear hb9 HS6' HS7 HVB8 HV7 HBR7 a0 a1 a2 a3 a4 b0 b1 b2 b3 b4
          go_wp2_with fail
          refine HS7'.out.mono ?_
          rintro e w10 ⟨rfl, hb10⟩
          have HBR10 := hid (bel_then HBW.out HBW.out.size (bel_then HBR9.out HBR9.out.size hb10))
          clear hb10 HS7' HBR9 d0 d1 d2 d3 d4 e0 e1 e2 e3 e4
          go_wp2_with fail
          go_roundg (o.length - (j + 1 + 1))
          case measure => omega
          exact ⟨j + 1 + 1, by go_num, by omega, by omega, HBR10.out⟩
    · have hltz : ¬ (i : Int) < (o.length : Int) := by omega
      have HBE := hid (bel_then HB5.out HB5.out.size HW.out)
      go_wp2_with fail
      go_ret
      exact ⟨rfl, HBE.out⟩

end Go.Proofs.Ytipbdpjnabeilaa
