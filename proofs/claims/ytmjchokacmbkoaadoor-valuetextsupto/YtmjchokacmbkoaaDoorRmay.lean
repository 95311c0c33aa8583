/-
  The contract of the reference's May.
-/
import Derived.Test.YtmjchokacmbkoaaDoorMay
import Derived.Test.YtmjchokacmbkoaaDoorRname
import Derived.Test.YtmjchokacmbkoaaDoorEnc
namespace Go.Proofs.YtmjchokacmbkoaaDoor
open Go.RowKit

theorem step_of {fs : List Fld} {i : Nat} {f : Fld} (h : fs.getD i default = f) (h1 : fieldB f.1.data.toList = true) (h2 : 0 < f.2.length) (h3 : f.2.length ≤ 8) (h4 : ∀ t ∈ f.2, t.size ≤ 128) (h5 : i = 0 ∨ ltN (fs.getD (i - 1) default).1 f.1 = true) : stepOk fs i = true := by
  unfold stepOk fitsB
  rw [h, h1, decide_eq_true h3]
  have e1 : f.2.isEmpty = false := by
    cases hf : f.2 with
    | nil => rw [hf] at h2; simp at h2
    | cons _ _ => rfl
  have e2 : f.2.any longB = false := by
    rw [List.any_eq_false]
    intro t ht
    have := h4 t ht
    unfold longB
    simpa using this
  rw [e1, e2]
  rcases h5 with h5 | h5
  · rw [decide_eq_true h5]; rfl
  · rw [h5]; simp

theorem step_not {fs : List Fld} {i : Nat} {f : Fld} (h : fs.getD i default = f) (hn : fieldB f.1.data.toList = false ∨ f.2.length = 0 ∨ 8 < f.2.length ∨ (∃ t ∈ f.2, 128 < t.size) ∨ (i ≠ 0 ∧ ltN (fs.getD (i - 1) default).1 f.1 = false)) : stepOk fs i = false := by
  unfold stepOk fitsB
  rw [h]
  rcases hn with hn | hn | hn | ⟨t, ht, hn⟩ | ⟨hn, hm⟩
  · rw [hn]; rfl
  · rw [List.length_eq_zero_iff] at hn
    rw [hn]; simp
  · rw [decide_eq_false (by omega)]; simp
  · have : f.2.any longB = true := by
      rw [List.any_eq_true]
      exact ⟨t, ht, by unfold longB; simpa using hn⟩
    rw [this]; simp
  · rw [decide_eq_false hn, hm]; simp

set_option maxHeartbeats 1000000 in
set_option maxRecDepth 100000 in
theorem rmay_any (v : Value) (d : List Fx) (w : World) (hv : IsXs w v d) (hf : FitX d) : Calls Tryd.prog 14 #[v] w fun e w' => e = .returned (.bool (mayB (d.map Fx.fld))) ∧ Grown w w' := by
  obtain ⟨p, cap, rfl, hd, ht⟩ := hv
  have HT := hid ht
  have HF := hid hf.2
  have hl := hf.1
  unfold maxLen at hl
  have HD := hid hd
  clear ht hf hd
  obtain ⟨r, hr⟩ : ∃ r, mayB (d.map Fx.fld) = r := ⟨_, rfl⟩
  rw [hr]
  have HR := hid hr
  clear hr
  go_enter Tryd.func14, Tryd.ntmps14
  go_wp2_with fail
  go_loopg [3] d.length (fun g vi wr => ∃ i : Nat, vi = .int .i64 i ∧ i ≤ d.length ∧ i ≤ 16 ∧ d.length - i ≤ g ∧ Grown w wr ∧ Hid (∀ j, j < i → stepOk (d.map Fx.fld) j = true))
  case atStart => exact ⟨0, rfl, by omega, by omega, by omega, Grown.refl _, fun j h => by omega⟩
  case round =>
    obtain ⟨i, rfl, hi, hi16, hg, hb, HJ⟩ := hrel
    by_cases hlt : i < d.length
    · have hltz : (i : Int) < (d.length : Int) := by omega
      have hiz : (0 : Int) ≤ i := by omega
      obtain ⟨b, off, rfl, hxs⟩ : ∃ b off, p = some ⟨b, off, none⟩ ∧ XsAt w b off d := by
        rcases HD.out with h | h
        · subst h; simp at hlt
        · exact h
      have hxr := hxs.kept hb.below
      obtain ⟨c0, c1⟩ := hxr i hlt
      have hxi : (d[i]).at wr := (HT.out _ (List.getElem_mem hlt)).kept hb.below
      have hfi := HF.out _ (List.getElem_mem hlt)
      have hsx := flds_at hlt
      obtain ⟨x, hx⟩ : ∃ x, d[i] = x := ⟨_, rfl⟩
      rw [hx] at c0 c1 hxi hfi hsx
      have HXR := hid hxr
      have HXI := hid hxi
      have hns : x.name.size ≤ maxLen := hfi.1
      have htl : x.txt.length ≤ maxLen := hfi.2.1
      unfold maxLen at htl
      have HNS := hid hns
      have HFI := hid hfi
      have HSX := hid hsx
      clear hxr hxs hxi hfi hx hsx hns
      unfold Fx.sl at c1
      have mixed := Tryd.mixed
      have HFX : Hid (∀ W, Calls Tryd.prog 35 #[.string x.name] W fun e w' => e = .returned (.bool (fieldB x.name.data.toList)) ∧ w' = W) := fun W => rfield_any x.name W HNS.out
      by_cases h16 : i = 16
      · subst h16
        have H0 : Hid (r = false) := HR.out.symm.trans (may_long (by rw [List.length_map]; omega))
        go_wp2_with fail
        go_quiet (fail)
        go_wp2_with fail
        go_ret
        exact ⟨ret_bool H0.out.symm, (hb.alloc _).drewN _⟩
      have h16z : decide ((16 : Int) ≤ (i : Int)) = false := decide_eq_false (by omega)
      cases hfx : fieldB x.name.data.toList with
      | false =>
        rw [hfx] at HFX
        have H0 : Hid (r = false) := HR.out.symm.trans (may_no (i := i) (by rw [List.length_map]; exact hlt) (step_not HSX.out (Or.inl hfx)))
        go_wp2_with fail
        refine wp_region_quiet_lit mixed (by kernel_rfl) ?_
        repeat (go_big_quiet_step (first | (go_at_call 35; refine Calls.quiet_of_same (HFX.out _))))
        refine wpQuiet_nil ?_
        intro _ hw'
        obtain ⟨nq, hw''⟩ := hw'
        subst hw''
        go_wp2_with fail
        go_ret
        exact ⟨ret_bool H0.out.symm, (hb.alloc _).drewN _⟩
      | true =>
        rw [hfx] at HFX
        by_cases h0 : i = 0
        · have h0z : decide ((0 : Int) < (i : Int)) = false := decide_eq_false (by omega)
          have h0y : decide (0 < i) = false := decide_eq_false (by omega)
          have H00 := hid h0
          clear h0
          by_cases ht0 : x.txt.length = 0
          · have ht0z : (x.txt.length : Int) = 0 := by omega
            have H0 : Hid (r = false) := HR.out.symm.trans (may_no (i := i) (by rw [List.length_map]; exact hlt) (step_not HSX.out (Or.inr (Or.inl ht0))))
            go_wp2_with fail
            refine wp_region_quiet_lit mixed (by kernel_rfl) ?_
            repeat (go_big_quiet_step (first | (go_at_call 35; refine Calls.quiet_of_same (HFX.out _))))
            refine wpQuiet_nil ?_
            intro _ hw'
            obtain ⟨nq, hw''⟩ := hw'
            subst hw''
            go_wp2_with fail
            go_ret
            exact ⟨ret_bool H0.out.symm, (hb.alloc _).drewN _⟩
          have ht0z : ¬ (x.txt.length : Int) = 0 := by omega
          have ht0d : ((x.txt.length : Int) == 0) = false := beq_eq_false_iff_ne.2 ht0z
          by_cases ht8 : 8 < x.txt.length
          · have ht8z : (8 : Int) < (x.txt.length : Int) := by omega
            have H0 : Hid (r = false) := HR.out.symm.trans (may_no (i := i) (by rw [List.length_map]; exact hlt) (step_not HSX.out (Or.inr (Or.inr (Or.inl ht8)))))
            go_wp2_with fail
            refine wp_region_quiet_lit mixed (by kernel_rfl) ?_
            repeat (go_big_quiet_step (first | (go_at_call 35; refine Calls.quiet_of_same (HFX.out _))))
            refine wpQuiet_nil ?_
            intro _ hw'
            obtain ⟨nq, hw''⟩ := hw'
            subst hw''
            go_wp2_with fail
            go_ret
            exact ⟨ret_bool H0.out.symm, (hb.alloc _).drewN _⟩
          have ht8z : decide ((8 : Int) < (x.txt.length : Int)) = false := decide_eq_false (by omega)
          have HST : Hid ((∀ t ∈ x.txt, t.size ≤ 128) → stepOk (d.map Fx.fld) (i) = true) := fun h => step_of HSX.out hfx (by show 0 < x.txt.length; omega) (by show x.txt.length ≤ 8; omega) h (Or.inl H00.out)
          obtain ⟨bt, ot, hpt, hct0⟩ : ∃ bt ot, x.p = some ⟨bt, ot, none⟩ ∧ ∀ l, (h : l < x.txt.length) → wr.cell? ⟨bt, ot + l, none⟩ = some (.string x.txt[l]) := by
            rcases HXI.out with h | h
            · exact absurd (by rw [h]; rfl) ht0
            · exact h
          have HCT0 := hid hct0
          rw [hpt] at c1
          clear hpt hct0
          go_wp2_with fail
          refine wp_region_quiet_lit mixed (by kernel_rfl) ?_
          repeat (go_big_quiet_step (first | (go_at_call 35; refine Calls.quiet_of_same (HFX.out _))))
          refine wpQuiet_nil ?_
          intro _ hw'
          obtain ⟨nq, hw''⟩ := hw'
          subst hw''
          go_wp2_with fail
          obtain ⟨W2, hW2⟩ : ∃ W2, (wr.alloc (.cells #[.string x.name, .slice (some ⟨bt, ot, none⟩) x.txt.length x.cap] 45)).drewN nq = W2 := ⟨_, rfl⟩
          have hgW : Grown wr W2 := by rw [← hW2]; exact ((Grown.refl wr).alloc _).drewN _
          have q1 : W2.cell? ⟨wr.heap.size, 1, none⟩ = some (.slice (some ⟨bt, ot, none⟩) x.txt.length x.cap) := by rw [← hW2]; exact (x_new wr ⟨x.name, some ⟨bt, ot, none⟩, x.cap, x.txt⟩ (wr.alloc _) (Below.refl _ _)).2
          have hat : ∀ l, (h : l < x.txt.length) → W2.cell? ⟨bt, ot + l, none⟩ = some (.string x.txt[l]) := fun l h => (hgW.below.cell (p := ⟨bt, ot + l, none⟩) (cell_block (HCT0.out l h))).trans (HCT0.out l h)
          have HGW := hid hgW
          have HAT := hid hat
          rw [hW2]
          clear hgW hat hW2
          go_loopg [5] x.txt.length (fun g vj W => ∃ j : Nat, vj = .int .i64 j ∧ j ≤ x.txt.length ∧ x.txt.length - j ≤ g ∧ W = W2 ∧ Hid (∀ l (h : l < x.txt.length), l < j → (x.txt[l]).size ≤ 128))
          case atStart => exact ⟨0, rfl, by omega, by omega, rfl, fun l _ h => by omega⟩
          case round =>
            obtain ⟨j, rfl, hj, hgj, rfl, HL⟩ := hrel
            by_cases hjl : j < x.txt.length
            · have hjz : (j : Int) < (x.txt.length : Int) := by omega
              have hj0 : (0 : Int) ≤ (j : Int) := by omega
              have ctj := HAT.out j hjl
              obtain ⟨t, htt⟩ : ∃ t, x.txt[j] = t := ⟨_, rfl⟩
              have HTT := hid htt
              rw [htt] at ctj
              clear htt
              by_cases hts : 128 < t.size
              · have htsz : (128 : Int) < (t.size : Int) := by omega
                have H0 : Hid (r = false) := HR.out.symm.trans (may_no (i := i) (by rw [List.length_map]; exact hlt) (step_not HSX.out (Or.inr (Or.inr (Or.inr (Or.inl ⟨t, by rw [← HTT.out]; exact List.getElem_mem hjl, hts⟩))))))
                go_wp2_with fail
                go_ret
                exact ⟨ret_bool H0.out.symm, hb.trans HGW.out⟩
              · have htsz : ¬ (128 : Int) < (t.size : Int) := by omega
                go_wp2_with fail
                go_roundg (x.txt.length - (j + 1))
                case measure => omega
                refine ⟨j + 1, by go_num, by omega, by omega, rfl, fun l hl hlj => ?_⟩
                by_cases e : l = j
                · subst e; rw [HTT.out]; omega
                · exact HL.out l hl (by omega)
            · have hjz : ¬ (j : Int) < (x.txt.length : Int) := by omega
              have H1 := hid (HST.out fun t ht => by
                obtain ⟨l, hl, rfl⟩ := List.mem_iff_getElem.1 ht
                exact HL.out l hl (by omega))
              go_wp2_with fail
              go_roundg (d.length - (i + 1))
              case measure => omega
              refine ⟨i + 1, by go_num, by omega, by omega, by omega, hb.trans HGW.out, fun l hl => ?_⟩
              by_cases e : l = i
              · subst e; exact H1.out
              · exact HJ.out l (by omega)
        · obtain ⟨k, rfl⟩ : ∃ k, i = k + 1 := ⟨i - 1, by omega⟩
          obtain ⟨e0, _⟩ := HXR.out k (by omega)
          have hsy := flds_at (d := d) (i := k) (by omega)
          obtain ⟨y, hy⟩ : ∃ y, d[k] = y := ⟨_, rfl⟩
          rw [hy] at e0 hsy
          have HSY := hid hsy
          clear hy hsy
          have k1 : (0 : Int) < (k : Int) + 1 := by omega
          have hltk : (k : Int) + 1 < (d.length : Int) := by omega
          have h16y : decide ((16 : Int) ≤ (k : Int) + 1) = false := decide_eq_false (by omega)
          have k2 : (0 : Int) ≤ (k : Int) := by omega
          have k3 : (k : Int) < (d.length : Int) := by omega
          have e1 : ∀ o, (wr.alloc o).cell? ⟨b, off + k * 2, none⟩ = some (.string y.name) := fun o => by
            rw [← e0]; exact ((Below.refl wr.heap.size wr).alloc (Nat.le_refl _) _).cell (p := ⟨b, off + k * 2, none⟩) (cell_block e0)
          cases hlt2 : Op.bytesLess y.name.toList x.name.toList with
          | false =>
            have H0 : Hid (r = false) := HR.out.symm.trans (may_no (i := k + 1) (by rw [List.length_map]; exact hlt) (step_not HSX.out (Or.inr (Or.inr (Or.inr (Or.inr ⟨by omega, by rw [Nat.add_sub_cancel, HSY.out]; exact hlt2⟩))))))
            go_wp2_with fail
            refine wp_region_quiet_lit mixed (by kernel_rfl) ?_
            repeat (go_big_quiet_step (first | (go_at_call 35; refine Calls.quiet_of_same (HFX.out _))))
            refine wpQuiet_nil ?_
            intro _ hw'
            obtain ⟨nq, hw''⟩ := hw'
            subst hw''
            go_wp2_with fail
            go_ret
            exact ⟨ret_bool H0.out.symm, (hb.alloc _).drewN _⟩
          | true =>
            by_cases ht0 : x.txt.length = 0
            · have ht0z : (x.txt.length : Int) = 0 := by omega
              have H0 : Hid (r = false) := HR.out.symm.trans (may_no (i := k + 1) (by rw [List.length_map]; exact hlt) (step_not HSX.out (Or.inr (Or.inl ht0))))
              go_wp2_with fail
              refine wp_region_quiet_lit mixed (by kernel_rfl) ?_
              repeat (go_big_quiet_step (first | (go_at_call 35; refine Calls.quiet_of_same (HFX.out _))))
              refine wpQuiet_nil ?_
              intro _ hw'
              obtain ⟨nq, hw''⟩ := hw'
              subst hw''
              go_wp2_with fail
              go_ret
              exact ⟨ret_bool H0.out.symm, (hb.alloc _).drewN _⟩
            have ht0z : ¬ (x.txt.length : Int) = 0 := by omega
            have ht0d : ((x.txt.length : Int) == 0) = false := beq_eq_false_iff_ne.2 ht0z
            by_cases ht8 : 8 < x.txt.length
            · have ht8z : (8 : Int) < (x.txt.length : Int) := by omega
              have H0 : Hid (r = false) := HR.out.symm.trans (may_no (i := k + 1) (by rw [List.length_map]; exact hlt) (step_not HSX.out (Or.inr (Or.inr (Or.inl ht8)))))
              go_wp2_with fail
              refine wp_region_quiet_lit mixed (by kernel_rfl) ?_
              repeat (go_big_quiet_step (first | (go_at_call 35; refine Calls.quiet_of_same (HFX.out _))))
              refine wpQuiet_nil ?_
              intro _ hw'
              obtain ⟨nq, hw''⟩ := hw'
              subst hw''
              go_wp2_with fail
              go_ret
              exact ⟨ret_bool H0.out.symm, (hb.alloc _).drewN _⟩
            have ht8z : decide ((8 : Int) < (x.txt.length : Int)) = false := decide_eq_false (by omega)
            have HST : Hid ((∀ t ∈ x.txt, t.size ≤ 128) → stepOk (d.map Fx.fld) (k + 1) = true) := fun h => step_of HSX.out hfx (by show 0 < x.txt.length; omega) (by show x.txt.length ≤ 8; omega) h (Or.inr (by rw [Nat.add_sub_cancel, HSY.out]; exact hlt2))
            obtain ⟨bt, ot, hpt, hct0⟩ : ∃ bt ot, x.p = some ⟨bt, ot, none⟩ ∧ ∀ l, (h : l < x.txt.length) → wr.cell? ⟨bt, ot + l, none⟩ = some (.string x.txt[l]) := by
              rcases HXI.out with h | h
              · exact absurd (by rw [h]; rfl) ht0
              · exact h
            have HCT0 := hid hct0
            rw [hpt] at c1
            clear hpt hct0
            go_wp2_with fail
            refine wp_region_quiet_lit mixed (by kernel_rfl) ?_
            repeat (go_big_quiet_step (first | (go_at_call 35; refine Calls.quiet_of_same (HFX.out _))))
            refine wpQuiet_nil ?_
            intro _ hw'
            obtain ⟨nq, hw''⟩ := hw'
            subst hw''
            go_wp2_with fail
            obtain ⟨W2, hW2⟩ : ∃ W2, (wr.alloc (.cells #[.string x.name, .slice (some ⟨bt, ot, none⟩) x.txt.length x.cap] 45)).drewN nq = W2 := ⟨_, rfl⟩
            have hgW : Grown wr W2 := by rw [← hW2]; exact ((Grown.refl wr).alloc _).drewN _
            have q1 : W2.cell? ⟨wr.heap.size, 1, none⟩ = some (.slice (some ⟨bt, ot, none⟩) x.txt.length x.cap) := by rw [← hW2]; exact (x_new wr ⟨x.name, some ⟨bt, ot, none⟩, x.cap, x.txt⟩ (wr.alloc _) (Below.refl _ _)).2
            have hat : ∀ l, (h : l < x.txt.length) → W2.cell? ⟨bt, ot + l, none⟩ = some (.string x.txt[l]) := fun l h => (hgW.below.cell (p := ⟨bt, ot + l, none⟩) (cell_block (HCT0.out l h))).trans (HCT0.out l h)
            have HGW := hid hgW
            have HAT := hid hat
            rw [hW2]
            clear hgW hat hW2
            go_loopg [5] x.txt.length (fun g vj W => ∃ j : Nat, vj = .int .i64 j ∧ j ≤ x.txt.length ∧ x.txt.length - j ≤ g ∧ W = W2 ∧ Hid (∀ l (h : l < x.txt.length), l < j → (x.txt[l]).size ≤ 128))
            case atStart => exact ⟨0, rfl, by omega, by omega, rfl, fun l _ h => by omega⟩
            case round =>
              obtain ⟨j, rfl, hj, hgj, rfl, HL⟩ := hrel
              by_cases hjl : j < x.txt.length
              · have hjz : (j : Int) < (x.txt.length : Int) := by omega
                have hj0 : (0 : Int) ≤ (j : Int) := by omega
                have ctj := HAT.out j hjl
                obtain ⟨t, htt⟩ : ∃ t, x.txt[j] = t := ⟨_, rfl⟩
                have HTT := hid htt
                rw [htt] at ctj
                clear htt
                by_cases hts : 128 < t.size
                · have htsz : (128 : Int) < (t.size : Int) := by omega
                  have H0 : Hid (r = false) := HR.out.symm.trans (may_no (i := k + 1) (by rw [List.length_map]; exact hlt) (step_not HSX.out (Or.inr (Or.inr (Or.inr (Or.inl ⟨t, by rw [← HTT.out]; exact List.getElem_mem hjl, hts⟩))))))
                  go_wp2_with fail
                  go_ret
                  exact ⟨ret_bool H0.out.symm, hb.trans HGW.out⟩
                · have htsz : ¬ (128 : Int) < (t.size : Int) := by omega
                  go_wp2_with fail
                  go_roundg (x.txt.length - (j + 1))
                  case measure => omega
                  refine ⟨j + 1, by go_num, by omega, by omega, rfl, fun l hl hlj => ?_⟩
                  by_cases e : l = j
                  · subst e; rw [HTT.out]; omega
                  · exact HL.out l hl (by omega)
              · have hjz : ¬ (j : Int) < (x.txt.length : Int) := by omega
                have H1 := hid (HST.out fun t ht => by
                  obtain ⟨l, hl, rfl⟩ := List.mem_iff_getElem.1 ht
                  exact HL.out l hl (by omega))
                go_wp2_with fail
                go_roundg (d.length - (k + 1 + 1))
                case measure => omega
                refine ⟨k + 1 + 1, by go_num, by omega, by omega, by omega, hb.trans HGW.out, fun l hl => ?_⟩
                by_cases e : l = k + 1
                · subst e; exact H1.out
                · exact HJ.out l (by omega)
    · have hltz : ¬ (i : Int) < (d.length : Int) := by omega
      have H0 : Hid (r = true) := HR.out.symm.trans (may_yes (by rw [List.length_map]; omega) (fun j hj => HJ.out j (by rw [List.length_map] at hj; omega)))
      go_wp2_with fail
      go_ret
      exact ⟨ret_bool H0.out.symm, hb⟩

end Go.Proofs.YtmjchokacmbkoaaDoor
