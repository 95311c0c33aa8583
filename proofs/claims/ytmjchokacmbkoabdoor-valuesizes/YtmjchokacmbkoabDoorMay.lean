/-
  The contract of May.
-/
import Derived.Test.YtmjchokacmbkoabDoorMay0
namespace Go.Proofs.YtmjchokacmbkoabDoor
open Go.RowKit

def ltN (a b : ByteArray) : Bool := Op.bytesLess a.toList b.toList
def stepOk (fs : List Fld) (i : Nat) : Bool := fitsB (fs.getD i default) && (decide (i = 0) || ltN (fs.getD (i - 1) default).1 (fs.getD i default).1)
def mayB (fs : List Fld) : Bool := decide (fs.length ≤ 16) && (List.range fs.length).all (stepOk fs)

theorem flds_at {d : List Fx} {i : Nat} (h : i < d.length) : (d.map Fx.fld).getD i default = d[i].fld := by
  rw [List.getD_eq_getElem?_getD, List.getElem?_map, List.getElem?_eq_getElem h]; rfl

theorem may_long {fs : List Fld} (h : 16 < fs.length) : mayB fs = false := by
  unfold mayB; rw [decide_eq_false (by omega)]; rfl
theorem may_no {fs : List Fld} {i : Nat} (h : i < fs.length) (hs : stepOk fs i = false) : mayB fs = false := by
  unfold mayB
  have : (List.range fs.length).all (stepOk fs) = false := by
    rw [Bool.eq_false_iff]
    intro ha
    rw [List.all_eq_true] at ha
    have := ha i (List.mem_range.2 h)
    rw [hs] at this; cases this
  rw [this]; simp
theorem may_yes {fs : List Fld} (h : fs.length ≤ 16) (hs : ∀ i, i < fs.length → stepOk fs i = true) : mayB fs = true := by
  unfold mayB
  have : (List.range fs.length).all (stepOk fs) = true := by
    rw [List.all_eq_true]
    exact fun i hi => hs i (List.mem_range.1 hi)
  rw [this, decide_eq_true h]; rfl

theorem x_new (w : World) (x : Fx) (w' : World) (hb : Below (w.alloc (.cells #[.string x.name, .slice x.p x.txt.length x.cap] 30)).heap.size (w.alloc (.cells #[.string x.name, .slice x.p x.txt.length x.cap] 30)) w') :
    w'.cell? ⟨w.heap.size, 0, none⟩ = some (.string x.name) ∧ w'.cell? ⟨w.heap.size, 1, none⟩ = some (.slice x.p x.txt.length x.cap) :=
  ⟨(hb.cell (p := ⟨w.heap.size, 0, none⟩) (by simp)).trans (by simp [go_sem]), (hb.cell (p := ⟨w.heap.size, 1, none⟩) (by simp)).trans (by simp [go_sem])⟩

set_option maxHeartbeats 4000000 in
set_option maxRecDepth 100000 in
theorem may_any (v : Value) (d : List Fx) (w : World) (hv : IsXs w v d) (hf : FitX d) : Calls Tryd.prog 16 #[v] w fun e w' => e = .returned (.bool (mayB (d.map Fx.fld))) ∧ Grown w w' := by
  obtain ⟨p, cap, rfl, hd, ht⟩ := hv
  have HT := hid ht
  have HF := hid hf.2
  have hl := hf.1
  unfold maxLen at hl
  have HD := hid hd
  clear ht hf hd
  obtain ⟨r, hr⟩ : ∃ r, mayB (d.map Fx.fld) = r := ⟨_, rfl⟩
  rw [hr]
  have HR := hid hr
  clear hr
  by_cases h16 : 16 < d.length
  · have h16z : (16 : Int) < d.length := by omega
    have H0 : Hid (r = false) := HR.out.symm.trans (may_long (by rw [List.length_map]; exact h16))
    go_enter Tryd.func16, Tryd.ntmps16
    go_wp2_with fail
    go_ret
    exact ⟨ret_bool H0.out.symm, Grown.refl _⟩
  have h16z : ¬ (16 : Int) < d.length := by omega
  go_enter Tryd.func16, Tryd.ntmps16
  go_wp2_with fail
  go_loopg [10] d.length (fun g vi wr => ∃ i : Nat, vi = .int .i64 i ∧ i ≤ d.length ∧ d.length - i ≤ g ∧ Grown w wr ∧ Hid (∀ j, j < i → stepOk (d.map Fx.fld) j = true))
  case atStart => exact ⟨0, rfl, by omega, by omega, Grown.refl _, fun j h => by omega⟩
  case round =>
    obtain ⟨i, rfl, hi, hg, hb, HJ⟩ := hrel
    by_cases hlt : i < d.length
    · have hltz : (i : Int) < (d.length : Int) := by omega
      have hiz : (0 : Int) ≤ i := by omega
      obtain ⟨b, off, rfl, hxs⟩ : ∃ b off, p = some ⟨b, off, none⟩ ∧ XsAt w b off d := by
        rcases HD.out with h | h
        · subst h; simp at hlt
        · exact h
      have hxr := hxs.kept hb.below
      obtain ⟨c0, c1⟩ := hxr i hlt
      have hxi : (d[i]).at wr := (HT.out _ (List.getElem_mem hlt)).kept hb.below
      have hfi := HF.out _ (List.getElem_mem hlt)
      have hsx := flds_at hlt
      obtain ⟨x, hx⟩ : ∃ x, d[i] = x := ⟨_, rfl⟩
      rw [hx] at c0 c1 hxi hfi hsx
      have HXR := hid hxr
      have HXI := hid hxi
      have HFI := hid hfi
      have HSX := hid hsx
      clear hxr hxs hxi hfi hx hsx
      unfold Fx.sl at c1
      have FFX : Hid (∀ W, x.at W → Calls Tryd.prog 33 #[.agg #[.string x.name, .slice x.p x.txt.length x.cap]] W fun e w' => e = .returned (.bool (fitsB x.fld)) ∧ ∃ q os', w' = Sort.grow (W.drewN q) os') := fun W h => fits_any x W h HFI.out
      have mixed := Tryd.mixed
      by_cases h0 : i = 0
      · have h0z : ¬ (0 : Int) < (i : Int) := by omega
        have H00 := hid h0
        clear h0
        go_wp2_with fail
        obtain ⟨W1, hW1⟩ : ∃ W1, wr.alloc (.cells #[.string x.name, .slice x.p x.txt.length x.cap] 30) = W1 := ⟨_, rfl⟩
        have full : ∀ n os, (Sort.grow (W1.drewN n) os).cell? ⟨wr.heap.size, 0, none⟩ = some (.string x.name) ∧ (Sort.grow (W1.drewN n) os).cell? ⟨wr.heap.size, 1, none⟩ = some (.slice x.p x.txt.length x.cap) ∧ x.at (Sort.grow (W1.drewN n) os) := fun n os => by
          subst hW1
          have hgr := (Grown.refl (wr.alloc (.cells #[.string x.name, .slice x.p x.txt.length x.cap] 30))).on (q := n) (os := os)
          obtain ⟨f0, f1⟩ := x_new wr x _ hgr.below
          have hbw := (((Grown.refl wr).alloc (.cells #[.string x.name, .slice x.p x.txt.length x.cap] 30)).trans hgr).below
          exact ⟨f0, f1, HXI.out.kept hbw⟩
        have q0 : ∀ n os, (Sort.grow (W1.drewN n) os).cell? ⟨wr.heap.size, 0, none⟩ = some (.string x.name) := fun n os => (full n os).1
        have q1 : ∀ n os, (Sort.grow (W1.drewN n) os).cell? ⟨wr.heap.size, 1, none⟩ = some (.slice x.p x.txt.length x.cap) := fun n os => (full n os).2.1
        have Q3 : Hid (∀ n os, x.at (Sort.grow (W1.drewN n) os)) := fun n os => (full n os).2.2
        have hbW : Grown w W1 := by subst hW1; exact hb.alloc _
        rw [hW1]
        clear full hW1 c0 c1
        cases hfx : fitsB x.fld with
        | false =>
          rw [hfx] at FFX
          have H0 : Hid (r = false) := HR.out.symm.trans (may_no (i := i) (by rw [List.length_map]; exact hlt) (by unfold stepOk; rw [HSX.out, hfx]; rfl))
          refine wp_region_quiet_grown mixed (by kernel_rfl) ?_
          repeat (go_big_quiet_step (first | (go_at_call 33; refine Calls.grown_of (FFX.out _ (Q3.out _ _)))))
          refine wpQuiet_nil ?_
          intro _ hw'
          obtain ⟨⟨nq, osq⟩, hw''⟩ := hw'
          subst hw''
          go_wp2_with fail
          go_ret
          exact ⟨ret_bool H0.out.symm, hbW.on⟩
        | true =>
          rw [hfx] at FFX
          have cb : decide (0 < i) = false := decide_eq_false (by have := H00.out; omega)
          have H0 : Hid (stepOk (d.map Fx.fld) i = true) := by show _ = _; unfold stepOk; rw [HSX.out, hfx, decide_eq_true H00.out]; rfl
          refine wp_region_quiet_grown mixed (by kernel_rfl) ?_
          repeat (go_big_quiet_step (first | (go_at_call 33; refine Calls.grown_of (FFX.out _ (Q3.out _ _)))))
          refine wpQuiet_nil ?_
          intro _ hw'
          obtain ⟨⟨nq, osq⟩, hw''⟩ := hw'
          subst hw''
          go_wp2_with fail
          go_roundg (d.length - (i + 1))
          case measure => omega
          refine ⟨i + 1, by go_num, by omega, by omega, hbW.on, fun j hj => ?_⟩
          obtain rfl : j = i := by have := H00.out; omega
          exact H0.out
      · obtain ⟨k, rfl⟩ : ∃ k, i = k + 1 := ⟨i - 1, by omega⟩
        obtain ⟨e0, e1⟩ := HXR.out k (by omega)
        have hsy := flds_at (d := d) (i := k) (by omega)
        obtain ⟨y, hy⟩ : ∃ y, d[k] = y := ⟨_, rfl⟩
        rw [hy] at e0 hsy
        have HSY := hid hsy
        clear e1 hy hsy
        have k1 : (0 : Int) < (k : Int) + 1 := by omega
        have k2 : (0 : Int) ≤ (k : Int) := by omega
        have k3 : (k : Int) < (d.length : Int) := by omega
        go_wp2_with fail
        obtain ⟨W1, hW1⟩ : ∃ W1, wr.alloc (.cells #[.string x.name, .slice x.p x.txt.length x.cap] 30) = W1 := ⟨_, rfl⟩
        have full : ∀ n os, (Sort.grow (W1.drewN n) os).cell? ⟨wr.heap.size, 0, none⟩ = some (.string x.name) ∧ (Sort.grow (W1.drewN n) os).cell? ⟨wr.heap.size, 1, none⟩ = some (.slice x.p x.txt.length x.cap) ∧ (Sort.grow (W1.drewN n) os).cell? ⟨b, off + k * 2, none⟩ = some (.string y.name) ∧ x.at (Sort.grow (W1.drewN n) os) := fun n os => by
          subst hW1
          have hgr := (Grown.refl (wr.alloc (.cells #[.string x.name, .slice x.p x.txt.length x.cap] 30))).on (q := n) (os := os)
          obtain ⟨f0, f1⟩ := x_new wr x _ hgr.below
          have hbw := (((Grown.refl wr).alloc (.cells #[.string x.name, .slice x.p x.txt.length x.cap] 30)).trans hgr).below
          exact ⟨f0, f1, (hbw.cell (p := ⟨b, off + k * 2, none⟩) (cell_block e0)).trans e0, HXI.out.kept hbw⟩
        have q0 : ∀ n os, (Sort.grow (W1.drewN n) os).cell? ⟨wr.heap.size, 0, none⟩ = some (.string x.name) := fun n os => (full n os).1
        have q1 : ∀ n os, (Sort.grow (W1.drewN n) os).cell? ⟨wr.heap.size, 1, none⟩ = some (.slice x.p x.txt.length x.cap) := fun n os => (full n os).2.1
        have q2 : ∀ n os, (Sort.grow (W1.drewN n) os).cell? ⟨b, off + k * 2, none⟩ = some (.string y.name) := fun n os => (full n os).2.2.1
        have Q3 : Hid (∀ n os, x.at (Sort.grow (W1.drewN n) os)) := fun n os => (full n os).2.2.2
        have hbW : Grown w W1 := by subst hW1; exact hb.alloc _
        rw [hW1]
        clear full hW1 c0 c1 e0
        cases hfx : fitsB x.fld with
        | false =>
          rw [hfx] at FFX
          have H0 : Hid (r = false) := HR.out.symm.trans (may_no (i := k + 1) (by rw [List.length_map]; exact hlt) (by unfold stepOk; rw [HSX.out, hfx]; rfl))
          refine wp_region_quiet_grown mixed (by kernel_rfl) ?_
          repeat (go_big_quiet_step (first | (go_at_call 33; refine Calls.grown_of (FFX.out _ (Q3.out _ _)))))
          refine wpQuiet_nil ?_
          intro _ hw'
          obtain ⟨⟨nq, osq⟩, hw''⟩ := hw'
          subst hw''
          go_wp2_with fail
          go_ret
          exact ⟨ret_bool H0.out.symm, hbW.on⟩
        | true =>
          rw [hfx] at FFX
          have H0 : Hid (stepOk (d.map Fx.fld) (k + 1) = ltN y.name x.name) := by
            show _ = _
            unfold stepOk
            rw [HSX.out, hfx, Nat.add_sub_cancel, HSY.out, decide_eq_false (by omega)]
            rfl
          cases hlt2 : Op.bytesLess y.name.toList x.name.toList with
          | false =>
            have H1 : Hid (r = false) := HR.out.symm.trans (may_no (i := k + 1) (by rw [List.length_map]; exact hlt) (H0.out.trans hlt2))
            refine wp_region_quiet_grown mixed (by kernel_rfl) ?_
            repeat (go_big_quiet_step (first | (go_at_call 33; refine Calls.grown_of (FFX.out _ (Q3.out _ _)))))
            refine wpQuiet_nil ?_
            intro _ hw'
            obtain ⟨⟨nq, osq⟩, hw''⟩ := hw'
            subst hw''
            go_wp2_with fail
            go_ret
            exact ⟨ret_bool H1.out.symm, hbW.on⟩
          | true =>
            have H1 : Hid (stepOk (d.map Fx.fld) (k + 1) = true) := H0.out.trans hlt2
            refine wp_region_quiet_grown mixed (by kernel_rfl) ?_
            repeat (go_big_quiet_step (first | (go_at_call 33; refine Calls.grown_of (FFX.out _ (Q3.out _ _)))))
            refine wpQuiet_nil ?_
            intro _ hw'
            obtain ⟨⟨nq, osq⟩, hw''⟩ := hw'
            subst hw''
            go_wp2_with fail
            go_roundg (d.length - (k + 1 + 1))
            case measure => omega
            refine ⟨k + 1 + 1, by go_num, by omega, by omega, hbW.on, fun j hj => ?_⟩
            by_cases e : j = k + 1
            · subst e; exact H1.out
            · exact HJ.out j (by omega)
    · have hltz : ¬ (i : Int) < (d.length : Int) := by omega
      have H0 : Hid (r = true) := HR.out.symm.trans (may_yes (by rw [List.length_map]; omega) (fun j hj => HJ.out j (by rw [List.length_map] at hj; omega)))
      go_wp2_with fail
      go_ret
      exact ⟨ret_bool H0.out.symm, hb⟩

end Go.Proofs.YtmjchokacmbkoabDoor
