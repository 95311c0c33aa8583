/-
  The contracts of sameField, slices.EqualFunc over it, Equal, slices.Clone of texts, and Texts.
-/
import Derived.Test.YtmjchokacmbkoabDoorMay
import Derived.Test.YtmjchokacmbkoabDoorDec1
import Derived.Lib.Strings
namespace Go.Proofs.YtmjchokacmbkoabDoor
open Go.RowKit

theorem eqTexts_any (p q : Option Addr) (c c' : Nat) (xs ys : List ByteArray) (w : World) (hx : TxtAt w p xs) (hy : TxtAt w q ys) (hlx : xs.length ≤ maxLen) (hly : ys.length ≤ maxLen) :
    Calls Tryd.prog 47 #[.slice p xs.length c, .slice q ys.length c'] w fun e w' => e = .returned (.bool (decide (xs = ys))) ∧ ∃ n, w' = w.drewN n := by
  unfold maxLen at hlx hly
  rcases hx with rfl | ⟨b, off, rfl, hx⟩
  · refine (Tryd.slices_Equal_string_empty p q c ys.length c' w (by omega)).mono ?_
    rintro e w' ⟨rfl, rfl⟩
    refine ⟨ret_bool ?_, 0, rfl⟩
    cases ys <;> simp
  · rcases hy with rfl | ⟨b', off', rfl, hy⟩
    · by_cases h0 : xs.length = 0
      · obtain rfl := List.length_eq_zero_iff.1 h0
        refine (Tryd.slices_Equal_string_empty _ q c 0 c' w (by omega)).mono ?_
        rintro e w' ⟨rfl, rfl⟩
        exact ⟨rfl, 0, rfl⟩
      · refine (Tryd.slices_Equal_string_lens _ q xs.length c 0 c' w h0).mono ?_
        rintro e w' ⟨rfl, rfl⟩
        refine ⟨ret_bool ?_, 0, rfl⟩
        rw [eq_comm, decide_eq_false_iff_not]
        rintro rfl
        exact h0 rfl
    · refine (Tryd.slices_Equal_string b off xs.length c b' off' ys.length c' xs ys w (Nat.le_refl _) (Nat.le_refl _) (by omega) (by omega) (fun j hj => ?_) (fun j hj => ?_)).mono ?_
      · rw [hx j hj, List.getD_eq_getElem?_getD, List.getElem?_eq_getElem hj]; rfl
      · rw [hy j hj, List.getD_eq_getElem?_getD, List.getElem?_eq_getElem hj]; rfl
      · rintro e w' ⟨rfl, hq⟩
        rw [List.take_length, List.take_length]
        exact ⟨rfl, hq⟩

theorem toList_eq (a b : ByteArray) : (a.toList == b.toList) = decide (a = b) := by
  rw [Bool.eq_iff_iff]
  simp only [beq_iff_eq, decide_eq_true_eq]
  constructor
  · intro h
    rw [Lib.toList_data, Lib.toList_data] at h
    obtain ⟨⟨l⟩⟩ := a
    obtain ⟨⟨m⟩⟩ := b
    simp at h
    rw [h]
  · rintro rfl; rfl

set_option maxHeartbeats 1000000 in
theorem sameField_any (x y : Fx) (w : World) (hx : x.at w) (hy : y.at w) (hlx : x.txt.length ≤ maxLen) (hly : y.txt.length ≤ maxLen) :
    Calls Tryd.prog 28 #[x.val, y.val] w fun e w' => e = .returned (.bool (decide (x.fld = y.fld))) ∧ Grown w w' := by
  obtain ⟨nm, p, cap, ts⟩ := x
  obtain ⟨nm', p', cap', ts'⟩ := y
  simp only [Fx.val, encX, Fx.sl, Fx.fld, Fx.at] at *
  have hg0 : Grown w ((w.alloc (.cells #[.string nm, .slice p ts.length cap] 30)).alloc (.cells #[.string nm', .slice p' ts'.length cap'] 30)) := ((Grown.refl _).alloc _).alloc _
  have HE := hid (eqTexts_any p p' cap cap' ts ts' _ (hx.kept hg0.below) (hy.kept hg0.below) hlx hly)
  clear hx hy
  cases hn : (nm.toList == nm'.toList) with
  | false =>
    have H0 : Hid (decide ((nm, ts) = (nm', ts')) = false) := by
      show _ = _
      rw [toList_eq, decide_eq_false_iff_not] at hn
      rw [decide_eq_false_iff_not]
      intro h; exact hn (Prod.mk.inj h).1
    go_enter Tryd.func28, Tryd.ntmps28
    go_wp2_with (first | (go_at_call 47; refine HE.out.mono ?_; rintro e w1 ⟨rfl, q, rfl⟩))
    go_ret
    exact ⟨ret_bool H0.out.symm, hg0⟩
  | true =>
    have H0 : Hid (decide ((nm, ts) = (nm', ts')) = decide (ts = ts')) := by
      show _ = _
      rw [toList_eq, decide_eq_true_eq] at hn
      subst hn
      simp
    go_enter Tryd.func28, Tryd.ntmps28
    go_wp2_with (first | (go_at_call 47; refine HE.out.mono ?_; rintro e w1 ⟨rfl, q, rfl⟩))
    go_ret
    exact ⟨ret_bool H0.out.symm, hg0.drewN q⟩

theorem enters_same : ∀ args w, (callFunc 28 args).run Tryd.prog w = .ok (.enter 28 args) w := enters_of Tryd.func28 (by kernel_rfl) rfl

set_option maxHeartbeats 4000000 in
set_option maxRecDepth 100000 in
theorem equalFunc_any (v v' : Value) (d d' : List Fx) (w : World) (hv : IsXs w v d) (hv' : IsXs w v' d') (hf : FitX d) (hf' : FitX d') :
    Calls Tryd.prog 27 #[v, v', .func (.func 28) #[] #[]] w fun e w' => e = .returned (.bool (decide (d.map Fx.fld = d'.map Fx.fld))) ∧ Grown w w' := by
  obtain ⟨p, cap, rfl, hd, ht⟩ := hv
  obtain ⟨p', cap', rfl, hd', ht'⟩ := hv'
  have HT := hid ht
  have HT' := hid ht'
  have HD := hid hd
  have HD' := hid hd'
  have HF := hid hf.2
  have HF' := hid hf'.2
  have hl := hf.1
  have hl' := hf'.1
  unfold maxLen at hl hl'
  clear ht ht' hd hd' hf hf'
  obtain ⟨r, hr⟩ : ∃ r, decide (d.map Fx.fld = d'.map Fx.fld) = r := ⟨_, rfl⟩
  rw [hr]
  have HR := hid hr
  clear hr
  by_cases hlen : d.length = d'.length
  · have HL := hid hlen
    rw [← hlen]
    clear hlen hl'
    go_enter Tryd.func27, Tryd.ntmps27
    go_wp2_with fail
    go_loopg [17] d.length (fun g vi wr => ∃ i : Nat, vi = .int .i64 i ∧ i ≤ d.length ∧ d.length - i ≤ g ∧ Grown w wr ∧ Hid ((d.map Fx.fld).take i = (d'.map Fx.fld).take i))
    case atStart => exact ⟨0, rfl, by omega, by omega, Grown.refl _, rfl⟩
    case round =>
      obtain ⟨i, rfl, hi, hg, hb, HJ⟩ := hrel
      by_cases hlt : i < d.length
      · have hltz : (i : Int) < (d.length : Int) := by omega
        have hiz : (0 : Int) ≤ i := by omega
        have hlt' : i < d'.length := by have := HL.out; omega
        obtain ⟨b, off, rfl, hxs⟩ : ∃ b off, p = some ⟨b, off, none⟩ ∧ XsAt w b off d := by
          rcases HD.out with h | h
          · subst h; simp at hlt
          · exact h
        obtain ⟨b', off', rfl, hxs'⟩ : ∃ b off, p' = some ⟨b, off, none⟩ ∧ XsAt w b off d' := by
          rcases HD'.out with h | h
          · rw [h] at hlt'; simp at hlt'
          · exact h
        obtain ⟨c0, c1⟩ := hxs.kept hb.below i hlt
        obtain ⟨e0, e1⟩ := hxs'.kept hb.below i hlt'
        have hxi : (d[i]).at w := HT.out _ (List.getElem_mem hlt)
        have hyi : (d'[i]).at w := HT'.out _ (List.getElem_mem hlt')
        have hfi := (HF.out _ (List.getElem_mem hlt)).2.1
        have hfi' := (HF'.out _ (List.getElem_mem hlt')).2.1
        have hst : decide ((d[i]).fld = (d'[i]).fld) = true → (d.map Fx.fld).take (i + 1) = (d'.map Fx.fld).take (i + 1) := fun h => by
          rw [List.take_succ_eq_append_getElem (by rw [List.length_map]; exact hlt), List.take_succ_eq_append_getElem (by rw [List.length_map]; exact hlt'), HJ.out]
          simp only [List.getElem_map]
          rw [of_decide_eq_true h]
        have hno : decide ((d[i]).fld = (d'[i]).fld) = false → r = false := fun h => by
          rw [← HR.out, decide_eq_false_iff_not]
          intro e
          have : (d.map Fx.fld)[i]'(by rw [List.length_map]; exact hlt) = (d'.map Fx.fld)[i]'(by rw [List.length_map]; exact hlt') := by simp only [e]
          simp only [List.getElem_map] at this
          exact (of_decide_eq_false h) this
        obtain ⟨x, hx⟩ : ∃ x, d[i] = x := ⟨_, rfl⟩
        obtain ⟨y, hy⟩ : ∃ y, d'[i] = y := ⟨_, rfl⟩
        rw [hx] at c0 c1 hxi hfi hst hno
        rw [hy] at e0 e1 hyi hfi' hst hno
        have HXI := hid hxi
        have HYI := hid hyi
        have HFI := hid (And.intro hfi hfi')
        have HST := hid hst
        have HNO := hid hno
        clear hxs hxs' hxi hyi hfi hfi' hx hy hst hno
        unfold Fx.sl at c1 e1
        have hgW : Grown w ((wr.alloc (.cells #[.string x.name, .slice x.p x.txt.length x.cap] 30)).alloc (.cells #[.string y.name, .slice y.p y.txt.length y.cap] 30)) := (hb.alloc _).alloc _
        have e0' : (wr.alloc (.cells #[.string x.name, .slice x.p x.txt.length x.cap] 30)).cell? ⟨b', off' + i * 2, none⟩ = some (.string y.name) := by
          rw [World.cell?_alloc_lt _ _ ⟨b', off' + i * 2, none⟩ (cell_block e0)]; exact e0
        have e1' : (wr.alloc (.cells #[.string x.name, .slice x.p x.txt.length x.cap] 30)).cell? ⟨b', off' + i * 2 + 1, none⟩ = some (.slice y.p y.txt.length y.cap) := by
          rw [World.cell?_alloc_lt _ _ ⟨b', off' + i * 2 + 1, none⟩ (cell_block e1)]; exact e1
        have HC := hid (sameField_any x y _ (HXI.out.kept hgW.below) (HYI.out.kept hgW.below) HFI.out.1 HFI.out.2)
        have HGW := hid hgW
        have hen := enters_same
        clear hgW e0 e1
        cases hq : decide (x.fld = y.fld) with
        | false =>
          rw [hq] at HC
          go_wp2_with (first | (go_at_call 28; refine HC.out.mono ?_; rintro e w2 ⟨rfl, hg2⟩))
          go_ret
          exact ⟨ret_bool (HNO.out hq).symm, HGW.out.trans hg2⟩
        | true =>
          rw [hq] at HC
          go_wp2_with (first | (go_at_call 28; refine HC.out.mono ?_; rintro e w2 ⟨rfl, hg2⟩))
          go_roundg (d.length - (i + 1))
          case measure => omega
          exact ⟨i + 1, by go_num, by omega, by omega, HGW.out.trans hg2, HST.out hq⟩
      · have hltz : ¬ (i : Int) < (d.length : Int) := by omega
        have H0 : Hid (r = true) := by
          show r = true
          rw [← HR.out, decide_eq_true_eq]
          have h := HJ.out
          rw [List.take_of_length_le (by rw [List.length_map]; omega), List.take_of_length_le (by rw [List.length_map]; have := HL.out; omega)] at h
          exact h
        go_wp2_with fail
        go_ret
        exact ⟨ret_bool H0.out.symm, hb⟩
  · have H0 : Hid (r = false) := by
      show r = false
      rw [← HR.out, decide_eq_false_iff_not]
      intro e
      have := congrArg List.length e
      simp at this
      exact hlen this
    have hz : ¬ (d.length : Int) = (d'.length : Int) := by omega
    go_enter Tryd.func27, Tryd.ntmps27
    go_wp2_with fail
    go_ret
    exact ⟨ret_bool H0.out.symm, Grown.refl _⟩

set_option maxHeartbeats 1000000 in
theorem equal_any (v v' : Value) (d d' : List Fx) (w : World) (hv : IsXs w v d) (hv' : IsXs w v' d') (hf : FitX d) (hf' : FitX d') :
    Calls Tryd.prog 8 #[v, v'] w fun e w' => e = .returned (.bool (decide (d.map Fx.fld = d'.map Fx.fld))) ∧ Grown w w' := by
  have HC := hid (equalFunc_any v v' d d' w hv hv' hf hf')
  clear hv hv'
  go_enter Tryd.func8, Tryd.ntmps8
  go_wp2_with (first | (go_at_call 27; refine HC.out.mono ?_; rintro e w2 ⟨rfl, hg2⟩))
  go_ret
  exact ⟨rfl, hg2⟩

end Go.Proofs.YtmjchokacmbkoabDoor
