/-
  The contract of fits.
-/
import Derived.Test.YtmjchokacmbkoabDoorFld
namespace Go.Proofs.YtmjchokacmbkoabDoor
open Go.RowKit

theorem enters_tooLong : ∀ args w, (callFunc 52 args).run Tryd.prog w = .ok (.enter 52 args) w := enters_of Tryd.func52 (by kernel_rfl) rfl

theorem hasLong_any (p : Option Addr) (cap : Nat) (ts : List ByteArray) (w : World) (h : TxtAt w p ts) (hs : ts.length ≤ maxLen) :
    Calls Tryd.prog 51 #[.slice p ts.length cap, .func (.func 52) #[] #[]] w fun e w' => e = .returned (.bool (ts.any longB)) ∧ ∃ q, w' = w.drewN q := by
  unfold maxLen at hs
  rcases h with rfl | ⟨b, off, rfl, hc⟩
  · refine (Tryd.slices_ContainsFunc_empty (α := ByteArray) p cap _ w).mono ?_
    rintro e w' ⟨rfl, rfl⟩
    exact ⟨rfl, 0, rfl⟩
  · refine (Tryd.slices_ContainsFunc (fun t : ByteArray => Value.string t) longB 52 #[] enters_tooLong b off ts.length cap ts w (fun W x hb => (tooLong_any x W).mono ?_) (Nat.le_refl _) (by omega) ?_).mono ?_
    · rintro e w' ⟨rfl, rfl⟩
      exact ⟨rfl, 0, rfl⟩
    · intro j hj
      rw [getElem!_pos ts j hj]
      exact hc j hj
    · rintro e w' ⟨rfl, hq⟩
      rw [List.take_length]
      exact ⟨rfl, hq⟩

set_option maxHeartbeats 1000000 in
theorem fits_any (x : Fx) (w : World) (hx : x.at w) (hf : FitF x.fld) : Calls Tryd.prog 33 #[x.val] w fun e w' => e = .returned (.bool (fitsB x.fld)) ∧ Grown w w' := by
  obtain ⟨hs, hl, _⟩ := hf
  have HM := hid (misnamed_any x)
  have HBA := hid (bare_any x)
  obtain ⟨nm, p, cap, ts⟩ := x
  simp only [Fx.val, encX, Fx.sl, Fx.fld, Fx.at] at hs hl hx HM HBA ⊢
  have hb1 : Grown w (w.alloc (.cells #[.string nm, .slice p ts.length cap] 30)) := (Grown.refl _).alloc _
  have HX := hid (hx.kept hb1.below)
  have HS := hid hs
  have HL := hid hl
  clear hx hs hl
  obtain ⟨r, hr⟩ : ∃ r, fitsB (nm, ts) = r := ⟨_, rfl⟩
  rw [hr]
  have HR := hid hr
  clear hr
  have A0 : ∀ w1, Below (w.alloc (.cells #[.string nm, .slice p ts.length cap] 30)).heap.size (w.alloc (.cells #[.string nm, .slice p ts.length cap] 30)) w1 → w1.cell? ⟨w.heap.size, 0, none⟩ = some (.string nm) ∧ w1.cell? ⟨w.heap.size, 1, none⟩ = some (.slice p ts.length cap) := fun w1 hb => by
    refine ⟨(hb.cell (p := ⟨w.heap.size, 0, none⟩) (by simp)).trans (by simp [go_sem]), (hb.cell (p := ⟨w.heap.size, 1, none⟩) (by simp)).trans (by simp [go_sem])⟩
  have A1 := hid A0
  clear A0
  cases h1 : fieldB nm.data.toList with
  | false =>
    have H0 : Hid (r = false) := by show r = false; rw [← HR.out]; simp [fitsB, h1]
    go_enter Tryd.func33, Tryd.ntmps33
    go_wp2_with (first | (go_at_call 24; refine (HM.out _ HS.out).mono ?_; rintro e w1 ⟨rfl, hb2⟩; simp only [h1]))
    go_ret
    exact ⟨ret_bool H0.out.symm, hb1.trans hb2⟩
  | true =>
    cases h2 : ts.isEmpty with
    | true =>
      have H0 : Hid (r = false) := by show r = false; rw [← HR.out]; simp [fitsB, h2]
      go_enter Tryd.func33, Tryd.ntmps33
      go_wp2_with (first | (go_at_call 24; refine (HM.out _ HS.out).mono ?_; rintro e w1 ⟨rfl, hb2⟩; obtain ⟨a0, a1⟩ := A1.out _ hb2.below; simp only [h1]) | (go_at_call 26; refine (HBA.out _).mono ?_; rintro e w2 ⟨rfl, hb3⟩; simp only [h2]))
      go_ret
      exact ⟨ret_bool H0.out.symm, (hb1.trans hb2).trans hb3⟩
    | false =>
      by_cases h8 : ts.length ≤ 8
      · have h8z : ¬ (8 : Int) < (ts.length : Int) := by omega
        have H0 : Hid (r = !ts.any longB) := by show r = _; rw [← HR.out]; unfold fitsB; rw [h1, h2, decide_eq_true h8]; rfl
        go_enter Tryd.func33, Tryd.ntmps33
        go_wp2_with (first | (go_at_call 24; refine (HM.out _ HS.out).mono ?_; rintro e w1 ⟨rfl, hb2⟩; obtain ⟨a0, a1⟩ := A1.out _ hb2.below; simp only [h1]) | (go_at_call 26; refine (HBA.out _).mono ?_; rintro e w2 ⟨rfl, hb3⟩; obtain ⟨b0, b1⟩ := A1.out _ (hb2.trans hb3).below; simp only [h2]) | (go_at_call 51; refine (hasLong_any _ _ _ _ (HX.out.kept (hb2.trans hb3).below) HL.out).mono ?_; rintro e w3 ⟨rfl, q, rfl⟩))
        go_ret
        exact ⟨ret_bool H0.out.symm, ((hb1.trans hb2).trans hb3).drewN _⟩
      · have h8z : (8 : Int) < (ts.length : Int) := by omega
        have H0 : Hid (r = false) := by show r = _; rw [← HR.out]; unfold fitsB; rw [decide_eq_false h8]; simp
        go_enter Tryd.func33, Tryd.ntmps33
        go_wp2_with (first | (go_at_call 24; refine (HM.out _ HS.out).mono ?_; rintro e w1 ⟨rfl, hb2⟩; obtain ⟨a0, a1⟩ := A1.out _ hb2.below; simp only [h1]) | (go_at_call 26; refine (HBA.out _).mono ?_; rintro e w2 ⟨rfl, hb3⟩; obtain ⟨b0, b1⟩ := A1.out _ (hb2.trans hb3).below; simp only [h2]))
        go_ret
        exact ⟨ret_bool H0.out.symm, (hb1.trans hb2).trans hb3⟩

end Go.Proofs.YtmjchokacmbkoabDoor
