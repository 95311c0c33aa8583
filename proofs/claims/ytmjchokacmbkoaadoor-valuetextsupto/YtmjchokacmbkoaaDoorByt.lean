/-
  ValueBytes answers true.
-/
import Derived.Test.YtmjchokacmbkoaaDoorFix
import Derived.Test.YtmjchokacmbkoaaDoorRenc
namespace Go.Proofs.YtmjchokacmbkoaaDoor
open Go.RowKit

theorem ownB_rest {n0 : Nat} {w : World} {u : Value} {l : List UInt8} (h : OwnB n0 w u l) : RestAt w.heap.size w u l := by
  rcases h.2 with ⟨rfl, h0⟩ | ⟨g', cap, cur, rfl, _⟩
  · obtain rfl := List.length_eq_zero_iff.1 h0
    exact ⟨none, 0, rfl, by simp, by unfold maxLen; omega, Or.inl rfl⟩
  · exact own_rest h

theorem ownB_slice {n0 : Nat} {w : World} {u : Value} {l : List UInt8} (h : OwnB n0 w u l) : ∃ p c, u = .slice p l.length c := by
  rcases h.2 with ⟨rfl, h0⟩ | ⟨g', cap, cur, rfl, _⟩
  · exact ⟨none, 0, by rw [h0]⟩
  · exact ⟨_, _, rfl⟩

set_option maxHeartbeats 2000000 in
set_option maxRecDepth 100000 in
theorem bytes_any (v : Value) (d : List Fx) (w : World) (hp : PlainAt w) (hv : IsXs w v d) (hf : FitX d) :
    Calls Tryd.prog 4 #[v] w fun e w' => e = .returned (.bool true) ∧ Below w.heap.size w w' := by
  have HP := hid hp
  have HV := hid hv
  have HF := hid hf
  clear hp hv hf
  cases hm : mayB (d.map Fx.fld) with
  | false =>
    have HM := hid hm
    have hz : sizeN (d.map Fx.fld) = 0 := by unfold sizeN; rw [hm]; rfl
    have HZ := hid hz
    clear hm hz
    go_enter Tryd.func4, Tryd.ntmps4
    go_wp2_with (first
      | (go_at_call 9; refine (fixed_any _ HP.out).mono ?_; rintro e w1 ⟨rfl, q1⟩)
      | (go_at_call 15; refine (encode_no v d w1 (HV.out.kept q1) HF.out HM.out).mono ?_; rintro e w2 ⟨rfl, q2⟩; have b2 : Below w.heap.size w w2 := bel_then q1 q1.size q2.below)
      | (go_at_call 16; refine (rencode_no v d w2 (HV.out.kept b2) HF.out HM.out).mono ?_; rintro e w3 ⟨rfl, q3⟩; have b3 : Below w.heap.size w w3 := bel_then b2 b2.size q3.below; have kc : ∀ W : World, (convert 29 9 (.slice none 0 0)).run Tryd.prog W = .ok (.string ⟨#[]⟩) W := fun W => conv_any (R := 0) ⟨none, 0, rfl, Nat.le_refl _, by unfold maxLen; omega, Or.inl rfl⟩)
      | (go_at_call 17; refine (size_any v d w3 (HV.out.kept b3) HF.out).mono ?_; rintro e w4 ⟨rfl, q4⟩; rw [HZ.out]))
    go_ret
    exact ⟨rfl, bel_then b3 b3.size q4⟩
  | true =>
    have HM := hid hm
    have hz : sizeN (d.map Fx.fld) = (encL (d.map Fx.fld)).length := by unfold sizeN; rw [hm]; rfl
    have HZ := hid hz
    clear hm hz
    obtain ⟨l, hl⟩ : ∃ l, encL (d.map Fx.fld) = l := ⟨_, rfl⟩
    have HL := hid hl
    clear hl
    go_enter Tryd.func4, Tryd.ntmps4
    go_wp2_with (first
      | (go_at_call 9; refine (fixed_any _ HP.out).mono ?_; rintro e w1 ⟨rfl, q1⟩)
      | (go_at_call 15; refine (encode_yes v d w1 (HV.out.kept q1) HF.out HM.out).mono ?_; rintro e w2 ⟨⟨u2, rfl, o2⟩, q2⟩; rw [HL.out] at o2; have b2 : Below w.heap.size w w2 := bel_then q1 q1.size q2)
      | (go_at_call 16; refine (rencode_yes v d w2 (HV.out.kept b2) HF.out HM.out).mono ?_; rintro e w3 ⟨⟨u3, rfl, o3⟩, q3⟩; rw [HL.out] at o3; have b3 : Below w.heap.size w w3 := bel_then b2 b2.size q3; have kc := conv_any (ownB_rest (o2.on q3)); have kd := conv_any (ownB_rest o3); obtain ⟨p3, c3, rfl⟩ := ownB_slice o3)
      | (go_at_call 17; refine (size_any v d w3 (HV.out.kept b3) HF.out).mono ?_; rintro e w4 ⟨rfl, q4⟩; rw [HZ.out, HL.out]))
    go_ret
    exact ⟨rfl, bel_then b3 b3.size q4⟩

end Go.Proofs.YtmjchokacmbkoaaDoor
