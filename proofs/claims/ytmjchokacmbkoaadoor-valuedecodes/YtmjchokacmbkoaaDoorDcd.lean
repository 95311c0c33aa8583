/-
  ValueDecodes answers true.
-/
import Derived.Test.YtmjchokacmbkoaaDoorByt
import Derived.Test.YtmjchokacmbkoaaDoorRdec
import Derived.Test.YtmjchokacmbkoaaDoorSam
namespace Go.Proofs.YtmjchokacmbkoaaDoor
open Go.RowKit

theorem is_nil (w : World) : IsXs w (.slice none 0 0) [] := ⟨none, 0, rfl, Or.inl rfl, fun x hx => by simp at hx⟩
theorem fit_nil : FitX [] := ⟨by unfold maxLen; simp, fun x hx => by simp at hx⟩

theorem dec_fit {l : List UInt8} {d : List Fx} {fs : List Fld} (h : decodeO l = some fs) (hm : d.map Fx.fld = fs) : FitX d := by
  have hmay := (decode_enc h).2
  have hl := (may_parts hmay).1
  refine ⟨?_, fun x hx => ?_⟩
  · rw [← hm, List.length_map] at hl
    unfold maxLen; omega
  · have hx' : x.fld ∈ fs := by rw [← hm]; exact List.mem_map.2 ⟨x, hx, rfl⟩
    obtain ⟨h1, _, h3, h4, _⟩ := fits_parts (may_fits hmay _ hx')
    refine ⟨?_, ?_, fun t ht => ?_⟩
    · unfold maxLen; omega
    · unfold maxLen; omega
    · have := h4 t ht; unfold maxLen; omega

set_option maxHeartbeats 2000000 in
set_option maxRecDepth 100000 in
theorem decodes_any (v : Value) (l : List UInt8) (w : World) (hp : PlainAt w) (hv : RestAt w.heap.size w v l) :
    Calls Tryd.prog 5 #[v] w fun e w' => e = .returned (.bool true) ∧ Below w.heap.size w w' := by
  have HP := hid hp
  have HV := hid hv
  clear hp hv
  have HRV : Hid (∀ W, Below w.heap.size w W → RestAt W.heap.size W v l) := fun W h => by
    obtain ⟨p, cap, rfl, h2, h3, h4⟩ := HV.out.on h
    refine ⟨p, cap, rfl, h2, h3, ?_⟩
    rcases h4 with h4 | ⟨b, off, hp, hbR, h4⟩
    · exact Or.inl h4
    · exact Or.inr ⟨b, off, hp, Nat.lt_of_lt_of_le hbR h.size, h4⟩
  cases hd : decodeO l with
  | none =>
    have HD := hid hd
    clear hd
    go_enter Tryd.func5, Tryd.ntmps5
    go_wp2_with (first
      | (go_at_call 9; refine (fixed_any _ HP.out).mono ?_; rintro e w1 ⟨rfl, q1⟩)
      | (go_at_call 18; refine (decode_any v l w1 (HRV.out _ q1)).mono ?_; rintro e w2 ⟨h | ⟨fs, h, _⟩, q2⟩; rotate_left; (rw [HD.out] at h; cases h); obtain ⟨_, rfl⟩ := h; have b2 : Below w.heap.size w w2 := bel_then q1 q1.size q2)
      | (go_at_call 19; refine (rdecode_any v l w2 (HRV.out _ b2)).mono ?_; rintro e w3 ⟨h | ⟨fs, h, _⟩, q3⟩; rotate_left; (rw [HD.out] at h; cases h); obtain ⟨_, rfl⟩ := h; have b3 : Below w.heap.size w w3 := bel_then b2 b2.size q3)
      | (go_at_call 12; refine (same_any _ _ [] [] 4 w3 (is_nil _) (is_nil _) fit_nil fit_nil).mono ?_; rintro e w4 ⟨rfl, n, rfl⟩))
    go_ret
    exact ⟨rfl, bel_drewN b3 n⟩
  | some fs =>
    obtain ⟨henc, hmay⟩ := decode_enc hd
    have HD := hid hd
    have HE := hid henc
    have HM := hid hmay
    clear hd henc hmay
    go_enter Tryd.func5, Tryd.ntmps5
    go_wp2_with (first
      | (go_at_call 9; refine (fixed_any _ HP.out).mono ?_; rintro e w1 ⟨rfl, q1⟩)
      | (go_at_call 18; refine (decode_any v l w1 (HRV.out _ q1)).mono ?_; rintro e w2 ⟨⟨h, _⟩ | ⟨fs2, h2, u2, d2, rfl, o2, m2⟩, q2⟩; (rw [HD.out] at h; cases h); obtain rfl := Option.some.inj (HD.out.symm.trans h2); have b2 : Below w.heap.size w w2 := bel_then q1 q1.size q2; have O2 := hid o2; have M2 := hid m2; clear o2 m2)
      | (go_at_call 19; refine (rdecode_any v l w2 (HRV.out _ b2)).mono ?_; rintro e w3 ⟨⟨h, _⟩ | ⟨fs3, h3, u3, d3, rfl, o3, m3⟩, q3⟩; (rw [HD.out] at h; cases h); obtain rfl := Option.some.inj (HD.out.symm.trans h3); have b3 : Below w.heap.size w w3 := bel_then b2 b2.size q3; have O3 := hid o3; have M3 := hid m3; have O23 := hid (O2.out.on q3); have HSM := hid (same_any u2 u3 d2 d3 0 w3 O23.out.is O3.out.is (dec_fit HD.out M2.out) (dec_fit HD.out M3.out)); rw [show decide (d2.map Fx.fld = d3.map Fx.fld) = true from decide_eq_true (M2.out.trans M3.out.symm)] at HSM; clear o3 m3)
      | (go_at_call 12; refine HSM.out.mono ?_; rintro e w4 ⟨rfl, n, rfl⟩; have HI4 : Hid (IsXs (w3.drewN n) u2 d2) := hid O23.out.is; have b4 : Below w.heap.size w (w3.drewN n) := bel_drewN b3 n; have HEC := hid (encode_yes u2 d2 (w3.drewN n) HI4.out (dec_fit HD.out M2.out) (by rw [M2.out]; exact HM.out)); rw [M2.out, HE.out] at HEC)
      | (go_at_call 15; refine HEC.out.mono ?_; rintro e w5 ⟨⟨u5, rfl, o5⟩, q5⟩; have b5 : Below w.heap.size w w5 := bel_then b4 b4.size q5; have kc := conv_any (ownB_rest o5); have kd := conv_any (HRV.out _ b5); have HMY := hid (may_any u2 d2 w5 (HI4.out.kept q5) (dec_fit HD.out M2.out)); rw [M2.out, HM.out] at HMY)
      | (go_at_call 13; refine HMY.out.mono ?_; rintro e w6 ⟨rfl, q6⟩))
    go_ret
    exact ⟨rfl, bel_then b5 b5.size q6.below⟩

end Go.Proofs.YtmjchokacmbkoaaDoor
