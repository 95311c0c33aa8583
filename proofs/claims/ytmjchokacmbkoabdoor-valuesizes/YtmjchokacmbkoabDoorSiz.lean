/-
  The contract of Size.
-/
import Derived.Test.YtmjchokacmbkoabDoorEnc
namespace Go.Proofs.YtmjchokacmbkoabDoor
open Go.RowKit

def sizeN (fs : List Fld) : Nat := if mayB fs = true then (encL fs).length else 0

set_option maxHeartbeats 1000000 in
theorem size_any (v : Value) (d : List Fx) (w : World) (hv : IsXs w v d) (hf : FitX d) :
    Calls Tryd.prog 17 #[v] w fun e w' => e = .returned (.int .i64 (sizeN (d.map Fx.fld))) ∧ Below w.heap.size w w' := by
  cases hm : mayB (d.map Fx.fld) with
  | false =>
    have H0 : Hid (sizeN (d.map Fx.fld) = 0) := by show _ = _; unfold sizeN; rw [hm]; rfl
    have HE := hid (encode_no v d w hv hf hm)
    clear hv hm
    go_enter Tryd.func17, Tryd.ntmps17
    go_wp2_with (first | (go_at_call 18; refine HE.out.mono ?_; rintro e w1 ⟨rfl, hg⟩))
    go_ret
    rw [H0.out]
    exact ⟨rfl, hg.below⟩
  | true =>
    have H0 : Hid (sizeN (d.map Fx.fld) = (encL (d.map Fx.fld)).length) := by show _ = _; unfold sizeN; rw [hm]; rfl
    have HE := hid (encode_yes v d w hv hf hm)
    clear hv hm
    generalize sizeN (d.map Fx.fld) = r at H0
    go_enter Tryd.func17, Tryd.ntmps17
    go_wp2_with (first | (go_at_call 18; refine HE.out.mono ?_; rintro e w1 ⟨⟨u, rfl, ho⟩, hg⟩; obtain ⟨g, cap, rfl, _, _⟩ := World.ownsRow.form ho (by simp [encL])))
    go_ret
    rw [H0.out]
    exact ⟨rfl, hg⟩

end Go.Proofs.YtmjchokacmbkoabDoor
