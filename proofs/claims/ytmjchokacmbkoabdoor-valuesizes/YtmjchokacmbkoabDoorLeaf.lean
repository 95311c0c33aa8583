/-
  The contracts of the functions that look at one byte.
-/
import Derived.Test.YtmjchokacmbkoabDoorProg
import Derived.Test.YtmjchokacmbkoabDoorPlain
import Derived.WalkKit
import Derived.WalkSpells
import Derived.WalkLawsBesides
namespace Go.Proofs.YtmjchokacmbkoabDoor
open Go.RowKit

theorem hid {p : Prop} (h : p) : Hid p := h
theorem ret_bool {a b : Bool} (h : a = b) : Ending.returned (.bool a) = .returned (.bool b) := by rw [h]
theorem ret_int {k : IntKind} {a b : Int} (h : a = b) : Ending.returned (.int k a) = .returned (.int k b) := by rw [h]

set_option maxHeartbeats 400000 in
theorem big_any (n : Int) (w : World) : Calls Tryd.prog 82 #[.int .u8 n] w fun e w' => e = .returned (.bool (bigB n)) ∧ w' = w := by
  go_enter Tryd.func82, Tryd.ntmps82
  go_wp2
  all_goals go_ret
  all_goals refine ⟨ret_bool ?_, rfl⟩
  all_goals (rw [Bool.eq_iff_iff]; simp [bigB]; try omega)

set_option maxHeartbeats 400000 in
theorem small_any (n : Int) (w : World) : Calls Tryd.prog 60 #[.int .u8 n] w fun e w' => e = .returned (.bool (smallB n)) ∧ w' = w := by
  go_enter Tryd.func60, Tryd.ntmps60
  go_wp2
  all_goals go_ret
  all_goals refine ⟨ret_bool ?_, rfl⟩
  all_goals (rw [Bool.eq_iff_iff]; simp [smallB]; try omega)

set_option maxHeartbeats 400000 in
theorem letter_any (n : Int) (w : World) : Calls Tryd.prog 74 #[.int .u8 n] w fun e w' => e = .returned (.bool (letB n)) ∧ w' = w := by
  go_enter Tryd.func74, Tryd.ntmps74
  go_wp2
  all_goals go_ret
  all_goals refine ⟨ret_bool ?_, rfl⟩
  all_goals (rw [Bool.eq_iff_iff]; simp [letB, bigB, smallB]; try omega)

set_option maxHeartbeats 400000 in
theorem lod_any (n : Int) (w : World) : Calls Tryd.prog 61 #[.int .u8 n] w fun e w' => e = .returned (.bool (lodB n)) ∧ w' = w := by
  go_enter Tryd.func61, Tryd.ntmps61
  go_wp2
  all_goals go_ret
  all_goals refine ⟨ret_bool ?_, rfl⟩
  all_goals (rw [Bool.eq_iff_iff]; simp [lodB, digB, letB, bigB, smallB]; try omega)

end Go.Proofs.YtmjchokacmbkoabDoor
