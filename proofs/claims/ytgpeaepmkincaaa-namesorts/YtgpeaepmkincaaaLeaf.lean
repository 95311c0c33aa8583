/-
  The contracts of the functions that look at one byte.
-/
import Derived.Test.YtgpeaepmkincaaaProg
import Derived.Test.YtgpeaepmkincaaaPlain
import Derived.WalkKit
import Derived.WalkSpells
import Derived.WalkLawsBesides
namespace Go.Proofs.Ytgpeaepmkincaaa
open Go.RowKit

theorem ret_bool {a b : Bool} (h : a = b) : Ending.returned (.bool a) = .returned (.bool b) := by rw [h]
theorem ret_int {k : IntKind} {a b : Int} (h : a = b) : Ending.returned (.int k a) = .returned (.int k b) := by rw [h]

set_option maxHeartbeats 400000 in
theorem big_any (n : Int) (w : World) : Calls Try.prog 31 #[.int .u8 n] w fun e w' => e = .returned (.bool (bigB n)) ∧ w' = w := by
  go_enter Try.func31, Try.ntmps31
  go_wp2
  all_goals go_ret
  all_goals refine ⟨ret_bool ?_, rfl⟩
  all_goals (rw [Bool.eq_iff_iff]; simp [bigB]; try omega)

set_option maxHeartbeats 400000 in
theorem small_any (n : Int) (w : World) : Calls Try.prog 35 #[.int .u8 n] w fun e w' => e = .returned (.bool (smallB n)) ∧ w' = w := by
  go_enter Try.func35, Try.ntmps35
  go_wp2
  all_goals go_ret
  all_goals refine ⟨ret_bool ?_, rfl⟩
  all_goals (rw [Bool.eq_iff_iff]; simp [smallB]; try omega)

set_option maxHeartbeats 400000 in
theorem letter_any (n : Int) (w : World) : Calls Try.prog 32 #[.int .u8 n] w fun e w' => e = .returned (.bool (letB n)) ∧ w' = w := by
  go_enter Try.func32, Try.ntmps32
  go_wp2
  all_goals go_ret
  all_goals refine ⟨ret_bool ?_, rfl⟩
  all_goals (rw [Bool.eq_iff_iff]; simp [letB, bigB, smallB]; try omega)

set_option maxHeartbeats 400000 in
theorem lod_any (n : Int) (w : World) : Calls Try.prog 36 #[.int .u8 n] w fun e w' => e = .returned (.bool (lodB n)) ∧ w' = w := by
  go_enter Try.func36, Try.ntmps36
  go_wp2
  all_goals go_ret
  all_goals refine ⟨ret_bool ?_, rfl⟩
  all_goals (rw [Bool.eq_iff_iff]; simp [lodB, digB, letB, bigB, smallB]; try omega)

set_option maxHeartbeats 800000 in
theorem id_any (n : Int) (w : World) : Calls Try.prog 34 #[.int .u8 n] w fun e w' => e = .returned (.bool (idB n)) ∧ w' = w := by
  go_enter Try.func34, Try.ntmps34
  go_wp2
  all_goals go_ret
  all_goals refine ⟨ret_bool ?_, rfl⟩
  all_goals (rw [Bool.eq_iff_iff]; simp_all [idB, lodB, digB, letB, bigB, smallB]; try omega)

end Go.Proofs.Ytgpeaepmkincaaa
