/-
  The contracts of the reference's Key and Print.
-/
import Derived.Test.YtgpeaepmkincaaaKeys
import Derived.Test.YtgpeaepmkincaaaRef
namespace Go.Proofs.Ytgpeaepmkincaaa
open Go.RowKit

set_option maxHeartbeats 400000 in
theorem rkey_any (a b : ByteArray) (w : World) (ha : a.size ≤ maxLen) (hb : b.size ≤ maxLen) :
    Calls Try.prog 38 #[.agg #[.string a, .string b]] w fun e w' => e = .returned (.bool (keyB a b)) ∧ Below w.heap.size w w' := by
  have HK : Hid (keyB a b = (typeB a.data.toList && idenB b.data.toList)) := rfl
  cases ht : typeB a.data.toList
  all_goals
    go_enter Try.func38, Try.ntmps38
    go_wp2_with (first | (go_at_call 11; refine (rtype_any _ _ ha).mono ?_; rintro e w' ⟨rfl, rfl⟩) | (go_at_call 13; refine (riden_any _ _ hb).mono ?_; rintro e w' ⟨rfl, rfl⟩))
    go_ret
    exact ⟨ret_bool (by rw [HK.out, ht]; rfl), (Below.refl _ _).alloc (Nat.le_refl _) _⟩

set_option maxHeartbeats 400000 in
theorem rprint_no (a b : ByteArray) (w : World) (ha : a.size ≤ maxLen) (hb : b.size ≤ maxLen) (hk : keyB a b = false) :
    Calls Try.prog 21 #[.agg #[.string a, .string b]] w fun e w' => e = .returned (.tuple #[.string ⟨#[]⟩, .int .i64 2]) ∧ Below w.heap.size w w' := by
  go_enter Try.func21, Try.ntmps21
  go_wp2_with (go_at_call 38; refine (rkey_any _ _ _ ha hb).mono ?_; rintro e w1 ⟨rfl, hq⟩)
  go_ret2
  exact ⟨rfl, ((Below.refl _ _).alloc (Nat.le_refl _) _).trans (hq.mono (by simp))⟩

set_option maxHeartbeats 400000 in
theorem rprint_yes (a b : ByteArray) (w : World) (ha : a.size ≤ maxLen) (hb : b.size ≤ maxLen) (ha32 : a.size ≤ 32) (hb32 : b.size ≤ 32) (hk : keyB a b = true) :
    Calls Try.prog 21 #[.agg #[.string a, .string b]] w fun e w' => e = .returned (.tuple #[.string (a ++ ⟨#[47]⟩ ++ b), .int .i64 0]) ∧ Below w.heap.size w w' := by
  go_enter Try.func21, Try.ntmps21
  go_wp2_with (go_at_call 38; refine (rkey_any _ _ _ ha hb).mono ?_; rintro e w1 ⟨rfl, hq⟩; obtain ⟨hc, hf⟩ := bcell hq)
  go_ret2
  refine ⟨?_, ((Below.refl _ _).alloc (Nat.le_refl _) _).trans (hq.mono (by simp))⟩
  rfl


end Go.Proofs.Ytgpeaepmkincaaa
