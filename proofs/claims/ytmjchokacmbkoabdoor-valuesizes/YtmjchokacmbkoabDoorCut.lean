/-
  The contract of strings.Cut at a separator of one byte.
-/
import Derived.Test.YtmjchokacmbkoabDoorLeaf
import Derived.Test.YtmjchokacmbkoabDoorShelf
import Derived.Test.YtmjchokacmbkoabDoorIx
import Derived.Deep.QuietTactic
import Derived.BigQuiet
namespace Go.Proofs.YtmjchokacmbkoabDoor
open Go.RowKit



set_option maxHeartbeats 400000 in
theorem cutl_no (s : ByteArray) (c : UInt8) (w : World) (hix : Lib.indexByte s.data.toList c = -1) :
    Calls Tryd.prog 71 #[.string s, .string ⟨#[c]⟩] w fun e w' => e = .returned (.tuple #[.string s, .string ⟨#[]⟩, .bool false]) ∧ w' = w := by
  have HX : Hid (Lib.indexByte s.data.toList c = -1) := hix
  clear hix
  go_enter Tryd.func71, Tryd.ntmps71
  go_wp2_with (go_at_call 80; refine (Tryd.stringslite_Index_one _ _ _).mono ?_; rintro e w' ⟨rfl, rfl⟩; rw [HX.out])
  go_ret3
  exact ⟨rfl, rfl⟩

set_option maxHeartbeats 400000 in
theorem cutl_yes (s : ByteArray) (c : UInt8) (w : World) (i : Nat) (hix : Lib.indexByte s.data.toList c = (i : Int)) (hi : i < s.size) (hs : s.size ≤ maxLen) :
    Calls Tryd.prog 71 #[.string s, .string ⟨#[c]⟩] w fun e w' => e = .returned (.tuple #[.string (s.extract 0 i), .string (s.extract (i + 1) s.size), .bool true]) ∧ ∃ n, w' = w.drewN n := by
  have HX : Hid (Lib.indexByte s.data.toList c = (i : Int)) := hix
  clear hix
  unfold maxLen at hs
  have c1 : (0 : Int) ≤ ↑i := by omega
  have c2 : (↑i : Int) ≤ ↑s.size := by omega
  have c3 : (0 : Int) ≤ ↑i + 1 := by omega
  have c4 : (↑i + 1 : Int) ≤ ↑s.size := by omega
  go_enter Tryd.func71, Tryd.ntmps71
  go_wp2_with (go_at_call 80; refine (Tryd.stringslite_Index_one _ _ _).mono ?_; rintro e w' ⟨rfl, rfl⟩; rw [HX.out])
  go_quiet (fail)
  go_wp2_with fail
  go_ret3
  exact ⟨rfl, _, rfl⟩

set_option maxHeartbeats 400000 in
theorem cut_no (s : ByteArray) (c : UInt8) (w : World) (hix : Lib.indexByte s.data.toList c = -1) :
    Calls Tryd.prog 56 #[.string s, .string ⟨#[c]⟩] w fun e w' => e = .returned (.tuple #[.string s, .string ⟨#[]⟩, .bool false]) ∧ w' = w := by
  have HX : Hid (Lib.indexByte s.data.toList c = -1) := hix
  clear hix
  go_enter Tryd.func56, Tryd.ntmps56
  go_wp2_with (go_at_call 71; refine (cutl_no _ _ _ HX.out).mono ?_; rintro e w' ⟨rfl, rfl⟩)
  go_ret3
  exact ⟨rfl, rfl⟩

set_option maxHeartbeats 400000 in
theorem cut_yes (s : ByteArray) (c : UInt8) (w : World) (i : Nat) (hix : Lib.indexByte s.data.toList c = (i : Int)) (hi : i < s.size) (hs : s.size ≤ maxLen) :
    Calls Tryd.prog 56 #[.string s, .string ⟨#[c]⟩] w fun e w' => e = .returned (.tuple #[.string (s.extract 0 i), .string (s.extract (i + 1) s.size), .bool true]) ∧ ∃ n, w' = w.drewN n := by
  have HX : Hid (Lib.indexByte s.data.toList c = (i : Int)) := hix
  clear hix
  go_enter Tryd.func56, Tryd.ntmps56
  go_wp2_with (go_at_call 71; refine (cutl_yes _ _ _ i HX.out hi hs).mono ?_; rintro e w' ⟨rfl, n, rfl⟩)
  go_ret3
  exact ⟨rfl, n, rfl⟩

end Go.Proofs.YtmjchokacmbkoabDoor
