/-
  The contracts of spelled, and of the four words that stand on it.
-/
import Derived.Test.YtmjchokacmbkoabDoorLeaf
namespace Go.Proofs.YtmjchokacmbkoabDoor
open Go.RowKit

theorem nat_pos {n : Nat} (h : ¬ (n : Int) < 1) : 0 < n := by omega

set_option maxHeartbeats 800000 in
theorem spelled_field (s : ByteArray) (w : World) (hs : s.size ≤ maxLen) :
    Calls Tryd.prog 59 #[.string s, .func (.func 60) #[] #[], .func (.func 61) #[] #[]] w fun e w' => e = .returned (.bool (fieldB s.data.toList)) ∧ w' = w := by
  unfold maxLen at hs
  by_cases he : s.size = 0
  · have hb := spell_empty smallB lodB s he
    have hlt : (s.size : Int) < 1 := by omega
    have HB : Hid (spell smallB lodB s.data.toList = false) := hb
    clear he hb
    go_enter Tryd.func59, Tryd.ntmps59
    go_wp2_with fail
    go_ret
    exact ⟨ret_bool HB.out.symm, rfl⟩
  have hpos : 0 < s.size := by omega
  have hnl : ¬ (s.size : Int) < 1 := by omega
  by_cases hl : 32 < s.size
  · have hb := spell_long smallB lodB s hl
    have HB : Hid (spell smallB lodB s.data.toList = false) := hb
    have hgt : (32 : Int) < (s.size : Int) := by omega
    clear he hb
    go_enter Tryd.func59, Tryd.ntmps59
    go_wp2_with fail
    go_ret
    exact ⟨ret_bool HB.out.symm, rfl⟩
  have hle : ¬ (32 : Int) < (s.size : Int) := by omega
  clear he
  cases hc : smallB (s[0].toNat : Int) with
  | false =>
    have HB : Hid (spell smallB lodB s.data.toList = false) := spell_first smallB lodB s hpos hc
    go_enter Tryd.func59, Tryd.ntmps59
    go_wp2_with (go_at_call 60; refine (small_any _ _).mono ?_; rintro e w' ⟨rfl, rfl⟩)
    go_ret
    exact ⟨ret_bool HB.out.symm, rfl⟩
  | true =>
    have HT : Hid ((∀ k, 1 ≤ k → (hk : k < s.size) → lodB (s[k].toNat : Int) = true) → spell smallB lodB s.data.toList = true) := spell_true smallB lodB s hpos (by omega) hc
    have HA : Hid (∀ k, 1 ≤ k → (hk : k < s.size) → lodB (s[k].toNat : Int) = false → spell smallB lodB s.data.toList = false) := fun k h1 hk => spell_at smallB lodB s k h1 hk
    go_enter Tryd.func59, Tryd.ntmps59
    go_wp2_with (go_at_call 60; refine (small_any _ _).mono ?_; rintro e w' ⟨rfl, rfl⟩)
    go_loop [7] (fun i => ∃ k : Nat, 1 ≤ k ∧ k ≤ s.size ∧ i = .int .i64 k ∧ (∀ j, 1 ≤ j → j < k → (hj : j < s.size) → lodB (s[j].toNat : Int) = true)) (fun i => s.size - (intOf i).toNat)
    case atStart => exact ⟨1, by omega, by omega, rfl, fun j h1 h2 => by omega⟩
    case round =>
      obtain ⟨k, hk1, hk, rfl, hall⟩ := hrel
      have HL : Hid (∀ j, 1 ≤ j → j < k → (hj : j < s.size) → lodB (s[j].toNat : Int) = true) := hall
      clear hall
      by_cases hlt : k < s.size
      · cases hd : lodB (s[k].toNat : Int) with
        | false =>
          go_wp2_with (go_at_call 61; refine (lod_any _ _).mono ?_; rintro e w' ⟨rfl, rfl⟩)
          go_ret
          exact ⟨ret_bool (HA.out k hk1 hlt hd).symm, rfl⟩
        | true =>
          go_wp2_with (go_at_call 61; refine (lod_any _ _).mono ?_; rintro e w' ⟨rfl, rfl⟩)
          go_round
          case rel =>
            refine ⟨k + 1, by omega, by omega, by go_num, fun j h1 h2 hj => ?_⟩
            by_cases hjk : j = k
            · subst hjk; exact hd
            · exact HL.out j h1 (by omega) hj
          case measure => simp [intOf]; omega
      · go_wp2_with fail
        go_ret
        exact ⟨ret_bool (HT.out fun j h1 hj => HL.out j h1 (by omega) hj).symm, rfl⟩

set_option maxHeartbeats 400000 in
theorem field_any (s : ByteArray) (w : World) (hs : s.size ≤ maxLen) :
    Calls Tryd.prog 43 #[.string s] w fun e w' => e = .returned (.bool (fieldB s.data.toList)) ∧ w' = w := by
  go_enter Tryd.func43, Tryd.ntmps43
  go_wp2_with (go_at_call 59; refine (spelled_field _ _ hs).mono ?_; rintro e w' ⟨rfl, rfl⟩)
  go_ret
  exact ⟨rfl, rfl⟩

end Go.Proofs.YtmjchokacmbkoabDoor
