/-
  The contracts of the reference's digit and hex.
-/
import Derived.Test.YtmjchokacmbkoaaDoorTxr
namespace Go.Proofs.YtmjchokacmbkoaaDoor
open Go.RowKit

set_option maxHeartbeats 1000000 in
theorem rdigit_any (k : Nat) (hk : k < 16) (w : World) : Calls Tryd.prog 54 #[.int .u8 (k : Nat)] w fun e w' => e = .returned (.int .u8 ((hexd k).toNat : Nat)) ∧ w' = w := by
  have : k = 0 ∨ k = 1 ∨ k = 2 ∨ k = 3 ∨ k = 4 ∨ k = 5 ∨ k = 6 ∨ k = 7 ∨ k = 8 ∨ k = 9 ∨ k = 10 ∨ k = 11 ∨ k = 12 ∨ k = 13 ∨ k = 14 ∨ k = 15 := by omega
  rcases this with rfl | rfl | rfl | rfl | rfl | rfl | rfl | rfl | rfl | rfl | rfl | rfl | rfl | rfl | rfl | rfl
  all_goals
    go_enter Tryd.func54, Tryd.ntmps54
    go_wp2
    go_ret
    exact ⟨rfl, rfl⟩

/-- The number of a digit, or 16. -/
def hexN (c : UInt8) : Nat := if 48 ≤ c.toNat ∧ c.toNat ≤ 57 then c.toNat - 48 else if 97 ≤ c.toNat ∧ c.toNat ≤ 102 then c.toNat - 87 else 16

theorem hexN_table : ((List.range 256).all fun n => decide (hexv (UInt8.ofNat n) = if hexN (UInt8.ofNat n) = 16 then -1 else (hexN (UInt8.ofNat n) : Int))) = true := by kernel_rfl
theorem hexN_eq (c : UInt8) : hexv c = if hexN c = 16 then -1 else (hexN c : Int) := by
  have h := List.all_eq_true.1 hexN_table c.toNat (List.mem_range.2 c.toNat_lt)
  rw [decide_eq_true_eq, UInt8.ofNat_toNat] at h
  exact h
theorem hexN_le (c : UInt8) : hexN c ≤ 16 := by unfold hexN; split <;> (try split) <;> omega

set_option maxHeartbeats 1000000 in
theorem rhex_any (c : UInt8) (w : World) : Calls Tryd.prog 55 #[.int .u8 (c.toNat : Nat)] w fun e w' => e = .returned (.int .u8 (hexN c : Nat)) ∧ w' = w := by
  have hc := c.toNat_lt
  have HN : Hid (hexN c = if 48 ≤ c.toNat ∧ c.toNat ≤ 57 then c.toNat - 48 else if 97 ≤ c.toNat ∧ c.toNat ≤ 102 then c.toNat - 87 else 16) := rfl
  obtain ⟨r, hr⟩ : ∃ r, hexN c = r := ⟨_, rfl⟩
  rw [hr]
  rw [hr] at HN
  clear hr
  by_cases h1 : 48 ≤ c.toNat ∧ c.toNat ≤ 57
  · have a1 : decide ((48 : Int) ≤ (c.toNat : Int)) = true := decide_eq_true (by omega)
    have a2 : decide ((c.toNat : Int) ≤ 57) = true := decide_eq_true (by omega)
    have H : Hid ((c.toNat : Int) - 48 = (r : Int)) := by show _ = _; rw [HN.out, if_pos h1]; omega
    go_enter Tryd.func55, Tryd.ntmps55
    go_wp2
    go_ret
    exact ⟨congrArg (fun z => Ending.returned (.int .u8 z)) H.out, rfl⟩
  · by_cases h2 : 97 ≤ c.toNat ∧ c.toNat ≤ 102
    · have a0 : decide ((48 : Int) ≤ (c.toNat : Int)) = true := decide_eq_true (by omega)
      have a00 : decide ((c.toNat : Int) ≤ 57) = false := decide_eq_false (by omega)
      have a1 : decide ((97 : Int) ≤ (c.toNat : Int)) = true := decide_eq_true (by omega)
      have a2 : decide ((c.toNat : Int) ≤ 102) = true := decide_eq_true (by omega)
      have H : Hid ((c.toNat : Int) - 87 = (r : Int)) := by show _ = _; rw [HN.out, if_neg h1, if_pos h2]; omega
      go_enter Tryd.func55, Tryd.ntmps55
      go_wp2
      go_ret
      exact ⟨congrArg (fun z => Ending.returned (.int .u8 z)) H.out, rfl⟩
    · have H : Hid ((16 : Int) = (r : Int)) := by show _ = _; rw [HN.out, if_neg h1, if_neg h2]; rfl
      clear HN
      by_cases h3 : c.toNat < 48
      · have a1 : decide ((48 : Int) ≤ (c.toNat : Int)) = false := decide_eq_false (by omega)
        have a2 : decide ((97 : Int) ≤ (c.toNat : Int)) = false := decide_eq_false (by omega)
        go_enter Tryd.func55, Tryd.ntmps55
        go_wp2
        go_ret
        exact ⟨congrArg (fun z => Ending.returned (.int .u8 z)) H.out, rfl⟩
      · have a1 : decide ((48 : Int) ≤ (c.toNat : Int)) = true := decide_eq_true (by omega)
        have a2 : decide ((c.toNat : Int) ≤ 57) = false := decide_eq_false (by omega)
        by_cases h4 : c.toNat < 97
        · have a3 : decide ((97 : Int) ≤ (c.toNat : Int)) = false := decide_eq_false (by omega)
          go_enter Tryd.func55, Tryd.ntmps55
          go_wp2
          go_ret
          exact ⟨congrArg (fun z => Ending.returned (.int .u8 z)) H.out, rfl⟩
        · have a3 : decide ((97 : Int) ≤ (c.toNat : Int)) = true := decide_eq_true (by omega)
          have a4 : decide ((c.toNat : Int) ≤ 102) = false := decide_eq_false (by omega)
          go_enter Tryd.func55, Tryd.ntmps55
          go_wp2
          go_ret
          exact ⟨congrArg (fun z => Ending.returned (.int .u8 z)) H.out, rfl⟩

end Go.Proofs.YtmjchokacmbkoaaDoor
