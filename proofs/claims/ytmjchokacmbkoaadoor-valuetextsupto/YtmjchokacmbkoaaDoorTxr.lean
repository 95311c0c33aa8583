/-
  The contracts of the reference's plain, digit and hex.
-/
import Derived.Test.YtmjchokacmbkoaaDoorFst
namespace Go.Proofs.YtmjchokacmbkoaaDoor
open Go.RowKit

theorem plainB_of (n : Int) (h : plainRuns.any (fun r => decide (r.1 ≤ n) && decide (n ≤ r.2)) = true) : plainB n = true := h

theorem plain_ranges (n : Int) (g0 : (45 == n) = false) (g1 : (46 == n) = false) (g2 : (95 == n) = false) (g3 : (124 == n) = false) (g4 : (42 == n) = false) (g5 : (64 == n) = false) (g6 : (47 == n) = false) (g7 : (58 == n) = false) (g8 : (43 == n) = false) (g9 : (44 == n) = false) :
    plainB n = (decide (48 ≤ n) && decide (n ≤ 57) || decide (65 ≤ n) && decide (n ≤ 90) || decide (97 ≤ n) && decide (n ≤ 122)) := by
  rw [beq_eq_false_iff_ne] at *
  unfold plainB plainRuns
  simp only [List.any_cons, List.any_nil, Bool.or_false]
  have e : ∀ k : Int, k ≠ n → (decide (k ≤ n) && decide (n ≤ k)) = false := fun k hk => by
    rw [Bool.and_eq_false_iff, decide_eq_false_iff_not, decide_eq_false_iff_not]; omega
  rw [e 45 g0, e 46 g1, e 95 g2, e 124 g3, e 42 g4, e 64 g5, e 47 g6, e 58 g7, e 43 g8, e 44 g9]
  simp only [Bool.or_false]
  generalize (decide (97 ≤ n) && decide (n ≤ 122)) = a
  generalize (decide (65 ≤ n) && decide (n ≤ 90)) = b
  generalize (decide (48 ≤ n) && decide (n ≤ 57)) = c
  cases a <;> cases b <;> cases c <;> rfl

set_option maxHeartbeats 4000000 in
set_option maxRecDepth 100000 in
theorem rplain_any (n : Int) (w : World) : Calls Tryd.prog 53 #[.int .u8 n] w fun e w' => e = .returned (.bool (plainB n)) ∧ w' = w := by
  have sign : ∀ k : Nat, k < 10 → ∀ c : Int, ([45, 46, 95, 124, 42, 64, 47, 58, 43, 44] : List Int)[k]? = some c → plainB c = true := by
    intro k hk c hc
    have : ∀ c ∈ ([45, 46, 95, 124, 42, 64, 47, 58, 43, 44] : List Int), plainB c = true := by decide
    exact this c (List.mem_of_getElem? hc)
  by_cases h : ∃ k : Nat, k < 10 ∧ ([45, 46, 95, 124, 42, 64, 47, 58, 43, 44] : List Int)[k]? = some n
  · obtain ⟨k, hk, hn⟩ := h
    have HP := hid (sign k hk n hn)
    clear sign
    have : k = 0 ∨ k = 1 ∨ k = 2 ∨ k = 3 ∨ k = 4 ∨ k = 5 ∨ k = 6 ∨ k = 7 ∨ k = 8 ∨ k = 9 := by omega
    rcases this with rfl | rfl | rfl | rfl | rfl | rfl | rfl | rfl | rfl | rfl
    all_goals
      simp only [List.getElem?_cons_zero, List.getElem?_cons_succ, Option.some.injEq] at hn
      subst hn
      go_enter Tryd.func53, Tryd.ntmps53
      go_wp2
      refine wp_loop_rounds 11 ?_
      repeat (rw [rounds_succ]; go_wp2)
      go_ret
      exact ⟨ret_bool HP.out.symm, rfl⟩
  · have hne : ∀ k : Nat, k < 10 → ∀ c : Int, ([45, 46, 95, 124, 42, 64, 47, 58, 43, 44] : List Int)[k]? = some c → (c == n) = false := fun k hk c hc => by
      rw [beq_eq_false_iff_ne]
      intro e
      subst e
      exact h ⟨k, hk, hc⟩
    have g0 := hne 0 (by decide) 45 rfl; have g1 := hne 1 (by decide) 46 rfl; have g2 := hne 2 (by decide) 95 rfl; have g3 := hne 3 (by decide) 124 rfl; have g4 := hne 4 (by decide) 42 rfl
    have g5 := hne 5 (by decide) 64 rfl; have g6 := hne 6 (by decide) 47 rfl; have g7 := hne 7 (by decide) 58 rfl; have g8 := hne 8 (by decide) 43 rfl; have g9 := hne 9 (by decide) 44 rfl
    have HR := hid (plain_ranges n g0 g1 g2 g3 g4 g5 g6 g7 g8 g9)
    clear hne h sign
    have z0 : ((⟨#[45, 46, 95, 124, 42, 64, 47, 58, 43, 44]⟩ : ByteArray)[0]'(by decide)).toNat = 45 := rfl
    have z1 : ((⟨#[45, 46, 95, 124, 42, 64, 47, 58, 43, 44]⟩ : ByteArray)[1]'(by decide)).toNat = 46 := rfl
    have z2 : ((⟨#[45, 46, 95, 124, 42, 64, 47, 58, 43, 44]⟩ : ByteArray)[2]'(by decide)).toNat = 95 := rfl
    have z3 : ((⟨#[45, 46, 95, 124, 42, 64, 47, 58, 43, 44]⟩ : ByteArray)[3]'(by decide)).toNat = 124 := rfl
    have z4 : ((⟨#[45, 46, 95, 124, 42, 64, 47, 58, 43, 44]⟩ : ByteArray)[4]'(by decide)).toNat = 42 := rfl
    have z5 : ((⟨#[45, 46, 95, 124, 42, 64, 47, 58, 43, 44]⟩ : ByteArray)[5]'(by decide)).toNat = 64 := rfl
    have z6 : ((⟨#[45, 46, 95, 124, 42, 64, 47, 58, 43, 44]⟩ : ByteArray)[6]'(by decide)).toNat = 47 := rfl
    have z7 : ((⟨#[45, 46, 95, 124, 42, 64, 47, 58, 43, 44]⟩ : ByteArray)[7]'(by decide)).toNat = 58 := rfl
    have z8 : ((⟨#[45, 46, 95, 124, 42, 64, 47, 58, 43, 44]⟩ : ByteArray)[8]'(by decide)).toNat = 43 := rfl
    have z9 : ((⟨#[45, 46, 95, 124, 42, 64, 47, 58, 43, 44]⟩ : ByteArray)[9]'(by decide)).toNat = 44 := rfl
    go_enter Tryd.func53, Tryd.ntmps53
    go_wp2
    refine wp_loop_rounds 11 ?_
    repeat (rw [rounds_succ]; go_wp2)
    all_goals go_ret
    all_goals refine ⟨ret_bool ?_, rfl⟩
    all_goals (rw [HR.out, Bool.eq_iff_iff]; first | (simp; omega) | simp | omega)

end Go.Proofs.YtmjchokacmbkoaaDoor
