/-
  The contracts of the reference's class and Field.
-/
import Derived.Test.YtmjchokacmbkoaaDoorLeaf
namespace Go.Proofs.YtmjchokacmbkoaaDoor
open Go.RowKit

def cls (n : Int) : Int := if bigB n then 1 else if smallB n then 2 else if digB n then 3 else if n = 45 ∨ n = 46 then 4 else 0

theorem cls_cases (n : Int) :
    (cls n = 1 ∧ bigB n = true ∧ smallB n = false ∧ letB n = true ∧ lodB n = true ∧ idB n = true) ∨
    (cls n = 2 ∧ bigB n = false ∧ smallB n = true ∧ letB n = true ∧ lodB n = true ∧ idB n = true) ∨
    (cls n = 3 ∧ bigB n = false ∧ smallB n = false ∧ letB n = false ∧ lodB n = true ∧ idB n = true) ∨
    (cls n = 4 ∧ bigB n = false ∧ smallB n = false ∧ letB n = false ∧ lodB n = false ∧ idB n = true) ∨
    (cls n = 0 ∧ bigB n = false ∧ smallB n = false ∧ letB n = false ∧ lodB n = false ∧ idB n = false) := by
  cases h1 : bigB n
  · cases h2 : smallB n
    · cases h3 : digB n
      · by_cases h4 : n = 45 ∨ n = 46
        · right; right; right; left
          refine ⟨by simp [cls, h1, h2, h3, h4], rfl, rfl, by simp [letB, h1, h2], by simp [lodB, letB, h1, h2, h3], ?_⟩
          rcases h4 with rfl | rfl <;> decide
        · right; right; right; right
          have h45 : (n == 45) = false := beq_eq_false_iff_ne.2 fun e => h4 (.inl e)
          have h46 : (n == 46) = false := beq_eq_false_iff_ne.2 fun e => h4 (.inr e)
          exact ⟨by simp [cls, h1, h2, h3, h4], rfl, rfl, by simp [letB, h1, h2], by simp [lodB, letB, h1, h2, h3], by simp [idB, lodB, letB, h1, h2, h3, h45, h46]⟩
      · right; right; left
        exact ⟨by simp [cls, h1, h2, h3], rfl, rfl, by simp [letB, h1, h2], by simp [lodB, h3], by simp [idB, lodB, h3]⟩
    · right; left
      exact ⟨by simp [cls, h1, h2], rfl, rfl, by simp [letB, h2], by simp [lodB, letB, h2], by simp [idB, lodB, letB, h2]⟩
  · left
    have h2 : smallB n = false := by
      rw [bigB_true] at h1
      rw [Bool.eq_false_iff, Ne, smallB_true]; omega
    exact ⟨by simp [cls, h1], rfl, h2, by simp [letB, h1], by simp [lodB, letB, h1], by simp [idB, lodB, letB, h1]⟩

set_option maxHeartbeats 400000 in
theorem class_any (n : Int) (w : World) : Calls Tryd.prog 62 #[.int .u8 n] w fun e w' => e = .returned (.int .i64 (cls n)) ∧ w' = w := by
  go_enter Tryd.func62, Tryd.ntmps62
  go_wp2
  all_goals go_ret
  all_goals refine ⟨ret_int ?_, rfl⟩
  all_goals (simp_all [cls, bigB, smallB, digB]; try omega)

set_option maxHeartbeats 1000000 in
theorem rfield_any (s : ByteArray) (w : World) (hs : s.size ≤ maxLen) :
    Calls Tryd.prog 35 #[.string s] w fun e w' => e = .returned (.bool (fieldB s.data.toList)) ∧ w' = w := by
  unfold maxLen at hs
  have HE := hid (spell_empty smallB lodB s)
  have HG := hid (spell_long smallB lodB s)
  have HF := hid (spell_first smallB lodB s)
  have HA := hid (spell_at smallB lodB s)
  have HT := hid (spell_true smallB lodB s)
  have HB : Hid (fieldB s.data.toList = spell smallB lodB s.data.toList) := rfl
  go_enter Tryd.func35, Tryd.ntmps35
  go_wp2
  go_loop [3] (fun i => ∃ k : Nat, k ≤ s.size ∧ i = .int .i64 k ∧ (∀ j, j < k → (hj : j < s.size) → (j = 0 → smallB (s[j].toNat : Int) = true) ∧ (1 ≤ j → lodB (s[j].toNat : Int) = true))) (fun i => s.size - (intOf i).toNat)
  case atStart => exact ⟨0, by omega, rfl, fun j h => by omega⟩
  case round =>
    obtain ⟨k, hk, rfl, hall⟩ := hrel
    have HL := hid hall
    clear hall
    by_cases hlt : k < s.size
    · rcases Nat.eq_zero_or_pos k with h0 | h0
      · have HZ := hid h0
        have hz : ((k : Int) == 0) = true := by rw [h0]; rfl
        clear h0
        rcases cls_cases (s[k].toNat : Int) with h | h | h | h | h
        all_goals
          have HC := hid h
          clear h
          go_wp2_with (go_at_call 62; refine (class_any _ _).mono ?_; rintro e w' ⟨rfl, rfl⟩; rw [HC.out.1])
          first
          | (go_ret; exact ⟨ret_bool (by rw [HB.out]; have hz' := HZ.out; subst hz'; exact (HF.out hlt (by first | exact HC.out.2.1 | exact HC.out.2.2.1 | exact HC.out.2.2.2.2.1 | exact HC.out.2.2.2.2.2)).symm), rfl⟩)
          | (go_round
             case rel =>
               refine ⟨k + 1, by omega, by go_num, fun j h1 hj => ?_⟩
               have hz' := HZ.out
               have hj0 : j = k := by omega
               subst hj0
               exact ⟨fun _ => (by first | exact HC.out.2.1 | exact HC.out.2.2.1 | exact HC.out.2.2.2.2.1 | exact HC.out.2.2.2.2.2), fun _ => by omega⟩
             case measure => simp [intOf]; omega)
      · have HZ := hid h0
        have hz : ((k : Int) == 0) = false := by rw [beq_eq_false_iff_ne]; omega
        clear h0
        rcases cls_cases (s[k].toNat : Int) with h | h | h | h | h
        all_goals
          have HC := hid h
          clear h
          go_wp2_with (go_at_call 62; refine (class_any _ _).mono ?_; rintro e w' ⟨rfl, rfl⟩; rw [HC.out.1])
          first
          | (go_ret; exact ⟨ret_bool (by rw [HB.out]; exact (HA.out k HZ.out hlt (by first | exact HC.out.2.2.2.1 | exact HC.out.2.2.2.2.1 | exact HC.out.2.2.2.2.2)).symm), rfl⟩)
          | (go_round
             case rel =>
               refine ⟨k + 1, by omega, by go_num, fun j h1 hj => ?_⟩
               by_cases hjk : j = k
               · subst hjk
                 exact ⟨fun e => by have := HZ.out; omega, fun _ => (by first | exact HC.out.2.2.2.1 | exact HC.out.2.2.2.2.1 | exact HC.out.2.2.2.2.2)⟩
               · exact HL.out j (by omega) hj
             case measure => simp [intOf]; omega)
    · have hks : k = s.size := by omega
      rcases Nat.eq_zero_or_pos s.size with hz | hz
      · have hn : ¬ (0 : Int) < (s.size : Int) := by omega
        have HZ := hid hz
        clear hz hks
        go_wp2_with fail
        go_ret
        exact ⟨ret_bool (by rw [HB.out]; exact (HE.out HZ.out).symm), rfl⟩
      · have hn : (0 : Int) < (s.size : Int) := by omega
        by_cases hm : s.size ≤ 32
        · have hm' : (s.size : Int) ≤ 32 := by omega
          have HK := hid hks
          clear hks
          go_wp2_with fail
          go_ret
          refine ⟨ret_bool (by rw [HB.out]; exact (HT.out hz hm ((HL.out 0 (by have := HK.out; omega) hz).1 rfl) (fun j h1 hj => (HL.out j (by have := HK.out; omega) hj).2 h1)).symm), rfl⟩
        · have hm' : ¬ (s.size : Int) ≤ 32 := by omega
          clear hks
          go_wp2_with fail
          go_ret
          exact ⟨ret_bool (by rw [HB.out]; exact (HG.out (by omega)).symm), rfl⟩

end Go.Proofs.YtmjchokacmbkoaaDoor
