/-
  The contracts of the reference's bar and Token.
-/
import Derived.Test.YtgpeaepmkincaaaTok
import Derived.Deep.QuietTactic
import Derived.BigQuiet
namespace Go.Proofs.Ytgpeaepmkincaaa
open Go.RowKit

/-- No byte c among the first k. -/
theorem ix_none_of (s : ByteArray) (c : UInt8) (h : ∀ j, (hj : j < s.size) → s[j] ≠ c) : Lib.indexByte s.data.toList c = -1 := by
  rcases ix_cases s.data.toList c with ⟨h1, _⟩ | ⟨i, _, h2, h3, _⟩
  · exact h1
  · have hi : i < s.size := by simpa using h2
    rw [Lib.data_getElem? s i hi] at h3
    exact absurd (Option.some.inj h3) (h i hi)

theorem ix_at_of (s : ByteArray) (c : UInt8) (k : Nat) (hk : k < s.size) (h : ∀ j, j < k → (hj : j < s.size) → s[j] ≠ c) (hc : s[k] = c) : Lib.indexByte s.data.toList c = (k : Int) := by
  rcases ix_cases s.data.toList c with ⟨_, h2⟩ | ⟨i, h1, h2, h3, h4⟩
  · exfalso
    apply h2
    rw [← hc, ← byte_at s k hk]
    exact List.getElem_mem _
  · have hi : i < s.size := by simpa using h2
    rw [Lib.data_getElem? s i hi] at h3
    have e3 := Option.some.inj h3
    rcases Nat.lt_trichotomy i k with hl | rfl | hl
    · exact absurd e3 (h i hl hi)
    · exact h1
    · exfalso
      apply h4
      rw [← hc, ← byte_at s k hk]
      rw [List.mem_iff_getElem]
      exact ⟨k, by simp; omega, by rw [List.getElem_take]⟩

set_option maxHeartbeats 400000 in
theorem bar_any (s : ByteArray) (w : World) (hs : s.size ≤ maxLen) :
    Calls Try.prog 47 #[.string s] w fun e w' => e = .returned (.int .i64 (Lib.indexByte s.data.toList 124)) ∧ w' = w := by
  unfold maxLen at hs
  have HN := hid (ix_none_of s 124)
  have HA := hid (ix_at_of s 124)
  generalize Lib.indexByte s.data.toList 124 = r at *
  go_enter Try.func47, Try.ntmps47
  go_wp2
  go_loop [3] (fun i => ∃ k : Nat, k ≤ s.size ∧ i = .int .i64 k ∧ (∀ j, j < k → (hj : j < s.size) → s[j] ≠ 124)) (fun i => s.size - (intOf i).toNat)
  case atStart => exact ⟨0, by omega, rfl, fun j h => by omega⟩
  case round =>
    obtain ⟨k, hk, rfl, hall⟩ := hrel
    have HL := hid hall
    clear hall
    by_cases hlt : k < s.size
    · by_cases hc : s[k] = 124
      · have hb : ((s[k].toNat : Int) == 124) = true := by rw [hc]; rfl
        have HC := hid hc
        clear hc
        go_wp2
        go_ret
        exact ⟨ret_int (HA.out k hlt HL.out HC.out).symm, rfl⟩
      · have hb : ((s[k].toNat : Int) == 124) = false := by
          rw [beq_eq_false_iff_ne]
          intro h
          apply hc
          apply UInt8.toNat_inj.1
          have : (124 : UInt8).toNat = 124 := rfl
          omega
        have HC := hid hc
        clear hc
        go_wp2
        go_round
        case rel =>
          refine ⟨k + 1, by omega, by go_num, fun j h1 hj => ?_⟩
          by_cases hjk : j = k
          · subst hjk; exact HC.out
          · exact HL.out j (by omega) hj
        case measure => simp [intOf]; omega
    · go_wp2
      go_ret
      exact ⟨ret_int (HN.out fun j hj => HL.out j (by omega) hj).symm, rfl⟩

theorem beq_nil_isEmpty (l : List UInt8) : (l == (⟨#[]⟩ : ByteArray).toList) = l.isEmpty := by
  rw [Lib.toList_data]
  cases l <;> rfl

set_option maxHeartbeats 800000 in
theorem rtoken_any (p t : ByteArray) (w : World) (hp : p.size ≤ maxLen) (ht : t.size ≤ maxLen) :
    Calls Try.prog 29 #[.string p, .string t] w fun e w' => e = .returned (.bool (tokenB p t)) ∧ ∃ n, w' = w.drewN n := by
  have HS := hid (And.intro hp ht)
  unfold maxLen at hp ht
  have kp := fun W => bar_any p W HS.out.1
  have kt := fun W => bar_any t W HS.out.2
  rcases ix_cases p.data.toList 124 with ⟨h1, _⟩ | ⟨j, h1, hj, _, _⟩
  · have hb := tokenB_bare t h1
    rw [h1] at kp
    have KP := hid kp
    rcases ix_cases t.data.toList 124 with ⟨h2, _⟩ | ⟨i, h2, hi, _, _⟩
    · rw [(tok_no h2).2] at hb
      rw [h2] at kt
      have KT := hid kt
      have HB := hid hb
      clear kp kt hb h1 h2
      go_enter Try.func29, Try.ntmps29
      go_wp2_with fail
      refine (KP.out _).mono ?_
      rintro e w' ⟨rfl, rfl⟩
      go_wp2_with fail
      refine (KT.out _).mono ?_
      rintro e w' ⟨rfl, rfl⟩
      go_wp2_with fail
      go_ret
      exact ⟨ret_bool HB.out.symm, 0, rfl⟩
    · have hi' : i < t.size := by simpa using hi
      rw [(tok_yes h2).2] at hb
      rw [h2] at kt
      have KT := hid kt
      have HB := hid hb
      clear kp kt hb h1 h2 hi
      have c1 : (0 : Int) ≤ ↑i := by omega
      have c2 : (↑i : Int) ≤ ↑t.size := by omega
      have c3 : (0 : Int) ≤ ↑i + 1 := by omega
      have c4 : (↑i + 1 : Int) ≤ ↑t.size := by omega
      go_enter Try.func29, Try.ntmps29
      go_wp2_with fail
      refine (KP.out _).mono ?_
      rintro e w' ⟨rfl, rfl⟩
      go_wp2_with fail
      refine (KT.out _).mono ?_
      rintro e w' ⟨rfl, rfl⟩
      go_wp2_with fail
      go_quiet (fail)
      go_wp2_with fail
      go_ret
      exact ⟨ret_bool HB.out.symm, _, rfl⟩
  · have hj' : j < p.size := by simpa using hj
    have hb := tokenB_bar t h1
    rw [(tok_yes h1).1, (tok_yes h1).2] at hb
    rw [h1] at kp
    have KP := hid kp
    have d1 : (0 : Int) ≤ ↑j := by omega
    have d2 : (↑j : Int) ≤ ↑p.size := by omega
    have d3 : (0 : Int) ≤ ↑j + 1 := by omega
    have d4 : (↑j + 1 : Int) ≤ ↑p.size := by omega
    rcases ix_cases t.data.toList 124 with ⟨h2, _⟩ | ⟨i, h2, hi, _, _⟩
    · rw [(tok_no h2).1, (tok_no h2).2, beq_nil_isEmpty] at hb
      rw [h2] at kt
      have KT := hid kt
      have HB := hid hb
      clear kp kt hb h1 h2 hj
      cases e1 : (p.extract 0 j).toList.isEmpty <;> cases e2 : (p.extract (j + 1) p.size).toList.isEmpty
      all_goals
        go_enter Try.func29, Try.ntmps29
        go_wp2_with fail
        refine (KP.out _).mono ?_
        rintro e w' ⟨rfl, rfl⟩
        go_wp2_with fail
        refine (KT.out _).mono ?_
        rintro e w' ⟨rfl, rfl⟩
        go_wp2_with fail
        go_ret
        exact ⟨ret_bool (by rw [HB.out, e1, e2]; simp), 0, rfl⟩
    · have hi' : i < t.size := by simpa using hi
      rw [(tok_yes h2).1, (tok_yes h2).2] at hb
      rw [h2] at kt
      have KT := hid kt
      have HB := hid hb
      clear kp kt hb h1 h2 hi hj
      have c1 : (0 : Int) ≤ ↑i := by omega
      have c2 : (↑i : Int) ≤ ↑t.size := by omega
      have c3 : (0 : Int) ≤ ↑i + 1 := by omega
      have c4 : (↑i + 1 : Int) ≤ ↑t.size := by omega
      cases e1 : ((p.extract 0 j).toList == (t.extract 0 i).toList) <;> cases e2 : (p.extract (j + 1) p.size).toList.isEmpty
      all_goals
        go_enter Try.func29, Try.ntmps29
        go_wp2_with fail
        refine (KP.out _).mono ?_
        rintro e w' ⟨rfl, rfl⟩
        go_wp2_with fail
        refine (KT.out _).mono ?_
        rintro e w' ⟨rfl, rfl⟩
        go_wp2_with fail
        go_quiet (fail)
        go_wp2_with fail
        go_ret
        exact ⟨ret_bool (by rw [HB.out, e1, e2]; simp), _, rfl⟩

end Go.Proofs.Ytgpeaepmkincaaa
