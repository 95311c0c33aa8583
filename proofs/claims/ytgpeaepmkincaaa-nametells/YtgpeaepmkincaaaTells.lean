/-
  The walk of NameTells.
-/
import Derived.Test.YtgpeaepmkincaaaRparse
namespace Go.Proofs.Ytgpeaepmkincaaa
open Go.RowKit

theorem fixed_so (w : World) : Calls Try.prog 9 #[] w fun e w' => e = .returned (.bool true) ∧ Below w.heap.size w w' := fixed_of fix_sort w

theorem key_later (s t : ByteArray) (i k : Nat) (hik : i < k) (hi : i < s.size) (hc : s[i] = 47) : keyB (s.extract 0 k) t = false := by
  cases h : keyB (s.extract 0 k) t with
  | false => rfl
  | true =>
    exfalso
    have := typeB_slash (keyB_parts h).1
    rw [ext_head] at this
    apply this
    rw [← hc, ← byte_at s i hi, List.mem_iff_getElem]
    exact ⟨i, by simp; omega, by rw [List.getElem_take]⟩

theorem parse_both (s : ByteArray) (hs : s.size ≤ maxLen) :
    ∃ (x y : ByteArray) (n : Int), (∀ w, Calls Try.prog 18 #[.string s] w fun e w' => e = .returned (.tuple #[.agg #[.string x, .string y], .int .i64 n]) ∧ Below w.heap.size w w') ∧
      (∀ w, Calls Try.prog 19 #[.string s] w fun e w' => e = .returned (.tuple #[.agg #[.string x, .string y], .int .i64 n]) ∧ Below w.heap.size w w') := by
  rcases ix_cases s.data.toList 47 with ⟨h1, h2⟩ | ⟨i, h1, h2, h3, h4⟩
  · refine ⟨⟨#[]⟩, ⟨#[]⟩, 2, fun w => parse_bare s w hs h1, fun w => rparse_any s w hs _ _ _ (fun k hk hc _ => ?_) (fun _ => ⟨rfl, rfl, rfl⟩)⟩
    exact absurd (by rw [← hc, ← byte_at s k hk]; exact List.getElem_mem _) h2
  · have hi : i < s.size := by simpa using h2
    rw [Lib.data_getElem? s i hi] at h3
    have hc := Option.some.inj h3
    have hfirst : ∀ k, (hk : k < s.size) → s[k] = 47 → keyB (s.extract 0 k) (s.extract (k + 1) s.size) = true → k = i := by
      intro k hk hck hkb
      rcases Nat.lt_trichotomy k i with hl | he | hl
      · exfalso
        apply h4
        rw [← hck, ← byte_at s k hk, List.mem_iff_getElem]
        exact ⟨k, by simp; omega, by rw [List.getElem_take]⟩
      · exact he
      · rw [key_later s _ i k hl hi hc] at hkb
        cases hkb
    cases hkb : keyB (s.extract 0 i) (s.extract (i + 1) s.size) with
    | true =>
      refine ⟨_, _, 0, fun w => parse_yes s w hs i h1 hi hkb, fun w => rparse_any s w hs _ _ _ (fun k hk hck hk2 => ?_) (fun hno => ?_)⟩
      · have := hfirst k hk hck hk2
        subst this
        exact ⟨rfl, rfl, rfl⟩
      · rw [hno i hi hc] at hkb
        cases hkb
    | false =>
      refine ⟨⟨#[]⟩, ⟨#[]⟩, 2, fun w => parse_no s w hs i h1 hi hkb, fun w => rparse_any s w hs _ _ _ (fun k hk hck hk2 => ?_) (fun _ => ⟨rfl, rfl, rfl⟩)⟩
      have := hfirst k hk hck hk2
      subst this
      rw [hkb] at hk2
      cases hk2

set_option maxHeartbeats 800000 in
theorem tells_nil (a : Option Addr) (cap : Nat) (w : World) :
    Calls Try.prog 3 #[.slice a 0 cap] w fun e w' => e = .returned (.bool true) ∧ Below w.heap.size w w' := by
  go_enter Try.func3, Try.ntmps3
  go_wp2_with (go_at_call 9; refine (fixed_so _).mono ?_; rintro e w1 ⟨rfl, hq1⟩)
  refine wp_loop_rounds 1 ?_
  rw [rounds_succ]
  go_wp2
  go_ret
  exact ⟨rfl, hq1⟩

set_option maxHeartbeats 1000000 in
theorem tells_any (b off len cap : Nat) (f : Nat → ByteArray) (w : World) (hlen : len ≤ maxLen)
    (hcell : ∀ i, i < len → w.cell? ⟨b, off + i, none⟩ = some (.string (f i))) (hf : ∀ i, i < len → (f i).size ≤ maxLen) :
    Calls Try.prog 3 #[.slice (some ⟨b, off, none⟩) len cap] w fun e w' => e = .returned (.bool true) ∧ Below w.heap.size w w' := by
  have HF := hid hf
  have HC := hid hcell
  unfold maxLen at hlen
  clear hf hcell
  go_enter Try.func3, Try.ntmps3
  go_wp2_with (go_at_call 9; refine (fixed_so _).mono ?_; rintro e w1 ⟨rfl, hq1⟩)
  have HQ := hid hq1
  clear hq1
  go_loopw [13] (fun i wr => ∃ k : Nat, k ≤ len ∧ i = .int .i64 k ∧ Below w.heap.size w wr) (fun i _ => len - (intOf i).toNat)
  case atStart => exact ⟨0, by omega, rfl, HQ.out⟩
  case round =>
    obtain ⟨k, hk, rfl, hbel⟩ := hrel
    have HB := hid hbel
    clear hbel
    by_cases hlt : k < len
    · have c0 := kept HB.out (HC.out k hlt)
      have hs := hid (HF.out k hlt)
      generalize f k = s at *
      obtain ⟨x, y, n, hp, hr⟩ := parse_both s hs.out
      have HP := hid hp
      have HR := hid hr
      have hne := fun W => neq_key x y x y W
      rw [eqK_self] at hne
      clear hp hr
      go_wp2_with (first | (go_at_call 10; refine (type_any _ _ hs.out).mono ?_; rintro e w' ⟨rfl, rfl⟩) | (go_at_call 11; refine (rtype_any _ _ hs.out).mono ?_; rintro e w' ⟨rfl, rfl⟩) | (go_at_call 12; refine (iden_any _ _ hs.out).mono ?_; rintro e w' ⟨rfl, rfl⟩) | (go_at_call 13; refine (riden_any _ _ hs.out).mono ?_; rintro e w' ⟨rfl, rfl⟩) | (go_at_call 14; refine (field_any _ _ hs.out).mono ?_; rintro e w' ⟨rfl, rfl⟩) | (go_at_call 15; refine (rfield_any _ _ hs.out).mono ?_; rintro e w' ⟨rfl, rfl⟩) | (go_at_call 16; refine (temp_any _ _ hs.out).mono ?_; rintro e w' ⟨rfl, rfl⟩) | (go_at_call 17; refine (rtemp_any _ _ hs.out).mono ?_; rintro e w' ⟨rfl, rfl⟩))
      refine (HP.out _).mono ?_
      rintro o w2 ⟨rfl, hq2⟩
      have b2 := HB.out.trans (hq2.mono HB.out.size)
      clear hq2 c0
      go_wp2_with fail
      refine (HR.out _).mono ?_
      rintro o w3 ⟨rfl, hq3⟩
      have d0 : w3.cell? ⟨w2.heap.size, 0, none⟩ = some (.string x) := kept hq3 (by simp [go_sem])
      have d1 : w3.cell? ⟨w2.heap.size, 1, none⟩ = some (.string y) := kept hq3 (by simp [go_sem])
      have e0 := kept_new (.cells #[.string x, .string y] 26) d0
      have e1 := kept_new (.cells #[.string x, .string y] 26) d1
      have b3 := (b2.alloc b2.size _).trans (hq3.mono (by have := b2.size; simp; omega))
      have b4 := b3.alloc b3.size (.cells #[.string x, .string y] 26)
      clear hq3 b2 b3 d0 d1
      go_wp2_with fail
      exact ⟨⟨k + 1, by omega, by go_num, b4⟩, by simp [intOf]; omega⟩
    · go_wp2
      go_ret
      exact ⟨rfl, HB.out⟩

end Go.Proofs.Ytgpeaepmkincaaa
