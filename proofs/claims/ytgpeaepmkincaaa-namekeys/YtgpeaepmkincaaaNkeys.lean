/-
  The walk of NameKeys.
-/
import Derived.Test.YtgpeaepmkincaaaRkeys
import Derived.Test.YtgpeaepmkincaaaBacka
namespace Go.Proofs.Ytgpeaepmkincaaa
open Go.RowKit

theorem fixed_ok (w : World) : Calls Try.prog 9 #[] w fun e w' => e = .returned (.bool true) ∧ Below w.heap.size w w' := fixed_of fix_sort w

set_option maxHeartbeats 800000 in
theorem keys_nil (a : Option Addr) (cap : Nat) (w : World) :
    Calls Try.prog 4 #[.slice a 0 cap] w fun e w' => e = .returned (.bool true) ∧ Below w.heap.size w w' := by
  go_enter Try.func4, Try.ntmps4
  go_wp2_with (go_at_call 9; refine (fixed_ok _).mono ?_; rintro e w1 ⟨rfl, hq1⟩)
  refine wp_loop_rounds 1 ?_
  rw [rounds_succ]
  go_wp2
  go_ret
  exact ⟨rfl, hq1⟩

set_option maxHeartbeats 800000 in
theorem keys_any (b off len cap : Nat) (f g : Nat → ByteArray) (w : World) (hlen : len ≤ maxLen)
    (hcell : ∀ i, i < len → w.cell? ⟨b, off + i * 2, none⟩ = some (.string (f i)) ∧ w.cell? ⟨b, off + i * 2 + 1, none⟩ = some (.string (g i))) (hf : ∀ i, i < len → (f i).size ≤ maxLen ∧ (g i).size ≤ maxLen) :
    Calls Try.prog 4 #[.slice (some ⟨b, off, none⟩) len cap] w fun e w' => e = .returned (.bool true) ∧ Below w.heap.size w w' := by
  have HF := hid hf
  have HC := hid hcell
  unfold maxLen at hlen
  clear hf hcell
  go_enter Try.func4, Try.ntmps4
  go_wp2_with (go_at_call 9; refine (fixed_ok _).mono ?_; rintro e w1 ⟨rfl, hq1⟩)
  have HQ := hid hq1
  clear hq1
  go_loopw [13] (fun i wr => ∃ k : Nat, k ≤ len ∧ i = .int .i64 k ∧ Below w.heap.size w wr) (fun i _ => len - (intOf i).toNat)
  case atStart => exact ⟨0, by omega, rfl, HQ.out⟩
  case round =>
    obtain ⟨k, hk, rfl, hbel⟩ := hrel
    have HB := hid hbel
    clear hbel
    by_cases hlt : k < len
    · have c0 := kept HB.out (HC.out k hlt).1
      have c1 := kept HB.out (HC.out k hlt).2
      have hs := hid (HF.out k hlt)
      generalize f k = x at *
      generalize g k = y at *
      cases hkb : keyB x y with
      | false =>
        have b1 := HB.out.alloc HB.out.size (.cells #[.string x, .string y] 26)
        have HK := hid hkb
        clear hkb
        go_wp2_with fail
        refine (print_no x y _ hs.out.1 hs.out.2 HK.out).mono ?_
        rintro o w2 ⟨rfl, hq2⟩
        have d0 : w2.cell? ⟨wr.heap.size, 0, none⟩ = some (.string x) := kept hq2 (by simp [go_sem])
        have d1 : w2.cell? ⟨wr.heap.size, 1, none⟩ = some (.string y) := kept hq2 (by simp [go_sem])
        have b2 := b1.trans (hq2.mono b1.size)
        clear hq2 b1 c0 c1
        go_wp2_with fail
        refine (rprint_no x y _ hs.out.1 hs.out.2 HK.out).mono ?_
        rintro o w3 ⟨rfl, hq3⟩
        have e0 := kept hq3 d0
        have e1 := kept hq3 d1
        have b3 := b2.trans (hq3.mono b2.size)
        clear hq3 b2 d0 d1
        go_wp2_with fail
        refine (key_any x y _ hs.out.1 hs.out.2).mono ?_
        rintro o w4 ⟨rfl, hq4⟩
        rw [HK.out]
        have b4 := b3.trans (hq4.mono b3.size)
        clear hq4 b3 e0 e1
        go_wp2_with fail
        exact ⟨⟨k + 1, by omega, by go_num, b4⟩, by simp [intOf]; omega⟩
      | true =>
        have b1 := HB.out.alloc HB.out.size (.cells #[.string x, .string y] 26)
        have HK := hid hkb
        clear hkb
        go_wp2_with fail
        refine (print_yes x y _ hs.out.1 hs.out.2 (keyB_sizes HK.out).1 (keyB_sizes HK.out).2 HK.out).mono ?_
        rintro o w2 ⟨rfl, hq2⟩
        have d0 : w2.cell? ⟨wr.heap.size, 0, none⟩ = some (.string x) := kept hq2 (by simp [go_sem])
        have d1 : w2.cell? ⟨wr.heap.size, 1, none⟩ = some (.string y) := kept hq2 (by simp [go_sem])
        have b2 := b1.trans (hq2.mono b1.size)
        clear hq2 b1 c0 c1
        go_wp2_with fail
        refine (rprint_yes x y _ hs.out.1 hs.out.2 (keyB_sizes HK.out).1 (keyB_sizes HK.out).2 HK.out).mono ?_
        rintro o w3 ⟨rfl, hq3⟩
        have e0 := kept hq3 d0
        have e1 := kept hq3 d1
        have b3 := b2.trans (hq3.mono b2.size)
        clear hq3 b2 d0 d1
        go_wp2_with fail
        refine (key_any x y _ hs.out.1 hs.out.2).mono ?_
        rintro o w4 ⟨rfl, hq4⟩
        rw [HK.out]
        have b4 := b3.trans (hq4.mono b3.size)
        clear hq4 b3 e0 e1
        go_wp2_with fail
        exact ⟨⟨k + 1, by omega, by go_num, b4⟩, by simp [intOf]; omega⟩
    · go_wp2
      go_ret
      exact ⟨rfl, HB.out⟩

end Go.Proofs.Ytgpeaepmkincaaa
