/-
  The walk of NameTokens.
-/
import Derived.Test.YtgpeaepmkincaaaRtok
import Derived.Test.YtgpeaepmkincaaaSortz
namespace Go.Proofs.Ytgpeaepmkincaaa
open Go.RowKit

theorem fixed_true (w : World) : Calls Try.prog 9 #[] w fun e w' => e = .returned (.bool true) ∧ Below w.heap.size w w' := fixed_of fix_sort w

theorem tokenB_self (t : ByteArray) : tokenB t t = true := by
  rcases ix_cases t.data.toList 124 with ⟨h1, _⟩ | ⟨i, h1, _, _, _⟩
  · rw [tokenB_bare t h1, (tok_no h1).2]; simp
  · rw [tokenB_bar t h1]; simp

set_option maxHeartbeats 800000 in
theorem tokens_nil (p : ByteArray) (a : Option Addr) (cap : Nat) (w : World) :
    Calls Try.prog 8 #[.string p, .slice a 0 cap] w fun e w' => e = .returned (.bool true) ∧ Below w.heap.size w w' := by
  go_enter Try.func8, Try.ntmps8
  go_wp2_with (go_at_call 9; refine (fixed_true _).mono ?_; rintro e w1 ⟨rfl, hq1⟩)
  refine wp_loop_rounds 1 ?_
  rw [rounds_succ]
  go_wp2
  go_ret
  exact ⟨rfl, hq1⟩

set_option maxHeartbeats 800000 in
theorem tokens_any (p : ByteArray) (b off len cap : Nat) (f : Nat → ByteArray) (w : World) (hp : p.size ≤ maxLen) (hlen : len ≤ maxLen) (hb : b < w.heap.size)
    (hcell : ∀ i, i < len → w.cell? ⟨b, off + i, none⟩ = some (.string (f i))) (hf : ∀ i, i < len → (f i).size ≤ maxLen) :
    Calls Try.prog 8 #[.string p, .slice (some ⟨b, off, none⟩) len cap] w fun e w' => e = .returned (.bool true) ∧ Below w.heap.size w w' := by
  have HP := hid hp
  have HF := hid hf
  have HC := hid hcell
  have HT := hid tokenB_self
  unfold maxLen at hlen
  clear hp hf hcell
  go_enter Try.func8, Try.ntmps8
  go_wp2_with (go_at_call 9; refine (fixed_true _).mono ?_; rintro e w1 ⟨rfl, hq1⟩)
  have HQ := hid (And.intro hq1 (bcell hq1).1)
  clear hq1
  go_loopw [11] (fun i wr => ∃ k q : Nat, k ≤ len ∧ i = .int .i64 k ∧ wr = w1.drewN q) (fun i _ => len - (intOf i).toNat)
  case atStart => exact ⟨0, 0, by omega, rfl, rfl⟩
  case round =>
    obtain ⟨k, q, hk, rfl, rfl⟩ := hrel
    by_cases hlt : k < len
    · have hc : w1.cell? ⟨b, off + k, none⟩ = some (.string (f k)) := by rw [HQ.out.2 _ _ hb]; exact HC.out k hlt
      have hs := hid (HF.out k hlt)
      have ht := HT.out (f k)
      generalize f k = t at *
      go_wp2_with fail
      refine (Token_any _ _ _ HP.out hs.out).mono ?_
      rintro e w' ⟨rfl, n1, rfl⟩
      go_wp2_with fail
      refine (rtoken_any _ _ _ HP.out hs.out).mono ?_
      rintro e w' ⟨rfl, n2, rfl⟩
      go_wp2_with fail
      refine (Token_any _ _ _ hs.out hs.out).mono ?_
      rintro e w' ⟨rfl, n3, rfl⟩
      go_wp2_with fail
      exact ⟨⟨k + 1, _, by omega, by go_num, rfl⟩, by simp [intOf]; omega⟩
    · go_wp2
      go_ret
      exact ⟨rfl, below_drewN HQ.out.1 _⟩

end Go.Proofs.Ytgpeaepmkincaaa
