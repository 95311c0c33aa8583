/-
  The contract of the reference's Parse.
-/
import Derived.Test.YtgpeaepmkincaaaRkeys
import Derived.Test.YtgpeaepmkincaaaBacka
import Derived.BigRegion
namespace Go.Proofs.Ytgpeaepmkincaaa
open Go.RowKit

/-- The result's own cells, as they were made. -/
def Blank (w wr : World) : Prop :=
  Below w.heap.size w wr ∧ wr.cell? ⟨w.heap.size, 0, none⟩ = some (.string ⟨#[]⟩) ∧ wr.cell? ⟨w.heap.size, 1, none⟩ = some (.string ⟨#[]⟩) ∧ wr.frozen? ⟨w.heap.size, 0, none⟩ = false ∧ wr.frozen? ⟨w.heap.size, 1, none⟩ = false

theorem Blank.on {w W w' : World} (h : Blank w W) (hq : Below W.heap.size W w') : Blank w w' := by
  obtain ⟨h0, h1, h2, h3, h4⟩ := h
  have hlt : w.heap.size < W.heap.size := cell_lt h1
  obtain ⟨_, hf⟩ := bcell hq
  exact ⟨h0.trans (hq.mono h0.size), kept hq h1, kept hq h2, by rw [hf _ _ hlt]; exact h3, by rw [hf _ _ hlt]; exact h4⟩

set_option maxHeartbeats 1000000 in
theorem rparse_any (s : ByteArray) (w : World) (hs : s.size ≤ maxLen) (x y : ByteArray) (n : Int)
    (hyes : ∀ k, (hk : k < s.size) → s[k] = 47 → keyB (s.extract 0 k) (s.extract (k + 1) s.size) = true → x = s.extract 0 k ∧ y = s.extract (k + 1) s.size ∧ n = 0)
    (hno : (∀ k, (hk : k < s.size) → s[k] = 47 → keyB (s.extract 0 k) (s.extract (k + 1) s.size) = false) → x = ⟨#[]⟩ ∧ y = ⟨#[]⟩ ∧ n = 2) :
    Calls Try.prog 19 #[.string s] w fun e w' => e = .returned (.tuple #[.agg #[.string x, .string y], .int .i64 n]) ∧ Below w.heap.size w w' := by
  have HS := hid hs
  have HY := hid hyes
  have HN := hid hno
  unfold maxLen at hs
  clear hyes hno
  have hbl : Blank w (w.alloc (.cells #[.string ⟨#[]⟩, .string ⟨#[]⟩] 26)) := by
    refine ⟨(Below.refl _ _).alloc (Nat.le_refl _) _, ?_, ?_, ?_, ?_⟩ <;> simp [go_sem]
  have HW := hid hbl
  clear hbl
  go_enter Try.func19, Try.ntmps19
  go_wp2
  go_loopw [4] (fun i wr => ∃ k : Nat, k ≤ s.size ∧ i = .int .i64 k ∧ Blank w wr ∧ (∀ j, j < k → (hj : j < s.size) → s[j] = 47 → keyB (s.extract 0 j) (s.extract (j + 1) s.size) = false)) (fun i _ => s.size - (intOf i).toNat)
  case atStart => exact ⟨0, by omega, rfl, HW.out, fun j h => by omega⟩
  case round =>
    obtain ⟨k, hk, rfl, hb0, hall⟩ := hrel
    have HB := hid hb0
    have HL := hid hall
    clear hall hb0
    by_cases hlt : k < s.size
    · by_cases hc : s[k] = 47
      · have hb : ((s[k].toNat : Int) == 47) = true := by rw [hc]; rfl
        have HC := hid hc
        clear hc
        have c1 : (0 : Int) ≤ ↑k := by omega
        have c2 : (↑k : Int) ≤ ↑s.size := by omega
        have c3 : (0 : Int) ≤ ↑k + 1 := by omega
        have c4 : (↑k + 1 : Int) ≤ ↑s.size := by omega
        go_wp2_with fail
        go_region
        go_wp2_with fail
        have bl1 := HB.out.on (((Below.refl wr.heap.size wr).alloc (Nat.le_refl _) (.cells #[.string (s.extract 0 k), .string (s.extract (k + 1) s.size)] 26)).drew)
        refine (rkey_any _ _ _ (ext_size s 0 k HS.out) (ext_size s (k + 1) s.size HS.out)).mono ?_
        rintro o w2 ⟨rfl, hq2⟩
        have bl2 := bl1.on hq2
        have e0 : w2.cell? ⟨wr.heap.size, 0, none⟩ = some (.string (s.extract 0 k)) := kept hq2 (by simp [go_sem])
        have e1 : w2.cell? ⟨wr.heap.size, 1, none⟩ = some (.string (s.extract (k + 1) s.size)) := kept hq2 (by simp [go_sem])
        have HB2 := hid bl2
        clear bl1 bl2 hq2
        cases hkb : keyB (s.extract 0 k) (s.extract (k + 1) s.size) with
        | true =>
          obtain ⟨rfl, rfl, rfl⟩ := HY.out k hlt HC.out hkb
          obtain ⟨b0, d0, d1, f0, f1⟩ := HB2.out
          go_wp2_with fail
          exact bodyPost_ret (v := .tuple #[.agg #[.string (s.extract 0 k), .string (s.extract (k + 1) s.size)], .int .i64 0]) (by simp [results, Try.results19, go_sem, d0, d1]) rfl
            ⟨rfl, (b0.setCell (Nat.le_refl _) _).setCell (Nat.le_refl _) _⟩
        | false =>
          have HK := hid hkb
          go_wp2_with fail
          refine ⟨⟨k + 1, by omega, by go_num, HB2.out, fun j h1 hj => ?_⟩, by simp [intOf]; omega⟩
          by_cases hjk : j = k
          · subst hjk; exact fun _ => HK.out
          · exact HL.out j (by omega) hj
      · have hb : ((s[k].toNat : Int) == 47) = false := by
          rw [beq_eq_false_iff_ne]
          intro h
          apply hc
          apply UInt8.toNat_inj.1
          have : (47 : UInt8).toNat = 47 := rfl
          omega
        have HC := hid hc
        clear hc
        go_wp2
        refine ⟨⟨k + 1, by omega, by go_num, HB.out, fun j h1 hj => ?_⟩, by simp [intOf]; omega⟩
        by_cases hjk : j = k
        · subst hjk; exact fun e => absurd e HC.out
        · exact HL.out j (by omega) hj
    · obtain ⟨rfl, rfl, rfl⟩ := HN.out fun j hj => HL.out j (by omega) hj
      obtain ⟨b0, d0, d1, f0, f1⟩ := HB.out
      go_wp2
      exact bodyPost_ret (v := .tuple #[.agg #[.string ⟨#[]⟩, .string ⟨#[]⟩], .int .i64 2]) (by simp [results, Try.results19, go_sem, d0, d1]) rfl
        ⟨rfl, (b0.setCell (Nat.le_refl _) _).setCell (Nat.le_refl _) _⟩

end Go.Proofs.Ytgpeaepmkincaaa
