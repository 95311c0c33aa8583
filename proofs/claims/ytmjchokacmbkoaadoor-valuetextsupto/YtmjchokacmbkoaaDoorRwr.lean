/-
  The contract of the reference's Write.
-/
import Derived.Test.YtmjchokacmbkoaaDoorTxh
import Derived.Test.YtmjchokacmbkoaaDoorRenc
import Derived.Test.YtmjchokacmbkoaaDoorByt
namespace Go.Proofs.YtmjchokacmbkoaaDoor
open Go.RowKit

theorem new_bytes3 (w : World) (a b c : Int) : ∀ j u, ([.int .u8 a, .int .u8 b, .int .u8 c] : List Value)[j]? = some u → (w.alloc (.cells #[.int .u8 a, .int .u8 b, .int .u8 c] 5)).cell? ((⟨w.heap.size, 0, none⟩ : Addr).add j) = some u := by
  intro j u hj
  match j, hj with
  | 0, hj => simp at hj; subst hj; simp [Addr.add]
  | 1, hj => simp at hj; subst hj; rw [addr_add]; simp
  | 2, hj => simp at hj; subst hj; rw [addr_add]; simp

theorem one_bytes3 (a b c : Int) : ∀ u ∈ ([.int .u8 a, .int .u8 b, .int .u8 c] : List Value), u.oneCell' = true := by
  intro u hu; simp at hu; rcases hu with rfl | rfl | rfl <;> rfl

theorem ownB_puts {n0 : Nat} {w : World} {v : Value} {bs cs : List UInt8} {n : Nat} {xs : List Value} (h : w.ownsRow n0 5 1 v n (Lib.byteCells bs ++ xs)) (hn : n = bs.length + cs.length) (hx : Lib.byteCells cs = xs) : OwnB n0 w v (bs ++ cs) := by
  subst hn hx
  unfold OwnB
  rw [List.length_append]
  have : Lib.byteCells (bs ++ cs) = Lib.byteCells bs ++ Lib.byteCells cs := by simp [Lib.byteCells]
  rw [this]
  exact h

theorem rdigitI (n : Int) (w : World) (h : 0 ≤ n ∧ n < 16) : Calls Tryd.prog 54 #[.int .u8 n] w fun e w' => e = .returned (.int .u8 ((hexd n.toNat).toNat : Nat)) ∧ w' = w := by
  have := rdigit_any n.toNat (by omega) w
  rw [show ((n.toNat : Nat) : Int) = n by omega] at this
  exact this

theorem wrap_byte (n : Int) (h : 0 ≤ n ∧ n < 256) : IntKind.u8.wrap n = n := by
  simp [IntKind.wrap, IntKind.signed, IntKind.bits]; omega

set_option maxHeartbeats 4000000 in
set_option maxRecDepth 100000 in
theorem rwrite_any (s : ByteArray) (w : World) (hs : s.size * 3 ≤ 140737488355328) :
    Calls Tryd.prog 28 #[.string s] w fun e w' => e = .returned (.string ⟨(writeL s.data.toList).toArray⟩) ∧ Below w.heap.size w w' := by
  obtain ⟨i0, hi0, hz0, hz1, hz2⟩ := info_parts Tryd.infoByte
  have HI := hid hi0
  clear hi0
  have mixed := Tryd.mixed
  go_enter Tryd.func28, Tryd.ntmps28
  go_wp2_with fail
  go_loopg [3, 4] s.size (fun g vb vi wr => ∃ i : Nat, vi = .int .i64 i ∧ i ≤ s.size ∧ s.size - i ≤ g ∧ Below w.heap.size w wr ∧ OwnB w.heap.size wr vb (writeL (s.data.toList.take i)))
  case atStart => exact ⟨0, rfl, by omega, by omega, Below.refl _ _, World.ownsRow_nil _ _ _ _⟩
  case round =>
    obtain ⟨i, rfl, hi, hgk, hb, hob⟩ := hrel
    have hszr := hb.size
    by_cases hlt : i < s.size
    · have hltz : (i : Int) < (s.size : Int) := by omega
      have hiz : (0 : Int) ≤ i := by omega
      have hst := write_step s i hlt
      have hal := writeL_len (s.data.toList.take i)
      rw [List.length_take] at hal
      obtain ⟨acc, hacc⟩ : ∃ acc, writeL (s.data.toList.take i) = acc := ⟨_, rfl⟩
      rw [hacc] at hob hst hal
      have hal2 : acc.length ≤ 3 * i := Nat.le_trans hal (Nat.mul_le_mul_left _ (Nat.min_le_left _ _))
      obtain ⟨c, hc⟩ : ∃ c, s[i] = c := ⟨_, rfl⟩
      have hcc := hc
      rw [hc] at hst
      have HST := hid hst
      have HOB := hid hob
      have HB := hid hb
      have hc256 := c.toNat_lt
      clear hst hob hb hal hacc
      cases hp : plainB (c.toNat : Int) with
      | true =>
        have HW : Hid (writeC c = [c]) := by show _ = _; unfold writeC; rw [if_pos hp]
        have HPL : Hid (∀ W, Calls Tryd.prog 53 #[.int .u8 (c.toNat : Nat)] W fun e w' => e = .returned (.bool true) ∧ w' = W) := fun W => by have := rplain_any (c.toNat : Int) W; rw [hp] at this; exact this
        clear hp
        go_wp2_with (first | (go_at_call 53; refine (HPL.out _).mono ?_; rintro e w1 ⟨rfl, rfl⟩) | (at_builtin; refine wpList_append_own _ rfl _ _ 29 rfl w.heap.size 5 i0 (.int .u8 0) 1 1 Tryd.underlying29 HI.out hz0 hz1 hz2 rfl (by decide) _ _ _ rfl (World.ownsRow.alloc HOB.out _) ⟨w1.heap.size, 0, none⟩ 1 1 [.int .u8 (c.toNat : Int)] rfl rfl (new_byte _ _) (one_byte _) (by unfold maxLen; omega) (by omega) (by simp; omega) ?_))
        intro v3 w3 hown3 hg3 _
        have hob3 : OwnB w.heap.size w3 v3 (acc ++ [c]) := ownB_put hown3 (by omega) rfl
        have hb3 : Below w.heap.size w w3 := (HB.out.alloc (by omega) _).grown hg3 (by simp; omega) (fun k hk => (World.ownsRow.lt HOB.out k hk).1)
        have HOB3 := hid hob3
        have HB3 := hid hb3
        clear hown3 hg3 hob3 hb3
        go_wp2_with fail
        go_roundg (s.size - (i + 1))
        case measure => omega
        refine ⟨i + 1, by go_num, by omega, by omega, HB3.out, ?_⟩
        rw [HST.out, HW.out]
        exact HOB3.out
      | false =>
        have HW : Hid (writeC c = [37, hexd (c.toNat / 16), hexd (c.toNat % 16)]) := by show _ = _; unfold writeC; rw [hp]; rfl
        have HPL : Hid (∀ W, Calls Tryd.prog 53 #[.int .u8 (c.toNat : Nat)] W fun e w' => e = .returned (.bool false) ∧ w' = W) := fun W => by have := rplain_any (c.toNat : Int) W; rw [hp] at this; exact this
        clear hp
        go_wp2_with (first | (go_at_call 53; refine (HPL.out _).mono ?_; rintro e w1 ⟨rfl, rfl⟩))
        have HQ : Hid ((IntKind.u8.wrap ((c.toNat : Int) / 16)).toNat = c.toNat / 16 ∧ ((c.toNat : Int).tmod 16).toNat = c.toNat % 16) := ⟨by rw [wrap_byte _ (by omega)]; omega, by rw [Int.tmod_eq_emod_of_nonneg (by omega)]; omega⟩
        go_region_law (first
          | (refine step_append_lies _ (by rfl) (.tmp 21) (.tmp 32) 29 (by rfl) w.heap.size 5 i0 (.int .u8 0) 1 1 Tryd.underlying29 HI.out hz0 hz1 hz2 rfl (by decide) u3 acc.length (Lib.byteCells acc) (by rfl) (World.ownsRow.alloc (w := w1.drew) HOB.out _) _ 3 3 [.int .u8 37, .int .u8 ((hexd (IntKind.u8.wrap ((c.toNat : Int) / 16)).toNat).toNat : Nat), .int .u8 ((hexd ((c.toNat : Int).tmod 16).toNat).toNat : Nat)] (by rfl) rfl (new_bytes3 _ _ _ _) (one_bytes3 _ _ _) (by decide) (by unfold maxLen; omega) (by omega) (by simp; omega) _ rfl ?_; intro g4 cap4 w4 hown4 hg4 _ _)
          | (go_simp; go_at_call 54; refine (rdigitI _ _ (by first | (rw [wrap_byte _ (by omega)]; omega) | (rw [Int.tmod_eq_emod_of_nonneg (by omega)]; omega))).mono ?_; rintro o w2 ⟨rfl, rfl⟩))
        all_goals
          have hob4 : OwnB w.heap.size w4 (.slice (some ⟨g4, 0, none⟩) (acc.length + 3) cap4) (acc ++ [37, hexd (c.toNat / 16), hexd (c.toNat % 16)]) := ownB_puts hown4 rfl (by rw [HQ.out.1, HQ.out.2]; rfl)
          have hb4 : Below w.heap.size w w4 := ((bel_drewN HB.out 1).alloc hszr _).grown hg4 (by have h1 : w.heap.size ≤ (w1.drewN 1).heap.size := hszr; simp; omega) (fun k hk => (World.ownsRow.lt HOB.out k hk).1)
          have HOB4 := hid hob4
          have HB4 := hid hb4
          clear hown4 hg4 hob4 hb4
          go_wp2_with fail
          go_roundg (s.size - (i + 1))
          case measure => omega
          refine ⟨i + 1, by go_num, by omega, by omega, HB4.out, ?_⟩
          rw [HST.out, HW.out]
          exact HOB4.out
    · have hltz : ¬ (i : Int) < (s.size : Int) := by omega
      have htk2 : s.data.toList.take i = s.data.toList := List.take_of_length_le (by simp; omega)
      rw [htk2] at hob
      have kc := conv_any (ownB_rest hob)
      have HOJ := hid hob
      clear hob htk2
      go_wp2_with fail
      go_ret
      exact ⟨rfl, hb⟩

end Go.Proofs.YtmjchokacmbkoaaDoor
