/-
  The contract of the reference's Read.
-/
import Derived.Test.YtmjchokacmbkoaaDoorRwr
import Derived.Test.YtmjchokacmbkoaaDoorRea
namespace Go.Proofs.YtmjchokacmbkoaaDoor
open Go.RowKit

theorem firstP_plain {c : UInt8} {r : List UInt8} (h : plainB (c.toNat : Int) = true) : firstP (c :: r) = some (c, 1) := by
  simp [firstP, h]
theorem firstP_sign {c : UInt8} {r : List UInt8} (h : plainB (c.toNat : Int) = false) (h2 : c ≠ 37) : firstP (c :: r) = none := by
  simp [firstP, h, h2]
theorem pct_plain : plainB 37 = false := by decide
theorem firstP_short {r : List UInt8} (h : r.length < 2) : firstP (37 :: r) = none := by
  match r, h with
  | [], _ => simp [firstP, pct_plain]
  | [_], _ => simp [firstP, pct_plain]
theorem firstP_hex {a b : UInt8} {r : List UInt8} : firstP (37 :: a :: b :: r) = if hexN a = 16 ∨ hexN b = 16 then none else if plainB ((UInt8.ofNat (16 * hexN a + hexN b)).toNat : Int) then none else some (UInt8.ofNat (16 * hexN a + hexN b), 3) := by
  have e : firstP (37 :: a :: b :: r) = if hexv a < 0 ∨ hexv b < 0 then none else
      if plainB ((UInt8.ofNat (16 * (hexv a).toNat + (hexv b).toNat)).toNat : Int) then none else some (UInt8.ofNat (16 * (hexv a).toNat + (hexv b).toNat), 3) := by
    simp [firstP, pct_plain]
  rw [e, hexN_eq a, hexN_eq b]
  by_cases ha : hexN a = 16
  · rw [if_pos (Or.inl (by rw [if_pos ha]; decide)), if_pos (Or.inl ha)]
  · by_cases hb : hexN b = 16
    · rw [if_pos (Or.inr (by rw [if_pos hb]; decide)), if_pos (Or.inr hb)]
    · rw [if_neg (show ¬ (hexN a = 16 ∨ hexN b = 16) by omega), if_neg (show ¬ ((if hexN a = 16 then (-1 : Int) else (hexN a : Int)) < 0 ∨ (if hexN b = 16 then (-1 : Int) else (hexN b : Int)) < 0) by rw [if_neg ha, if_neg hb]; omega), if_neg ha, if_neg hb, Int.toNat_natCast, Int.toNat_natCast]

theorem drop_at (s : ByteArray) (i : Nat) (h : i < s.size) : s.data.toList.drop i = s[i] :: s.data.toList.drop (i + 1) := by
  rw [List.drop_eq_getElem_cons (by simpa using h)]
  rfl

def RrSt (w : World) (s : ByteArray) (i : Nat) (vb : Value) (wr : World) : Prop :=
  ∃ acc, OwnB w.heap.size wr vb acc ∧ acc.length ≤ i ∧ readL s.data.toList = (readL (s.data.toList.drop i)).map (acc ++ ·) ∧ Below w.heap.size w wr

theorem rr_next {s : ByteArray} {i n : Nat} {c : UInt8} {acc : List UInt8} (h : readL s.data.toList = (readL (s.data.toList.drop i)).map (acc ++ ·)) (hf : firstP (s.data.toList.drop i) = some (c, n)) :
    readL s.data.toList = (readL (s.data.toList.drop (i + n))).map ((acc ++ [c]) ++ ·) := by
  rw [h, readL_some hf, List.drop_drop, Option.map_map]
  congr 1
  funext x
  simp

theorem rr_no {s : ByteArray} {i : Nat} {acc : List UInt8} (hi : i < s.size) (h : readL s.data.toList = (readL (s.data.toList.drop i)).map (acc ++ ·)) (hf : firstP (s.data.toList.drop i) = none) : readL s.data.toList = none := by
  rw [h, readL_none (by rw [drop_at s i hi]; simp) hf]
  rfl

set_option maxHeartbeats 4000000 in
set_option maxRecDepth 100000 in
theorem rread_any (s : ByteArray) (w : World) (hs : s.size ≤ 140737488355327) :
    Calls Tryd.prog 29 #[.string s] w fun e w' => e = .returned (readV (readL s.data.toList)) ∧ Below w.heap.size w w' := by
  obtain ⟨i0, hi0, hz0, hz1, hz2⟩ := info_parts Tryd.infoByte
  have HI := hid hi0
  clear hi0
  have mixed := Tryd.mixed
  obtain ⟨res, hres⟩ : ∃ res, readL s.data.toList = res := ⟨_, rfl⟩
  rw [hres]
  have HRES := hid hres
  clear hres
  go_enter Tryd.func29, Tryd.ntmps29
  go_wp2_with fail
  go_loopg [4, 5] s.size (fun g vb vi wr => ∃ i : Nat, vi = .int .i64 i ∧ i ≤ s.size ∧ s.size - i ≤ g ∧ RrSt w s i vb wr)
  case atStart => exact ⟨0, rfl, by omega, by omega, [], World.ownsRow_nil _ _ _ _, by simp, by simp, Below.refl _ _⟩
  case round =>
    obtain ⟨i, rfl, hi, hgk, acc, hob, hal, hrd, hb⟩ := hrel
    have hszr := hb.size
    have HOB := hid hob
    have HB := hid hb
    have HRD := hid hrd
    by_cases hlt : i < s.size
    · have hltz : (i : Int) < (s.size : Int) := by omega
      have hiz : (0 : Int) ≤ i := by omega
      have hdr := drop_at s i hlt
      obtain ⟨c, hc⟩ : ∃ c, s[i] = c := ⟨_, rfl⟩
      rw [hc] at hdr
      have HDR := hid hdr
      have hc256 := c.toNat_lt
      clear hob hb hrd hdr
      cases hp : plainB (c.toNat : Int) with
      | true =>
        have HN : Hid (readL s.data.toList = (readL (s.data.toList.drop (i + 1))).map ((acc ++ [c]) ++ ·)) := rr_next HRD.out (by rw [HDR.out]; exact firstP_plain hp)
        have HPL : Hid (∀ W, Calls Tryd.prog 53 #[.int .u8 (c.toNat : Nat)] W fun e w' => e = .returned (.bool true) ∧ w' = W) := fun W => by have := rplain_any (c.toNat : Int) W; rw [hp] at this; exact this
        clear hp
        go_wp2_with (first | (go_at_call 53; refine (HPL.out _).mono ?_; rintro e w1 ⟨rfl, rfl⟩) | (at_builtin; refine wpList_append_own _ rfl _ _ 29 rfl w.heap.size 5 i0 (.int .u8 0) 1 1 Tryd.underlying29 HI.out hz0 hz1 hz2 rfl (by decide) _ _ _ rfl (World.ownsRow.alloc HOB.out _) ⟨w1.heap.size, 0, none⟩ 1 1 [.int .u8 (c.toNat : Int)] rfl rfl (new_byte _ _) (one_byte _) (by unfold maxLen; omega) (by omega) (by simp; omega) ?_))
        intro v3 w3 hown3 hg3 _
        have hob3 : OwnB w.heap.size w3 v3 (acc ++ [c]) := ownB_put hown3 rfl rfl
        have hb3 : Below w.heap.size w w3 := (HB.out.alloc (by omega) _).grown hg3 (by simp; omega) (fun k hk => (World.ownsRow.lt HOB.out k hk).1)
        have HOB3 := hid hob3
        have HB3 := hid hb3
        clear hown3 hg3 hob3 hb3
        go_wp2_with fail
        go_roundg (s.size - (i + 1))
        case measure => omega
        exact ⟨i + 1, by go_num, by omega, by omega, acc ++ [c], HOB3.out, by simp; omega, HN.out, HB3.out⟩
      | false =>
        have HPL : Hid (∀ W, Calls Tryd.prog 53 #[.int .u8 (c.toNat : Nat)] W fun e w' => e = .returned (.bool false) ∧ w' = W) := fun W => by have := rplain_any (c.toNat : Int) W; rw [hp] at this; exact this
        by_cases h37 : c = 37
        · subst h37
          by_cases hsh : s.size - i < 3
          · have hshz : decide ((s.size : Int) - (i : Int) < 3) = true := decide_eq_true (by omega)
            have HN : Hid (res = none) := HRES.out.symm.trans (rr_no hlt HRD.out (by rw [HDR.out]; exact firstP_short (by simp; omega)))
            go_wp2_with (first | (go_at_call 53; refine (HPL.out _).mono ?_; rintro e w1 ⟨rfl, rfl⟩))
            refine wp_region_quiet_lit mixed (by kernel_rfl) ?_
            repeat (go_big_quiet_step (first | (go_at_call 55; refine Calls.quiet_of_same (rhex_any _ _)) | (go_at_call 53; refine Calls.quiet_of_same (rplain_any _ _))))
            refine wpQuiet_nil ?_
            intro _ hw'
            obtain ⟨nq, hw''⟩ := hw'
            subst hw''
            go_wp2_with fail
            go_ret2
            rw [HN.out]
            exact ⟨rfl, bel_drewN HB.out _⟩
          · have hshz : decide ((s.size : Int) - (i : Int) < 3) = false := decide_eq_false (by omega)
            have hd1 := drop_at s (i + 1) (by omega)
            have hd2 := drop_at s (i + 1 + 1) (by omega)
            obtain ⟨a, ha⟩ : ∃ a, s[i + 1]'(by omega) = a := ⟨_, rfl⟩
            obtain ⟨b, hb⟩ : ∃ b, s[i + 1 + 1]'(by omega) = b := ⟨_, rfl⟩
            rw [ha] at hd1
            rw [hb] at hd2
            have hb2 : s[i + 2]'(by omega) = b := hb
            have i1 : (0 : Int) ≤ (i : Int) + 1 := by omega
            have i2 : (i : Int) + 1 < (s.size : Int) := by omega
            have i3 : (0 : Int) ≤ (i : Int) + 2 := by omega
            have i4 : (i : Int) + 2 < (s.size : Int) := by omega
            have hal16 := hexN_le a
            have hbl16 := hexN_le b
            have hdd : s.data.toList.drop i = 37 :: a :: b :: s.data.toList.drop (i + 3) := by rw [HDR.out, hd1, hd2]
            have HDD := hid hdd
            clear hd1 hd2 hdd
            by_cases hxa : hexN a = 16
            · have da : decide ((15 : Int) < (hexN a : Int)) = true := decide_eq_true (by omega)
              have HN : Hid (res = none) := HRES.out.symm.trans (rr_no hlt HRD.out (by rw [HDD.out, firstP_hex, if_pos (Or.inl hxa)]))
              clear hxa
              go_wp2_with (first | (go_at_call 53; refine (HPL.out _).mono ?_; rintro e w1 ⟨rfl, rfl⟩))
              refine wp_region_quiet_lit mixed (by kernel_rfl) ?_
              repeat (go_big_quiet_step (first | (go_at_call 55; refine Calls.quiet_of_same (rhex_any _ _)) | (go_at_call 53; refine Calls.quiet_of_same (rplain_any _ _))))
              refine wpQuiet_nil ?_
              intro _ hw'
              obtain ⟨nq, hw''⟩ := hw'
              subst hw''
              go_wp2_with fail
              go_ret2
              rw [HN.out]
              exact ⟨rfl, bel_drewN HB.out _⟩
            have da : decide ((15 : Int) < (hexN a : Int)) = false := decide_eq_false (by omega)
            by_cases hxb : hexN b = 16
            · have db : decide ((15 : Int) < (hexN b : Int)) = true := decide_eq_true (by omega)
              have HN : Hid (res = none) := HRES.out.symm.trans (rr_no hlt HRD.out (by rw [HDD.out, firstP_hex, if_pos (Or.inr hxb)]))
              clear hxb
              go_wp2_with (first | (go_at_call 53; refine (HPL.out _).mono ?_; rintro e w1 ⟨rfl, rfl⟩))
              refine wp_region_quiet_lit mixed (by kernel_rfl) ?_
              repeat (go_big_quiet_step (first | (go_at_call 55; refine Calls.quiet_of_same (rhex_any _ _)) | (go_at_call 53; refine Calls.quiet_of_same (rplain_any _ _))))
              refine wpQuiet_nil ?_
              intro _ hw'
              obtain ⟨nq, hw''⟩ := hw'
              subst hw''
              go_wp2_with fail
              go_ret2
              rw [HN.out]
              exact ⟨rfl, bel_drewN HB.out _⟩
            have db : decide ((15 : Int) < (hexN b : Int)) = false := decide_eq_false (by omega)
            have hsum : ((UInt8.ofNat (16 * hexN a + hexN b)).toNat : Int) = (hexN a : Int) * 16 + (hexN b : Int) := by
              rw [UInt8.toNat_ofNat']; omega
            have HSU := hid hsum
            have HFP : Hid (firstP (s.data.toList.drop i) = if plainB ((hexN a : Int) * 16 + (hexN b : Int)) = true then none else some (UInt8.ofNat (16 * hexN a + hexN b), 3)) := by
              show _ = _
              rw [HDD.out, firstP_hex, if_neg (by omega), hsum]
            clear hsum
            cases hq : plainB ((hexN a : Int) * 16 + (hexN b : Int)) with
            | true =>
              have HN : Hid (res = none) := HRES.out.symm.trans (rr_no hlt HRD.out (by rw [HFP.out, if_pos hq]))
              go_wp2_with (first | (go_at_call 53; refine (HPL.out _).mono ?_; rintro e w1 ⟨rfl, rfl⟩))
              refine wp_region_quiet_lit mixed (by kernel_rfl) ?_
              repeat (go_big_quiet_step (first | (go_at_call 55; refine Calls.quiet_of_same (rhex_any _ _)) | (go_at_call 53; refine Calls.quiet_of_same (rplain_any _ _))))
              refine wpQuiet_nil ?_
              intro _ hw'
              obtain ⟨nq, hw''⟩ := hw'
              subst hw''
              go_wp2_with fail
              go_ret2
              rw [HN.out]
              exact ⟨rfl, bel_drewN HB.out _⟩
            | false =>
              have HN : Hid (readL s.data.toList = (readL (s.data.toList.drop (i + 3))).map ((acc ++ [UInt8.ofNat (16 * hexN a + hexN b)]) ++ ·)) := rr_next HRD.out (by rw [HFP.out, hq]; rfl)
              go_wp2_with (first | (go_at_call 53; refine (HPL.out _).mono ?_; rintro e w1 ⟨rfl, rfl⟩))
              refine wp_region_quiet_lit mixed (by kernel_rfl) ?_
              repeat (go_big_quiet_step (first | (go_at_call 55; refine Calls.quiet_of_same (rhex_any _ _)) | (go_at_call 53; refine Calls.quiet_of_same (rplain_any _ _))))
              refine wpQuiet_nil ?_
              intro _ hw'
              obtain ⟨nq, hw''⟩ := hw'
              subst hw''
              go_wp2_with fail
              obtain ⟨W2, hW2⟩ : ∃ W2, w1.drewN nq = W2 := ⟨_, rfl⟩
              have hb2W : Below w.heap.size w W2 := by rw [← hW2]; exact bel_drewN HB.out _
              have hob2 : OwnB w.heap.size W2 u4 acc := by rw [← hW2]; exact HOB.out
              have hszW := hb2W.size
              have HBW := hid hb2W
              have HOW := hid hob2
              rw [hW2]
              clear hW2 hb2W hob2
              have x1 : IntKind.i64.wrap ((i : Int) + 1) = (i : Int) + 1 := by simp [IntKind.wrap, IntKind.signed, IntKind.bits]; omega
              have x2 : IntKind.i64.wrap ((i : Int) + 2) = (i : Int) + 2 := by simp [IntKind.wrap, IntKind.signed, IntKind.bits]; omega
              have x3 : ((i : Int) + 1).toNat = i + 1 := by omega
              have x4 : ((i : Int) + 2).toNat = i + 2 := by omega
              have x5 : IntKind.u8.wrap ((hexN a : Int) * 16) = (hexN a : Int) * 16 := wrap_byte _ (by omega)
              have x6 : IntKind.u8.wrap ((hexN a : Int) * 16 + (hexN b : Int)) = (hexN a : Int) * 16 + (hexN b : Int) := wrap_byte _ (by omega)
              go_region_law (first
                | (refine step_append_lies _ (by rfl) (.tmp 12) (.tmp 25) 29 (by rfl) w.heap.size 5 i0 (.int .u8 0) 1 1 Tryd.underlying29 HI.out hz0 hz1 hz2 rfl (by decide) u4 acc.length (Lib.byteCells acc) (by rfl) (World.ownsRow.alloc (w := W2.drew) HOW.out _) _ 1 1 [.int .u8 ((hexN a : Int) * 16 + (hexN b : Int))] (by rfl) rfl (new_byte _ _) (one_byte _) (by decide) (by unfold maxLen; omega) (by omega) (by simp; omega) _ rfl ?_; intro g4 cap4 w4 hown4 hg4 _ _)
                | (go_simp; go_at_call 55; refine (rhex_any _ _).mono ?_; rintro o w2 ⟨rfl, rfl⟩))
              all_goals
                have hob4 : OwnB w.heap.size w4 (.slice (some ⟨g4, 0, none⟩) (acc.length + 1) cap4) (acc ++ [UInt8.ofNat (16 * hexN a + hexN b)]) := ownB_put hown4 rfl HSU.out
                have hb4 : Below w.heap.size w w4 := ((bel_drewN HBW.out 1).alloc hszW _).grown hg4 (by have h1 : w.heap.size ≤ (W2.drewN 1).heap.size := hszW; simp; omega) (fun k hk => (World.ownsRow.lt HOW.out k hk).1)
                have HOB4 := hid hob4
                have HB4 := hid hb4
                clear hown4 hg4 hob4 hb4
                go_wp2_with fail
                go_roundg (s.size - (i + 3))
                case measure => omega
                exact ⟨i + 3, by go_num, by omega, by omega, _, HOB4.out, by simp; omega, HN.out, HB4.out⟩
        · have hcne : ((c.toNat : Int) != 37) = true := by
            rw [bne_iff_ne]
            intro e
            apply h37
            have : c.toNat = 37 := by omega
            exact UInt8.toNat_inj.1 this
          have HN : Hid (res = none) := HRES.out.symm.trans (rr_no hlt HRD.out (by rw [HDR.out]; exact firstP_sign hp h37))
          go_wp2_with (first | (go_at_call 53; refine (HPL.out _).mono ?_; rintro e w1 ⟨rfl, rfl⟩))
          refine wp_region_quiet_lit mixed (by kernel_rfl) ?_
          repeat (go_big_quiet_step (first | (go_at_call 55; refine Calls.quiet_of_same (rhex_any _ _)) | (go_at_call 53; refine Calls.quiet_of_same (rplain_any _ _))))
          refine wpQuiet_nil ?_
          intro _ hw'
          obtain ⟨nq, hw''⟩ := hw'
          subst hw''
          go_wp2_with fail
          go_ret2
          rw [HN.out]
          exact ⟨rfl, bel_drewN HB.out _⟩
    · have hltz : ¬ (i : Int) < (s.size : Int) := by omega
      have hres2 : res = some acc := by
        rw [← HRES.out, hrd, List.drop_of_length_le (by simp; omega), readL_nil]
        simp
      have HR2 := hid hres2
      have kc := conv_any (ownB_rest hob)
      clear hob hrd hres2
      go_wp2_with fail
      go_ret2
      rw [HR2.out]
      exact ⟨rfl, hb⟩

end Go.Proofs.YtmjchokacmbkoaaDoor
