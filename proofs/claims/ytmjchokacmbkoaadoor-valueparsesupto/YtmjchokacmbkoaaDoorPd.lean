/-
  Texts of this claim, one behind the other: Rrd Txs Lin0 Rwd Prs.
-/
import Derived.Test.YtmjchokacmbkoaaDoorPc
import Derived.Test.YtmjchokacmbkoaaDoorPa
/-
  The contract of the reference's Read.
-/
namespace Go.Proofs.YtmjchokacmbkoaaDoor
open Go.RowKit

theorem firstP_plain {c : UInt8} {r : List UInt8} (h : plainB (c.toNat : Int) = true) : firstP (c :: r) = some (c, 1) := by
  simp [firstP, h]
theorem firstP_sign {c : UInt8} {r : List UInt8} (h : plainB (c.toNat : Int) = false) (h2 : c ≠ 37) : firstP (c :: r) = none := by
  simp [firstP, h, h2]
theorem pct_plain : plainB 37 = false := by decide
theorem firstP_short {r : List UInt8} (h : r.length < 2) : firstP (37 :: r) = none := by
  match r, h with
  | [], _ => simp [firstP, pct_plain]
  | [_], _ => simp [firstP, pct_plain]
theorem firstP_hex {a b : UInt8} {r : List UInt8} : firstP (37 :: a :: b :: r) = if hexN a = 16 ∨ hexN b = 16 then none else if plainB ((UInt8.ofNat (16 * hexN a + hexN b)).toNat : Int) then none else some (UInt8.ofNat (16 * hexN a + hexN b), 3) := by
  have e : firstP (37 :: a :: b :: r) = if hexv a < 0 ∨ hexv b < 0 then none else
      if plainB ((UInt8.ofNat (16 * (hexv a).toNat + (hexv b).toNat)).toNat : Int) then none else some (UInt8.ofNat (16 * (hexv a).toNat + (hexv b).toNat), 3) := by
    simp [firstP, pct_plain]
  rw [e, hexN_eq a, hexN_eq b]
  by_cases ha : hexN a = 16
  · rw [if_pos (Or.inl (by rw [if_pos ha]; decide)), if_pos (Or.inl ha)]
  · by_cases hb : hexN b = 16
    · rw [if_pos (Or.inr (by rw [if_pos hb]; decide)), if_pos (Or.inr hb)]
    · rw [if_neg (show ¬ (hexN a = 16 ∨ hexN b = 16) by omega), if_neg (show ¬ ((if hexN a = 16 then (-1 : Int) else (hexN a : Int)) < 0 ∨ (if hexN b = 16 then (-1 : Int) else (hexN b : Int)) < 0) by rw [if_neg ha, if_neg hb]; omega), if_neg ha, if_neg hb, Int.toNat_natCast, Int.toNat_natCast]

theorem drop_at (s : ByteArray) (i : Nat) (h : i < s.size) : s.data.toList.drop i = s[i] :: s.data.toList.drop (i + 1) := by
  rw [List.drop_eq_getElem_cons (by simpa using h)]
  rfl

def RrSt (w : World) (s : ByteArray) (i : Nat) (vb : Value) (wr : World) : Prop :=
  ∃ acc, OwnB w.heap.size wr vb acc ∧ acc.length ≤ i ∧ readL s.data.toList = (readL (s.data.toList.drop i)).map (acc ++ ·) ∧ Below w.heap.size w wr

theorem rr_next {s : ByteArray} {i n : Nat} {c : UInt8} {acc : List UInt8} (h : readL s.data.toList = (readL (s.data.toList.drop i)).map (acc ++ ·)) (hf : firstP (s.data.toList.drop i) = some (c, n)) :
    readL s.data.toList = (readL (s.data.toList.drop (i + n))).map ((acc ++ [c]) ++ ·) := by
  rw [h, readL_some hf, List.drop_drop, Option.map_map]
  congr 1
  funext x
  simp

theorem rr_no {s : ByteArray} {i : Nat} {acc : List UInt8} (hi : i < s.size) (h : readL s.data.toList = (readL (s.data.toList.drop i)).map (acc ++ ·)) (hf : firstP (s.data.toList.drop i) = none) : readL s.data.toList = none := by
  rw [h, readL_none (by rw [drop_at s i hi]; simp) hf]
  rfl

set_option maxHeartbeats 4000000 in
set_option maxRecDepth 100000 in
theorem rread_any (s : ByteArray) (w : World) (hs : s.size ≤ 140737488355327) :
    Calls Tryd.prog 29 #[.string s] w fun e w' => e = .returned (readV (readL s.data.toList)) ∧ Below w.heap.size w w' := by
  obtain ⟨i0, hi0, hz0, hz1, hz2⟩ := info_parts Tryd.infoByte
  have HI := hid hi0
  clear hi0
  have mixed := Tryd.mixed
  obtain ⟨res, hres⟩ : ∃ res, readL s.data.toList = res := ⟨_, rfl⟩
  rw [hres]
  have HRES := hid hres
  clear hres
  go_enter Tryd.func29, Tryd.ntmps29
  go_wp2_with fail
  go_loopg [4, 5] s.size (fun g vb vi wr => ∃ i : Nat, vi = .int .i64 i ∧ i ≤ s.size ∧ s.size - i ≤ g ∧ RrSt w s i vb wr)
  case atStart => exact ⟨0, rfl, by omega, by omega, [], World.ownsRow_nil _ _ _ _, by simp, by simp, Below.refl _ _⟩
  case round =>
    obtain ⟨i, rfl, hi, hgk, acc, hob, hal, hrd, hb⟩ := hrel
    have hszr := hb.size
    have HOB := hid hob
    have HB := hid hb
    have HRD := hid hrd
    by_cases hlt : i < s.size
    · have hltz : (i : Int) < (s.size : Int) := by omega
      have hiz : (0 : Int) ≤ i := by omega
      have hdr := drop_at s i hlt
      obtain ⟨c, hc⟩ : ∃ c, s[i] = c := ⟨_, rfl⟩
      rw [hc] at hdr
      have HDR := hid hdr
      have hc256 := c.toNat_lt
      clear hob hb hrd hdr
      cases hp : plainB (c.toNat : Int) with
      | true =>
        have HN : Hid (readL s.data.toList = (readL (s.data.toList.drop (i + 1))).map ((acc ++ [c]) ++ ·)) := rr_next HRD.out (by rw [HDR.out]; exact firstP_plain hp)
        have HPL : Hid (∀ W, Calls Tryd.prog 53 #[.int .u8 (c.toNat : Nat)] W fun e w' => e = .returned (.bool true) ∧ w' = W) := fun W => by have := rplain_any (c.toNat : Int) W; rw [hp] at this; exact this
        clear hp
        go_wp2_with (first | (go_at_call 53; refine (HPL.out _).mono ?_; rintro e w1 ⟨rfl, rfl⟩) | (at_builtin; refine wpList_append_own _ rfl _ _ 29 rfl w.heap.size 5 i0 (.int .u8 0) 1 1 Tryd.underlying29 HI.out hz0 hz1 hz2 rfl (by decide) _ _ _ rfl (World.ownsRow.alloc HOB.out _) ⟨w1.heap.size, 0, none⟩ 1 1 [.int .u8 (c.toNat : Int)] rfl rfl (new_byte _ _) (one_byte _) (by unfold maxLen; omega) (by omega) (by simp; omega) ?_))
        intro v3 w3 hown3 hg3 _
        have hob3 : OwnB w.heap.size w3 v3 (acc ++ [c]) := ownB_put hown3 rfl rfl
        have hb3 : Below w.heap.size w w3 := (HB.out.alloc (by omega) _).grown hg3 (by simp; omega) (fun k hk => (World.ownsRow.lt HOB.out k hk).1)
        have HOB3 := hid hob3
        have HB3 := hid hb3
        clear hown3 hg3 hob3 hb3
        go_wp2_with fail
        go_roundg (s.size - (i + 1))
        case measure => omega
        exact ⟨i + 1, by go_num, by omega, by omega, acc ++ [c], HOB3.out, by simp; omega, HN.out, HB3.out⟩
      | false =>
        have HPL : Hid (∀ W, Calls Tryd.prog 53 #[.int .u8 (c.toNat : Nat)] W fun e w' => e = .returned (.bool false) ∧ w' = W) := fun W => by have := rplain_any (c.toNat : Int) W; rw [hp] at this; exact this
        by_cases h37 : c = 37
        · subst h37
          by_cases hsh : s.size - i < 3
          · have hshz : decide ((s.size : Int) - (i : Int) < 3) = true := decide_eq_true (by omega)
            have HN : Hid (res = none) := HRES.out.symm.trans (rr_no hlt HRD.out (by rw [HDR.out]; exact firstP_short (by simp; omega)))
            go_wp2_with (first | (go_at_call 53; refine (HPL.out _).mono ?_; rintro e w1 ⟨rfl, rfl⟩))
            refine wp_region_quiet_lit mixed (by kernel_rfl) ?_
            repeat (go_big_quiet_step (first | (go_at_call 55; refine Calls.quiet_of_same (rhex_any _ _)) | (go_at_call 53; refine Calls.quiet_of_same (rplain_any _ _))))
            refine wpQuiet_nil ?_
            intro _ hw'
            obtain ⟨nq, hw''⟩ := hw'
            subst hw''
            go_wp2_with fail
            go_ret2
            rw [HN.out]
            exact ⟨rfl, bel_drewN HB.out _⟩
          · have hshz : decide ((s.size : Int) - (i : Int) < 3) = false := decide_eq_false (by omega)
            have hd1 := drop_at s (i + 1) (by omega)
            have hd2 := drop_at s (i + 1 + 1) (by omega)
            obtain ⟨a, ha⟩ : ∃ a, s[i + 1]'(by omega) = a := ⟨_, rfl⟩
            obtain ⟨b, hb⟩ : ∃ b, s[i + 1 + 1]'(by omega) = b := ⟨_, rfl⟩
            rw [ha] at hd1
            rw [hb] at hd2
            have hb2 : s[i + 2]'(by omega) = b := hb
            have i1 : (0 : Int) ≤ (i : Int) + 1 := by omega
            have i2 : (i : Int) + 1 < (s.size : Int) := by omega
            have i3 : (0 : Int) ≤ (i : Int) + 2 := by omega
            have i4 : (i : Int) + 2 < (s.size : Int) := by omega
            have hal16 := hexN_le a
            have hbl16 := hexN_le b
            have hdd : s.data.toList.drop i = 37 :: a :: b :: s.data.toList.drop (i + 3) := by rw [HDR.out, hd1, hd2]
            have HDD := hid hdd
            clear hd1 hd2 hdd
            by_cases hxa : hexN a = 16
            · have da : decide ((15 : Int) < (hexN a : Int)) = true := decide_eq_true (by omega)
              have HN : Hid (res = none) := HRES.out.symm.trans (rr_no hlt HRD.out (by rw [HDD.out, firstP_hex, if_pos (Or.inl hxa)]))
              clear hxa
              go_wp2_with (first | (go_at_call 53; refine (HPL.out _).mono ?_; rintro e w1 ⟨rfl, rfl⟩))
              refine wp_region_quiet_lit mixed (by kernel_rfl) ?_
              repeat (go_big_quiet_step (first | (go_at_call 55; refine Calls.quiet_of_same (rhex_any _ _)) | (go_at_call 53; refine Calls.quiet_of_same (rplain_any _ _))))
              refine wpQuiet_nil ?_
              intro _ hw'
              obtain ⟨nq, hw''⟩ := hw'
              subst hw''
              go_wp2_with fail
              go_ret2
              rw [HN.out]
              exact ⟨rfl, bel_drewN HB.out _⟩
            have da : decide ((15 : Int) < (hexN a : Int)) = false := decide_eq_false (by omega)
            by_cases hxb : hexN b = 16
            · have db : decide ((15 : Int) < (hexN b : Int)) = true := decide_eq_true (by omega)
              have HN : Hid (res = none) := HRES.out.symm.trans (rr_no hlt HRD.out (by rw [HDD.out, firstP_hex, if_pos (Or.inr hxb)]))
              clear hxb
              go_wp2_with (first | (go_at_call 53; refine (HPL.out _).mono ?_; rintro e w1 ⟨rfl, rfl⟩))
              refine wp_region_quiet_lit mixed (by kernel_rfl) ?_
              repeat (go_big_quiet_step (first | (go_at_call 55; refine Calls.quiet_of_same (rhex_any _ _)) | (go_at_call 53; refine Calls.quiet_of_same (rplain_any _ _))))
              refine wpQuiet_nil ?_
              intro _ hw'
              obtain ⟨nq, hw''⟩ := hw'
              subst hw''
              go_wp2_with fail
              go_ret2
              rw [HN.out]
              exact ⟨rfl, bel_drewN HB.out _⟩
            have db : decide ((15 : Int) < (hexN b : Int)) = false := decide_eq_false (by omega)
            have hsum : ((UInt8.ofNat (16 * hexN a + hexN b)).toNat : Int) = (hexN a : Int) * 16 + (hexN b : Int) := by
              rw [UInt8.toNat_ofNat']; omega
            have HSU := hid hsum
            have HFP : Hid (firstP (s.data.toList.drop i) = if plainB ((hexN a : Int) * 16 + (hexN b : Int)) = true then none else some (UInt8.ofNat (16 * hexN a + hexN b), 3)) := by
              show _ = _
              rw [HDD.out, firstP_hex, if_neg (by omega), hsum]
            clear hsum
            cases hq : plainB ((hexN a : Int) * 16 + (hexN b : Int)) with
            | true =>
              have HN : Hid (res = none) := HRES.out.symm.trans (rr_no hlt HRD.out (by rw [HFP.out, if_pos hq]))
              go_wp2_with (first | (go_at_call 53; refine (HPL.out _).mono ?_; rintro e w1 ⟨rfl, rfl⟩))
              refine wp_region_quiet_lit mixed (by kernel_rfl) ?_
              repeat (go_big_quiet_step (first | (go_at_call 55; refine Calls.quiet_of_same (rhex_any _ _)) | (go_at_call 53; refine Calls.quiet_of_same (rplain_any _ _))))
              refine wpQuiet_nil ?_
              intro _ hw'
              obtain ⟨nq, hw''⟩ := hw'
              subst hw''
              go_wp2_with fail
              go_ret2
              rw [HN.out]
              exact ⟨rfl, bel_drewN HB.out _⟩
            | false =>
              have HN : Hid (readL s.data.toList = (readL (s.data.toList.drop (i + 3))).map ((acc ++ [UInt8.ofNat (16 * hexN a + hexN b)]) ++ ·)) := rr_next HRD.out (by rw [HFP.out, hq]; rfl)
              go_wp2_with (first | (go_at_call 53; refine (HPL.out _).mono ?_; rintro e w1 ⟨rfl, rfl⟩))
              refine wp_region_quiet_lit mixed (by kernel_rfl) ?_
              repeat (go_big_quiet_step (first | (go_at_call 55; refine Calls.quiet_of_same (rhex_any _ _)) | (go_at_call 53; refine Calls.quiet_of_same (rplain_any _ _))))
              refine wpQuiet_nil ?_
              intro _ hw'
              obtain ⟨nq, hw''⟩ := hw'
              subst hw''
              go_wp2_with fail
              obtain ⟨W2, hW2⟩ : ∃ W2, w1.drewN nq = W2 := ⟨_, rfl⟩
              have hb2W : Below w.heap.size w W2 := by rw [← hW2]; exact bel_drewN HB.out _
              have hob2 : OwnB w.heap.size W2 u4 acc := by rw [← hW2]; exact HOB.out
              have hszW := hb2W.size
              have HBW := hid hb2W
              have HOW := hid hob2
              rw [hW2]
              clear hW2 hb2W hob2
              have x1 : IntKind.i64.wrap ((i : Int) + 1) = (i : Int) + 1 := by simp [IntKind.wrap, IntKind.signed, IntKind.bits]; omega
              have x2 : IntKind.i64.wrap ((i : Int) + 2) = (i : Int) + 2 := by simp [IntKind.wrap, IntKind.signed, IntKind.bits]; omega
              have x3 : ((i : Int) + 1).toNat = i + 1 := by omega
              have x4 : ((i : Int) + 2).toNat = i + 2 := by omega
              have x5 : IntKind.u8.wrap ((hexN a : Int) * 16) = (hexN a : Int) * 16 := wrap_byte _ (by omega)
              have x6 : IntKind.u8.wrap ((hexN a : Int) * 16 + (hexN b : Int)) = (hexN a : Int) * 16 + (hexN b : Int) := wrap_byte _ (by omega)
              go_region_law (first
                | (refine step_append_lies _ (by rfl) (.tmp 12) (.tmp 25) 29 (by rfl) w.heap.size 5 i0 (.int .u8 0) 1 1 Tryd.underlying29 HI.out hz0 hz1 hz2 rfl (by decide) u4 acc.length (Lib.byteCells acc) (by rfl) (World.ownsRow.alloc (w := W2.drew) HOW.out _) _ 1 1 [.int .u8 ((hexN a : Int) * 16 + (hexN b : Int))] (by rfl) rfl (new_byte _ _) (one_byte _) (by decide) (by unfold maxLen; omega) (by omega) (by simp; omega) _ rfl ?_; intro g4 cap4 w4 hown4 hg4 _ _)
                | (go_simp; go_at_call 55; refine (rhex_any _ _).mono ?_; rintro o w2 ⟨rfl, rfl⟩))
              all_goals
                have hob4 : OwnB w.heap.size w4 (.slice (some ⟨g4, 0, none⟩) (acc.length + 1) cap4) (acc ++ [UInt8.ofNat (16 * hexN a + hexN b)]) := ownB_put hown4 rfl HSU.out
                have hb4 : Below w.heap.size w w4 := ((bel_drewN HBW.out 1).alloc hszW _).grown hg4 (by have h1 : w.heap.size ≤ (W2.drewN 1).heap.size := hszW; simp; omega) (fun k hk => (World.ownsRow.lt HOW.out k hk).1)
                have HOB4 := hid hob4
                have HB4 := hid hb4
                clear hown4 hg4 hob4 hb4
                go_wp2_with fail
                go_roundg (s.size - (i + 3))
                case measure => omega
                exact ⟨i + 3, by go_num, by omega, by omega, _, HOB4.out, by simp; omega, HN.out, HB4.out⟩
        · have hcne : ((c.toNat : Int) != 37) = true := by
            rw [bne_iff_ne]
            intro e
            apply h37
            have : c.toNat = 37 := by omega
            exact UInt8.toNat_inj.1 this
          have HN : Hid (res = none) := HRES.out.symm.trans (rr_no hlt HRD.out (by rw [HDR.out]; exact firstP_sign hp h37))
          go_wp2_with (first | (go_at_call 53; refine (HPL.out _).mono ?_; rintro e w1 ⟨rfl, rfl⟩))
          refine wp_region_quiet_lit mixed (by kernel_rfl) ?_
          repeat (go_big_quiet_step (first | (go_at_call 55; refine Calls.quiet_of_same (rhex_any _ _)) | (go_at_call 53; refine Calls.quiet_of_same (rplain_any _ _))))
          refine wpQuiet_nil ?_
          intro _ hw'
          obtain ⟨nq, hw''⟩ := hw'
          subst hw''
          go_wp2_with fail
          go_ret2
          rw [HN.out]
          exact ⟨rfl, bel_drewN HB.out _⟩
    · have hltz : ¬ (i : Int) < (s.size : Int) := by omega
      have hres2 : res = some acc := by
        rw [← HRES.out, hrd, List.drop_of_length_le (by simp; omega), readL_nil]
        simp
      have HR2 := hid hres2
      have kc := conv_any (ownB_rest hob)
      clear hob hrd hres2
      go_wp2_with fail
      go_ret2
      rw [HR2.out]
      exact ⟨rfl, hb⟩

end Go.Proofs.YtmjchokacmbkoaaDoor

/-
  ValueTexts answers true, where each text is short enough to be written.
-/
namespace Go.Proofs.YtmjchokacmbkoaaDoor
open Go.RowKit

theorem hexd_table : ((List.range 16).all fun k => decide (hexN (hexd k) = k)) = true := by decide
theorem hexN_hexd {k : Nat} (h : k < 16) : hexN (hexd k) = k := by
  have := List.all_eq_true.1 hexd_table k (List.mem_range.2 h)
  exact of_decide_eq_true this

theorem hexd_hexN {c : UInt8} (h : hexN c ≠ 16) : hexd (hexN c) = c := by
  rcases hexv_cases c with h1 | ⟨k, hk, _, rfl⟩
  · rw [hexN_eq, if_neg h] at h1
    omega
  · rw [hexN_hexd hk]

theorem read_write (l : List UInt8) : readL (writeL l) = some l := by
  induction l with
  | nil => exact readL_nil
  | cons c l ih =>
    rw [writeL_cons]
    cases hp : plainB (c.toNat : Int) with
    | true =>
      have e : writeC c = [c] := by unfold writeC; rw [if_pos hp]
      rw [e, List.cons_append, List.nil_append, readL_some (firstP_plain hp)]
      show (readL (writeL l)).map _ = _
      rw [ih]; rfl
    | false =>
      have e : writeC c = [37, hexd (c.toNat / 16), hexd (c.toNat % 16)] := by unfold writeC; rw [hp]; rfl
      have hc := c.toNat_lt
      have h1 : hexN (hexd (c.toNat / 16)) = c.toNat / 16 := hexN_hexd (by omega)
      have h2 : hexN (hexd (c.toNat % 16)) = c.toNat % 16 := hexN_hexd (by omega)
      have hs : UInt8.ofNat (16 * (c.toNat / 16) + c.toNat % 16) = c := by
        rw [show 16 * (c.toNat / 16) + c.toNat % 16 = c.toNat by omega, UInt8.ofNat_toNat]
      have hf : firstP (37 :: hexd (c.toNat / 16) :: hexd (c.toNat % 16) :: writeL l) = some (c, 3) := by
        rw [firstP_hex, h1, h2, if_neg (by omega), hs, if_neg (by rw [hp]; simp)]
      rw [e]
      show readL (37 :: hexd (c.toNat / 16) :: hexd (c.toNat % 16) :: writeL l) = _
      rw [readL_some hf]
      show (readL (writeL l)).map _ = _
      rw [ih]; rfl

theorem firstP_write {l : List UInt8} {c : UInt8} {n : Nat} (h : firstP l = some (c, n)) : writeC c = l.take n ∧ 0 < n := by
  cases l with
  | nil => cases h
  | cons x r =>
    cases hp : plainB (x.toNat : Int) with
    | true =>
      rw [firstP_plain hp] at h
      cases h
      refine ⟨?_, by omega⟩
      unfold writeC
      rw [if_pos hp]
      rfl
    | false =>
      by_cases hx : x = 37
      · subst hx
        match r, h with
        | [], h => rw [firstP_short (by simp)] at h; cases h
        | [_], h => rw [firstP_short (by simp)] at h; cases h
        | a :: b :: r, h =>
          rw [firstP_hex] at h
          by_cases h1 : hexN a = 16 ∨ hexN b = 16
          · rw [if_pos h1] at h; cases h
          · rw [if_neg h1] at h
            have ha := hexN_le a
            have hb := hexN_le b
            cases hq : plainB ((UInt8.ofNat (16 * hexN a + hexN b)).toNat : Int) with
            | true => rw [if_pos hq] at h; cases h
            | false =>
              rw [if_neg (by rw [hq]; simp)] at h
              cases h
              refine ⟨?_, by omega⟩
              unfold writeC
              rw [hq]
              have e : (UInt8.ofNat (16 * hexN a + hexN b)).toNat = 16 * hexN a + hexN b := by rw [UInt8.toNat_ofNat']; omega
              rw [e, show (16 * hexN a + hexN b) / 16 = hexN a by omega, show (16 * hexN a + hexN b) % 16 = hexN b by omega, hexd_hexN (by omega), hexd_hexN (by omega)]
              rfl
      · rw [firstP_sign hp hx] at h; cases h

theorem write_read : ∀ (k : Nat) (l m : List UInt8), l.length ≤ k → readL l = some m → writeL m = l
  | 0, l, m, hl, h => by
    obtain rfl := List.length_eq_zero_iff.1 (by omega : l.length = 0)
    rw [readL_nil] at h; cases h; rfl
  | k + 1, l, m, hl, h => by
    by_cases h0 : l = []
    · subst h0; rw [readL_nil] at h; cases h; rfl
    · cases hf : firstP l with
      | none => rw [readL_none h0 hf] at h; cases h
      | some x =>
        obtain ⟨c, n⟩ := x
        rw [readL_some hf] at h
        cases hr : readL (l.drop n) with
        | none => rw [hr] at h; cases h
        | some m' =>
          rw [hr] at h
          cases h
          obtain ⟨h1, h2⟩ := firstP_write hf
          have hlen : l.length ≠ 0 := fun e => h0 (List.length_eq_zero_iff.1 e)
          have := write_read k (l.drop n) m' (by rw [List.length_drop]; omega) hr
          show writeL (c :: m') = l
          rw [writeL_cons, this, h1, List.take_append_drop]

theorem read_back (t : ByteArray) (w : World) (hp : PlainAt w) (hs : t.size ≤ 46912496118442) :
    Calls Tryd.prog 27 #[.string ⟨(writeL t.data.toList).toArray⟩] w fun e w' => e = .returned (.tuple #[.string t, .int .i64 0]) ∧ Below w.heap.size w w' := by
  have hl := writeL_len t.data.toList
  have := read_any ⟨(writeL t.data.toList).toArray⟩ w hp (by
    show (writeL t.data.toList).toArray.size ≤ _
    simp at hl ⊢
    omega)
  rw [show (ByteArray.mk (writeL t.data.toList).toArray).data.toList = writeL t.data.toList by simp, read_write] at this
  have e : (⟨t.data.toList.toArray⟩ : ByteArray) = t := by obtain ⟨⟨l⟩⟩ := t; rfl
  simp only [readV, e] at this
  exact this

theorem write_back (t : ByteArray) (m : List UInt8) (w : World) (hp : PlainAt w) (hs : t.size ≤ 46912496118442) (h : readL t.data.toList = some m) :
    Calls Tryd.prog 26 #[.string ⟨m.toArray⟩] w fun e w' => e = .returned (.string t) ∧ Below w.heap.size w w' := by
  have hl := readL_len _ _ _ (Nat.le_refl _) h
  have := write_any ⟨m.toArray⟩ w hp (by
    show m.toArray.size ≤ _
    simp at hl ⊢
    omega)
  rw [show (ByteArray.mk m.toArray).data.toList = m by simp, write_read _ _ _ (Nat.le_refl _) h] at this
  have e : (⟨t.data.toList.toArray⟩ : ByteArray) = t := by obtain ⟨⟨l⟩⟩ := t; rfl
  rw [e] at this
  exact this

set_option maxHeartbeats 1500000 in
set_option maxRecDepth 100000 in
theorem valtexts_any (p : Option Addr) (cap : Nat) (ts : List ByteArray) (w : World) (hp : PlainAt w) (ht : TxtAt w p ts) (hl : ts.length ≤ maxLen) (hs : ∀ t ∈ ts, t.size ≤ 46912496118442) :
    Calls Tryd.prog 8 #[.slice p ts.length cap] w fun e w' => e = .returned (.bool true) ∧ Below w.heap.size w w' := by
  have HP := hid hp
  have HT := hid ht
  have HS := hid hs
  unfold maxLen at hl
  clear hp ht hs
  go_enter Tryd.func8, Tryd.ntmps8
  go_wp2_with (first
    | (go_at_call 9; refine (fixed_any _ HP.out).mono ?_; rintro e w1 ⟨rfl, q1⟩))
  go_loopg [16] ts.length (fun g vi wr => ∃ i : Nat, vi = .int .i64 i ∧ i ≤ ts.length ∧ ts.length - i ≤ g ∧ Below w.heap.size w wr)
  case atStart => exact ⟨0, rfl, by omega, by omega, q1⟩
  case round =>
    obtain ⟨i, rfl, hi, hgk, hb⟩ := hrel
    by_cases hlt : i < ts.length
    · have hltz : (i : Int) < (ts.length : Int) := by omega
      have hiz : (0 : Int) ≤ (i : Int) := by omega
      rcases HT.out with hn | ⟨b, off, rfl, hc⟩
      · rw [hn] at hlt; simp at hlt
      have c0 : wr.cell? ⟨b, off + i, none⟩ = some (.string ts[i]) := (hb.cell (p := ⟨b, off + i, none⟩) (cell_block (hc i hlt))).trans (hc i hlt)
      have hts := HS.out _ (List.getElem_mem hlt)
      obtain ⟨t, htt⟩ : ∃ t, ts[i] = t := ⟨_, rfl⟩
      rw [htt] at c0 hts
      have HB := hid hb
      have HTS : Hid (t.size * 3 ≤ 140737488355328 ∧ t.size ≤ 140737488355327) := ⟨by omega, by omega⟩
      clear hc htt hb q1
      cases hr : readL t.data.toList with
      | none =>
        have HR := hid hr
        clear hr
        go_wp2_with fail
        refine (write_any _ _ (HP.out.on HB.out) hts).mono ?_
        rintro e w2 ⟨rfl, q2⟩
        have b2 : Below w.heap.size w w2 := bel_then HB.out HB.out.size q2
        go_wp2_with fail
        refine (read_back t w2 (HP.out.on b2) hts).mono ?_
        rintro e w3 ⟨rfl, q3⟩
        have b3 : Below w.heap.size w w3 := bel_then b2 b2.size q3
        go_wp2_with fail
        refine (rwrite_any _ _ HTS.out.1).mono ?_
        rintro e w4 ⟨rfl, q4⟩
        have b4 : Below w.heap.size w w4 := bel_then b3 b3.size q4
        go_wp2_with fail
        refine (read_any t w4 (HP.out.on b4) HTS.out.2).mono ?_
        rintro e w5 ⟨rfl, q5⟩
        rw [HR.out]
        simp only [readV]
        have b5 : Below w.heap.size w w5 := bel_then b4 b4.size q5
        go_wp2_with fail
        refine (rread_any _ _ HTS.out.2).mono ?_
        rintro e w6 ⟨rfl, q6⟩
        rw [HR.out]
        simp only [readV]
        have b6 : Below w.heap.size w w6 := bel_then b5 b5.size q6
        go_wp2_with fail
        go_roundg (ts.length - (i + 1))
        case measure => omega
        exact ⟨i + 1, by go_num, by omega, by omega, b6⟩
      | some m =>
        have HR := hid hr
        clear hr
        go_wp2_with fail
        refine (write_any _ _ (HP.out.on HB.out) hts).mono ?_
        rintro e w2 ⟨rfl, q2⟩
        have b2 : Below w.heap.size w w2 := bel_then HB.out HB.out.size q2
        go_wp2_with fail
        refine (read_back t w2 (HP.out.on b2) hts).mono ?_
        rintro e w3 ⟨rfl, q3⟩
        have b3 : Below w.heap.size w w3 := bel_then b2 b2.size q3
        go_wp2_with fail
        refine (rwrite_any _ _ HTS.out.1).mono ?_
        rintro e w4 ⟨rfl, q4⟩
        have b4 : Below w.heap.size w w4 := bel_then b3 b3.size q4
        go_wp2_with fail
        refine (read_any t w4 (HP.out.on b4) HTS.out.2).mono ?_
        rintro e w5 ⟨rfl, q5⟩
        rw [HR.out]
        simp only [readV]
        have b5 : Below w.heap.size w w5 := bel_then b4 b4.size q5
        go_wp2_with fail
        refine (rread_any _ _ HTS.out.2).mono ?_
        rintro e w6 ⟨rfl, q6⟩
        rw [HR.out]
        simp only [readV]
        have b6 : Below w.heap.size w w6 := bel_then b5 b5.size q6
        go_wp2_with fail
        refine (write_back t m w6 (HP.out.on b6) hts HR.out).mono ?_
        rintro e w7 ⟨rfl, q7⟩
        have b7 : Below w.heap.size w w7 := bel_then b6 b6.size q7
        go_wp2_with fail
        go_roundg (ts.length - (i + 1))
        case measure => omega
        exact ⟨i + 1, by go_num, by omega, by omega, b7⟩
    · have hltz : ¬ (i : Int) < (ts.length : Int) := by omega
      go_wp2_with fail
      go_ret
      exact ⟨rfl, hb⟩

end Go.Proofs.YtmjchokacmbkoaaDoor

/-
  A value's line is read back as the value.
-/
namespace Go.Proofs.YtmjchokacmbkoaaDoor
open Go.RowKit Go.Lib

theorem ix_here {a b : List UInt8} {c : UInt8} (h : c ∉ a) : Lib.indexByte (a ++ c :: b) c = (a.length : Int) := by
  rcases ix_cases (a ++ c :: b) c with ⟨_, h2⟩ | ⟨i, h1, h2, h3, h4⟩
  · exact absurd (by simp) h2
  · have h5 := ix_split _ c i h2 h3
    have := (ix_uniq h5 h h4).1
    rw [h1, this, List.length_take]
    omega

theorem ix_none {a : List UInt8} {c : UInt8} (h : c ∉ a) : Lib.indexByte a c = -1 := by
  rcases ix_cases a c with ⟨h1, _⟩ | ⟨i, _, h2, h3, _⟩
  · exact h1
  · exact absurd (List.mem_of_getElem? h3) h

theorem split_join : ∀ ws : List (List UInt8), ws ≠ [] → (∀ w ∈ ws, (32 : UInt8) ∉ w) → splitL (Lib.join ws [32]) = ws
  | [], h, _ => absurd rfl h
  | [w], _, h => by
    rw [Lib.join_one]
    exact splitL_no (ix_none (h w (by simp)))
  | w :: v :: ws, _, h => by
    have ih := split_join (v :: ws) (by simp) (fun x hx => h x (by simp [hx]))
    rw [join_two, splitL_yes (ix_here (h w (by simp)))]
    rw [List.take_left' rfl]
    congr 1
    rw [show w ++ 32 :: Lib.join (v :: ws) [32] = (w ++ [32]) ++ Lib.join (v :: ws) [32] by simp, List.drop_left' (by simp)]
    exact ih

theorem noblank_mem {l : List UInt8} (h : blanks l = 0) : (32 : UInt8) ∉ l := by
  intro hm
  have := List.countP_eq_zero.1 h 32 hm
  simp at this

theorem field_noeq {l : List UInt8} (h : fieldB l = true) : (61 : UInt8) ∉ l := by
  intro hc
  unfold fieldB spell at h
  cases l with
  | nil => simp at hc
  | cons x r =>
    simp only [Bool.and_eq_true, List.all_eq_true] at h
    have key : lodB ((61 : UInt8).toNat : Int) = true ∨ smallB ((61 : UInt8).toNat : Int) = true := by
      rcases List.mem_cons.1 hc with e | hc
      · exact Or.inr (by rw [e]; exact h.1.2)
      · exact Or.inl (h.2 _ hc)
    rcases key with k | k
    · revert k; decide
    · revert k; decide

theorem word_back {n t : ByteArray} (h : fieldB n.data.toList = true) : wordO (wordOf n t).data.toList = some (n.data.toList, t.data.toList) := by
  rw [word_data, List.append_assoc, List.singleton_append]
  have e := ix_here (b := writeL t.data.toList) (field_noeq h)
  unfold wordO
  rw [e, if_neg (by omega), Int.toNat_natCast, List.take_left' rfl]
  rw [show n.data.toList ++ 61 :: writeL t.data.toList = (n.data.toList ++ [61]) ++ writeL t.data.toList by simp, List.drop_left' (by simp), read_write]
  rfl

/-- Each text a field by itself. -/
def singles (fs : List Fld) : List Fld := fs.flatMap fun f => f.2.map fun t => (f.1, [t])

theorem ba_back (b : ByteArray) : (⟨b.data.toList.toArray⟩ : ByteArray) = b := by obtain ⟨⟨l⟩⟩ := b; rfl

theorem words_back (fs : List Fld) (h : ∀ f ∈ fs, fieldB f.1.data.toList = true) : fieldsW ((wordsL fs).map (·.data.toList)) = some (singles fs) := by
  induction fs with
  | nil => rfl
  | cons f fs ih =>
    have hf := h f (by simp)
    have ih := ih fun g hg => h g (by simp [hg])
    have e1 : fieldsW ((wordsF f).map (·.data.toList)) = some (f.2.map fun t => (f.1, [t])) := by
      unfold wordsF
      generalize f.2 = ts
      induction ts with
      | nil => rfl
      | cons t ts iht =>
        simp only [List.map_cons, fieldsW]
        rw [word_back hf]
        simp only
        rw [iht, ba_back, ba_back]
        rfl
    unfold wordsL at ih ⊢
    rw [List.flatMap_cons, List.map_append, fieldsW_append, e1, ih]
    rfl

theorem single_filter (f : Fld) (c : ByteArray) : ((f.2.map fun t => ((f.1, [t]) : Fld)).filter fun x => decide (x.1 = c)).flatMap (·.2) = if f.1 = c then f.2 else [] := by
  obtain ⟨n, ts⟩ := f
  simp only
  by_cases e : n = c
  · rw [if_pos e, List.filter_eq_self.2 (fun x hx => by obtain ⟨t, _, rfl⟩ := List.mem_map.1 hx; simp [e])]
    induction ts with
    | nil => rfl
    | cons t ts ih => rw [List.map_cons, List.flatMap_cons, ih]; rfl
  · rw [if_neg e, List.filter_eq_nil_iff.2 (fun x hx => by obtain ⟨t, _, rfl⟩ := List.mem_map.1 hx; simp [e])]
    rfl

theorem txt_singles (fs : List Fld) (c : ByteArray) : txtOf (singles fs) c = txtOf fs c := by
  induction fs with
  | nil => rfl
  | cons f fs ih =>
    unfold txtOf singles at *
    rw [List.flatMap_cons, List.filter_append, List.flatMap_append, single_filter, ih]
    by_cases e : f.1 = c
    · rw [if_pos e, List.filter_cons_of_pos (by simp [e]), List.flatMap_cons]
    · rw [if_neg e, List.filter_cons_of_neg (by simp [e]), List.nil_append]

theorem may_rising {fs : List Fld} (h : mayB fs = true) : Rising fs := by
  have hs := (may_parts h).2
  have step : ∀ i, (hi : i + 1 < fs.length) → ltB (fs[i]).1 (fs[i + 1]).1 = true := fun i hi => by
    have := hs (i + 1) hi
    unfold stepOk at this
    rw [Bool.and_eq_true, Bool.or_eq_true] at this
    rcases this.2 with h | h
    · have := of_decide_eq_true h; omega
    · rw [ltN_eq, Nat.add_sub_cancel, List.getD_eq_getElem?_getD, List.getD_eq_getElem?_getD, List.getElem?_eq_getElem hi, List.getElem?_eq_getElem (show i < fs.length by omega)] at h
      exact h
  refine List.pairwise_iff_getElem.2 fun i j hi hj hij => ?_
  induction j with
  | zero => omega
  | succ j ih =>
    by_cases e : i = j
    · subst e; exact step i hj
    · exact ltB_trans (ih (by omega) (by omega)) (step j hj)

theorem rising_txt {fs : List Fld} (h : Rising fs) : ∀ f ∈ fs, f.2 = txtOf fs f.1 := by
  intro f hf
  obtain ⟨a, b, rfl⟩ := List.append_of_mem hf
  have hr := List.pairwise_append.1 h
  have hr2 := List.pairwise_cons.1 hr.2.1
  have ha : a.filter (fun x => decide (x.1 = f.1)) = [] := List.filter_eq_nil_iff.2 fun x hx e => ltB_ne (hr.2.2 x hx f (by simp)) (by simpa using e)
  have hb : b.filter (fun x => decide (x.1 = f.1)) = [] := List.filter_eq_nil_iff.2 fun x hx e => ltB_ne (hr2.1 x hx) (Eq.symm (of_decide_eq_true e))
  unfold txtOf
  rw [List.filter_append, ha, List.filter_cons_of_pos (by simp), hb]
  simp

theorem groups_self {fs : List Fld} (h : Rising fs) : Groups fs fs := ⟨h, fun _ => Iff.rfl, rising_txt h⟩

theorem groups_singles {fs : List Fld} (h : Rising fs) (hne : ∀ f ∈ fs, f.2 ≠ []) : Groups (singles fs) fs := by
  refine ⟨h, fun c => ⟨?_, ?_⟩, fun f hf => ?_⟩
  · rintro ⟨f, hf, rfl⟩
    cases ht : f.2 with
    | nil => exact absurd ht (hne f hf)
    | cons t ts => exact ⟨(f.1, [t]), List.mem_flatMap.2 ⟨f, hf, List.mem_map.2 ⟨t, by rw [ht]; simp, rfl⟩⟩, rfl⟩
  · rintro ⟨x, hx, rfl⟩
    obtain ⟨f, hf, hx⟩ := List.mem_flatMap.1 hx
    obtain ⟨t, _, rfl⟩ := List.mem_map.1 hx
    exact ⟨f, hf, rfl⟩
  · rw [txt_singles]; exact rising_txt h f hf

theorem fits_ne {f : Fld} (h : fitsB f = true) : f.2 ≠ [] := fun e => by
  have := (fits_parts h).2.1
  rw [e] at this; simp at this

theorem may_nobare {fs : List Fld} (h : mayB fs = true) : fs.any bareB = false := by
  rw [List.any_eq_false]
  intro f hf hb
  exact fits_ne (may_fits h f hf) (List.isEmpty_iff.1 hb)

/-- Words, or none of the empty text. -/
def fieldsP (l : List UInt8) : Option (List Fld) := if l = [] then some [] else fieldsW (splitL l)
def codeP (l : List UInt8) : Int := match fieldsP l with
  | none => 4
  | some fs => codeF fs
def ansP (l : List UInt8) : List Fld := match fieldsP l with
  | none => []
  | some fs => ansF fs

theorem norm_singles {fs : List Fld} (h : mayB fs = true) : codeF (singles fs) = 0 ∧ ansF (singles fs) = fs := by
  have hn : normF (singles fs) = fs := groups_unique (normF_groups _) (groups_singles (may_rising h) fun f hf => fits_ne (may_fits h f hf))
  have hm : (singles fs).any misB = false := by
    rw [List.any_eq_false]
    intro x hx
    obtain ⟨f, hf, hx⟩ := List.mem_flatMap.1 hx
    obtain ⟨t, _, rfl⟩ := List.mem_map.1 hx
    have := (fits_parts (may_fits h f hf)).2.2.2.2
    simp [misB, this]
  have hc : codeF (singles fs) = 0 := by unfold codeF; rw [hm, hn, may_nobare h, h]; rfl
  exact ⟨hc, by unfold ansF; rw [hc, hn]; rfl⟩

theorem line_back {fs : List Fld} (h : mayB fs = true) : codeP (lineOf fs).data.toList = 0 ∧ ansP (lineOf fs).data.toList = fs := by
  have e0 : (lineOf fs).data.toList = Lib.join ((wordsL fs).map (·.data.toList)) [32] := by
    show (Lib.join ((wordsL fs).map (·.data.toList)) [32]).toArray.toList = _
    rw [List.toList_toArray]
  have hp : fieldsP (lineOf fs).data.toList = some (singles fs) := by
    unfold fieldsP
    by_cases hl : (lineOf fs).data.toList = []
    · rw [if_pos hl]
      have h0 : (lineOf fs).size = 0 := by
        have := congrArg List.length hl
        simpa using this
      have h1 := (line_empty fs).1 h0
      have h2 : fs = [] := by
        cases fs with
        | nil => rfl
        | cons f fs =>
          have := (fits_parts (may_fits h f (by simp))).2.1
          simp only [totF, List.map_cons, List.sum_cons] at h1
          omega
      subst h2
      rfl
    · rw [if_neg hl, e0, split_join]
      · exact words_back fs fun f hf => (fits_parts (may_fits h f hf)).2.2.2.2
      · intro e
        rw [e0, e] at hl
        exact hl rfl
      · intro w hw
        obtain ⟨x, hx, rfl⟩ := List.mem_map.1 hw
        obtain ⟨f, hf, hx⟩ := List.mem_flatMap.1 hx
        obtain ⟨t, _, rfl⟩ := List.mem_map.1 hx
        exact noblank_mem (word_noblank (fits_parts (may_fits h f hf)).2.2.2.2)
  unfold codeP ansP
  rw [hp]
  exact norm_singles h

theorem codeF_nil : codeF [] = 0 := by decide
theorem ansF_nil : ansF [] = [] := by decide

def PPost (w : World) (l : List UInt8) (e : Ending) (w' : World) : Prop :=
  (∃ u o, e = .returned (.tuple #[u, .int .i64 (codeP l)]) ∧ OwnXs w.heap.size w' u o ∧ o.map Fx.fld = ansP l) ∧ Below w.heap.size w w'

theorem ansP_fit {d : List Fx} {l : List UInt8} (hm : d.map Fx.fld = ansP l) : FitX d := by
  unfold ansP at hm
  cases h : fieldsP l with
  | none =>
    rw [h] at hm
    rw [List.map_eq_nil_iff] at hm
    subst hm
    exact ⟨by unfold maxLen; simp, fun x hx => by simp at hx⟩
  | some fs => rw [h] at hm; exact ans_fit hm

theorem parse_plain (s : ByteArray) (w : World) (hp : PlainAt w) (hs : s.size ≤ 3000000000000) :
    Calls Tryd.prog 22 #[.string s] w fun e w' => PPost w s.data.toList e w' := by
  refine (parse_any s w hp hs).mono fun e w' h => ⟨?_, h.2⟩
  rcases h.1 with ⟨h0, rfl⟩ | ⟨h0, h1, rfl⟩ | ⟨h0, fs, d, h1, h2, h3⟩
  · have hf : fieldsP s.data.toList = some [] := by unfold fieldsP; rw [if_pos h0]
    exact ⟨_, [], by unfold codeP; rw [hf]; simp only [codeF_nil], own_none _ _, by unfold ansP; rw [hf]; simp only [ansF_nil]; rfl⟩
  · have hf : fieldsP s.data.toList = none := by unfold fieldsP; rw [if_neg h0]; exact h1
    exact ⟨_, [], by unfold codeP; rw [hf], own_none _ _, by unfold ansP; rw [hf]; rfl⟩
  · have hf : fieldsP s.data.toList = some fs := by unfold fieldsP; rw [if_neg h0]; exact h1
    unfold codeP ansP
    rw [hf]
    subst h2
    refine ansPlain ?_
    rcases h3.plain with h | ⟨h1, h | h | ⟨h2, h3, u, o, h4, h5, h6⟩⟩
    · exact Or.inl h
    · exact Or.inr ⟨h1, Or.inl h⟩
    · exact Or.inr ⟨h1, Or.inr (Or.inl h)⟩
    · exact Or.inr ⟨h1, Or.inr (Or.inr ⟨h2, h3, u, o, h4, h5.1, h6⟩)⟩

end Go.Proofs.YtmjchokacmbkoaaDoor

/-
  The contracts of the reference's Words, ParseWords and Parse.
-/
namespace Go.Proofs.YtmjchokacmbkoaaDoor
open Go.RowKit Go.Lib

def wordsAns (l : List UInt8) : List (List UInt8) := if l = [] then [] else splitL l

def WdPost (w : World) (l : List UInt8) (e : Ending) (w' : World) : Prop :=
  (∃ v ws, e = .returned v ∧ OwnT w.heap.size w' v ws ∧ ws.map (·.data.toList) = wordsAns l ∧ ws.length ≤ l.length + 1 ∧ ∀ x ∈ ws, x.size ≤ l.length) ∧ Below w.heap.size w w'

def WdSt (w : World) (s : ByteArray) (i f : Nat) (v : Value) (wr : World) : Prop :=
  ∃ ws : List ByteArray, OwnT w.heap.size wr v ws ∧ ws.length ≤ i ∧ (∀ x ∈ ws, x.size ≤ s.size) ∧ Below w.heap.size w wr ∧
    ((i ≤ s.size ∧ f ≤ i ∧ splitL s.data.toList = ws.map (·.data.toList) ++ splitL (s.data.toList.drop f) ∧ (32 : UInt8) ∉ (s.data.toList.drop f).take (i - f)) ∨ (i = s.size + 1 ∧ splitL s.data.toList = ws.map (·.data.toList)))

theorem ext_mid (s : ByteArray) (a b : Nat) : (s.extract a b).data.toList = (s.data.toList.drop a).take (b - a) := by
  rw [Lib.extract_data]

theorem mid_size (s : ByteArray) (a b : Nat) : (s.extract a b).size ≤ s.size := by
  simp; omega

theorem drop_mid {l : List UInt8} {f i : Nat} (hf : f ≤ i) : l.drop f = (l.drop f).take (i - f) ++ l.drop i := by
  have h : l.drop i = (l.drop f).drop (i - f) := by rw [List.drop_drop]; congr 1; omega
  rw [h, List.take_append_drop]

theorem split_at {l : List UInt8} {f i : Nat} (hf : f ≤ i) (hi : i < l.length) (hc : l[i] = 32) (hn : (32 : UInt8) ∉ (l.drop f).take (i - f)) : splitL (l.drop f) = (l.drop f).take (i - f) :: splitL (l.drop (i + 1)) := by
  have e : l.drop f = (l.drop f).take (i - f) ++ 32 :: l.drop (i + 1) := by
    conv => lhs; rw [drop_mid hf, List.drop_eq_getElem_cons hi, hc]
  have hx : Lib.indexByte (l.drop f) 32 = (((l.drop f).take (i - f)).length : Int) := by
    conv => lhs; rw [e]
    exact ix_here hn
  have hlen : ((l.drop f).take (i - f)).length = i - f := by rw [List.length_take, List.length_drop]; omega
  rw [hlen] at hx
  rw [splitL_yes hx, List.drop_drop]
  congr 3
  omega

theorem split_last {l : List UInt8} {f : Nat} (hn : (32 : UInt8) ∉ (l.drop f).take (l.length - f)) : splitL (l.drop f) = [l.drop f] := by
  rw [List.take_of_length_le (by rw [List.length_drop]; omega)] at hn
  exact splitL_no (ix_none hn)

theorem take_next {l : List UInt8} {f i : Nat} (hf : f ≤ i) (hi : i < l.length) (hc : l[i] ≠ 32) (hn : (32 : UInt8) ∉ (l.drop f).take (i - f)) : (32 : UInt8) ∉ (l.drop f).take (i + 1 - f) := by
  have hl : i - f < (l.drop f).length := by rw [List.length_drop]; omega
  rw [show i + 1 - f = (i - f) + 1 by omega, List.take_succ_eq_append_getElem hl, List.mem_append, List.mem_singleton, List.getElem_drop]
  rintro (h | h)
  · exact hn h
  · apply hc
    rw [h]
    congr 1
    omega

theorem txt_new (w : World) (t : ByteArray) : ∀ m u, ([.string t] : List Value)[m]? = some u → (w.alloc (.cells #[.string t] 9)).cell? ((⟨w.heap.size, 0, none⟩ : Addr).add m) = some u := by
  intro m u hm
  match m, hm with
  | 0, hm => simp at hm; subst hm; simp [Addr.add]

theorem txt_one (t : ByteArray) : ∀ u ∈ ([.string t] : List Value), u.oneCell' = true := by
  intro u hu; simp at hu; subst hu; rfl

theorem own_snoc {n0 : Nat} {w : World} {v : Value} {ts : List ByteArray} {t : ByteArray} (h : w.ownsRow n0 9 1 v (ts.length + 1) (ts.map Value.string ++ [.string t])) : OwnT n0 w v (ts ++ [t]) := by
  unfold OwnT
  simp only [List.length_append, List.length_cons, List.length_nil, List.map_append, List.map_cons, List.map_nil]
  exact h

set_option maxHeartbeats 4000000 in
set_option maxRecDepth 100000 in
theorem rwords_any (s : ByteArray) (w : World) (hs : s.size ≤ 1000000000000) :
    Calls Tryd.prog 48 #[.string s] w fun e w' => WdPost w s.data.toList e w' := by
  by_cases h0 : s.data.toList = []
  · have e : s = ⟨#[]⟩ := ba_eq h0
    subst e
    go_enter Tryd.func48, Tryd.ntmps48
    go_wp2_with fail
    go_ret
    exact ⟨⟨_, [], rfl, World.ownsRow_nil _ _ _ _, rfl, by simp, fun x hx => by simp at hx⟩, Below.refl _ _⟩
  obtain ⟨i0, hi0, hz0, hz1, hz2⟩ := info_parts Tryd.infoStr
  have HI := hid hi0
  have hne := nonempty_of (a := s) (fun e => h0 (List.length_eq_zero_iff.1 (by simpa using e)))
  have HAN : Hid (wordsAns s.data.toList = splitL s.data.toList) := by show _ = _; unfold wordsAns; rw [if_neg h0]
  have hlen : s.data.toList.length = s.size := by simp
  have HLEN := hid hlen
  clear hi0 h0 hlen
  go_enter Tryd.func48, Tryd.ntmps48
  go_wp2_with fail
  have ST0 : Hid (WdSt w s 0 0 (.slice none 0 0) w) := ⟨[], World.ownsRow_nil _ _ _ _, by simp, fun x hx => by simp at hx, Below.refl _ _, Or.inl ⟨by omega, by omega, by simp, by simp⟩⟩
  go_loopg [3, 4, 5] (s.size + 1) (fun g vl vf vi wr => ∃ i f : Nat, vi = .int .i64 i ∧ vf = .int .i64 f ∧ i ≤ s.size + 1 ∧ s.size + 1 - i ≤ g ∧ f ≤ s.size + 1 ∧ WdSt w s i f vl wr)
  case atStart => exact ⟨0, 0, rfl, rfl, by omega, by omega, by omega, ST0.out⟩
  case round =>
    clear ST0
    obtain ⟨i, f, rfl, rfl, hi, hgk, hf, ws, hot, hwl, hws, hb, hst⟩ := hrel
    have HOT := hid hot
    have HWS := hid hws
    have HB := hid hb
    have hsz := hb.size
    clear hot hws hb
    by_cases hlt : i ≤ s.size
    · obtain ⟨hfi, hsp, hno⟩ : f ≤ i ∧ splitL s.data.toList = ws.map (·.data.toList) ++ splitL (s.data.toList.drop f) ∧ (32 : UInt8) ∉ (s.data.toList.drop f).take (i - f) := by
        rcases hst with h | h
        · exact h.2
        · omega
      have HSP := hid hsp
      have HNO := hid hno
      have hlez : (i : Int) ≤ (s.size : Int) := by omega
      have hfz : (0 : Int) ≤ (f : Int) := by omega
      have hiz : (0 : Int) ≤ (i : Int) := by omega
      have hfiz : (f : Int) ≤ (i : Int) := by omega
      clear hst hsp hno
      by_cases he : i = s.size
      · have hez : ((i : Int) == (s.size : Int)) = true := beq_iff_eq.2 (by omega)
        have hl1 : splitL (s.data.toList.drop f) = [s.data.toList.drop f] := split_last (by rw [HLEN.out, ← he]; exact HNO.out)
        have hex : (s.extract f i).data.toList = s.data.toList.drop f := by
          rw [ext_mid, List.take_of_length_le (by rw [List.length_drop, HLEN.out]; omega)]
        have hxs := mid_size s f i
        have hnw : splitL s.data.toList = (ws ++ [s.extract f i]).map (·.data.toList) := by rw [HSP.out, hl1, List.map_append, List.map_cons, List.map_nil, hex]
        have HXS := hid hxs
        have HNW := hid hnw
        have HE := hid he
        clear he hl1 hex hxs hnw
        go_wp2_with (first | (at_builtin; refine wpList_append_own _ rfl _ _ 40 rfl w.heap.size 9 i0 (.string ⟨#[]⟩) 1 16 Tryd.underlying40 HI.out hz0 hz1 hz2 rfl (by decide) _ _ _ rfl (World.ownsRow.alloc HOT.out _) ⟨wr.heap.size, 0, none⟩ 1 1 [.string (s.extract f i)] rfl rfl (txt_new _ _) (txt_one _) (by unfold maxLen; omega) (by omega) (by simp; omega) ?_))
        intro v4 w4 hown4 hg4 _
        have HO4 := hid (own_snoc hown4)
        have HB4 : Hid (Below w.heap.size w w4) := (HB.out.alloc hsz _).grown hg4 (by simp; omega) (fun q hq => (World.ownsRow.lt HOT.out q hq).1)
        clear hown4 hg4
        go_wp2_with fail
        go_roundg (s.size + 1 - (i + 1))
        case measure => omega
        refine ⟨i + 1, i + 1, by go_num, by go_num, by omega, by omega, by omega, ws ++ [s.extract f i], HO4.out, by simp; omega, fun x hx => ?_, HB4.out, Or.inr ⟨by rw [HE.out], HNW.out⟩⟩
        rw [List.mem_append, List.mem_singleton] at hx
        rcases hx with hx | rfl
        · exact HWS.out x hx
        · exact HXS.out
      · have hez : ((i : Int) == (s.size : Int)) = false := beq_eq_false_iff_ne.2 (by omega)
        have hlt2 : i < s.size := by omega
        have hltz : (i : Int) < (s.size : Int) := by omega
        have hll : i < s.data.toList.length := by rw [HLEN.out]; exact hlt2
        have hby : s.data.toList[i] = s[i] := rfl
        obtain ⟨c, hc⟩ : ∃ c, s[i] = c := ⟨_, rfl⟩
        rw [hc] at hby
        have HBY := hid hby
        clear he hby
        by_cases h32 : c = 32
        · subst h32
          have hl1 := split_at hfi hll HBY.out HNO.out
          have hex : (s.extract f i).data.toList = (s.data.toList.drop f).take (i - f) := ext_mid _ _ _
          have hxs := mid_size s f i
          have hnw : splitL s.data.toList = (ws ++ [s.extract f i]).map (·.data.toList) ++ splitL (s.data.toList.drop (i + 1)) := by rw [HSP.out, hl1, List.map_append, List.map_cons, List.map_nil, hex]; simp
          have HXS := hid hxs
          have HNW := hid hnw
          clear hl1 hex hxs hnw
          go_wp2_with (first | (at_builtin; refine wpList_append_own _ rfl _ _ 40 rfl w.heap.size 9 i0 (.string ⟨#[]⟩) 1 16 Tryd.underlying40 HI.out hz0 hz1 hz2 rfl (by decide) _ _ _ rfl (World.ownsRow.alloc HOT.out _) ⟨wr.heap.size, 0, none⟩ 1 1 [.string (s.extract f i)] rfl rfl (txt_new _ _) (txt_one _) (by unfold maxLen; omega) (by omega) (by simp; omega) ?_))
          intro v4 w4 hown4 hg4 _
          have HO4 := hid (own_snoc hown4)
          have HB4 : Hid (Below w.heap.size w w4) := (HB.out.alloc hsz _).grown hg4 (by simp; omega) (fun q hq => (World.ownsRow.lt HOT.out q hq).1)
          clear hown4 hg4
          go_wp2_with fail
          go_roundg (s.size + 1 - (i + 1))
          case measure => omega
          refine ⟨i + 1, i + 1, by go_num, by go_num, by omega, by omega, by omega, ws ++ [s.extract f i], HO4.out, by simp; omega, fun x hx => ?_, HB4.out, Or.inl ⟨by omega, by omega, HNW.out, by simp⟩⟩
          rw [List.mem_append, List.mem_singleton] at hx
          rcases hx with hx | rfl
          · exact HWS.out x hx
          · exact HXS.out
        · have h32z : ((c.toNat : Int) == 32) = false := beq_eq_false_iff_ne.2 (fun e => h32 (UInt8.toNat_inj.1 (by show c.toNat = 32; omega)))
          have HN2 := hid (take_next hfi hll (by rw [HBY.out]; exact h32) HNO.out)
          clear h32
          go_wp2_with fail
          go_roundg (s.size + 1 - (i + 1))
          case measure => omega
          exact ⟨i + 1, f, by go_num, rfl, by omega, by omega, by omega, ws, HOT.out, by omega, HWS.out, HB.out, Or.inl ⟨by omega, by omega, HSP.out, HN2.out⟩⟩
    · have hlez : ¬ (i : Int) ≤ (s.size : Int) := by omega
      have hsp : splitL s.data.toList = ws.map (·.data.toList) := by
        rcases hst with h | h
        · omega
        · exact h.2
      have HSP := hid hsp
      clear hst hsp
      go_wp2_with fail
      go_ret
      refine ⟨⟨_, ws, rfl, HOT.out, by rw [HAN.out, HSP.out], by rw [HLEN.out]; omega, fun x hx => by rw [HLEN.out]; exact HWS.out x hx⟩, HB.out⟩

/-- What ParseWords answers. -/
def PwPost (w : World) (ls : List (List UInt8)) (e : Ending) (w' : World) : Prop :=
  ((fieldsW ls = none ∧ e = .returned (.tuple #[.slice none 0 0, .int .i64 4])) ∨
   ∃ fs, fieldsW ls = some fs ∧ ∃ u o, e = .returned (.tuple #[u, .int .i64 (codeF fs)]) ∧ OwnXs w.heap.size w' u o ∧ o.map Fx.fld = ansF fs) ∧ Below w.heap.size w w'

def PwSt (w : World) (ls : List (List UInt8)) (i : Nat) (v : Value) (wr : World) : Prop :=
  ∃ d fs, OwnXs w.heap.size wr v d ∧ d.map Fx.fld = fs ∧ fieldsW (ls.take i) = some fs ∧ d.length = i ∧ Below w.heap.size w wr

theorem fieldsW_no {a b : List (List UInt8)} {l : List UInt8} (h : wordO l = none) : fieldsW (a ++ l :: b) = none := by
  rw [fieldsW_append]
  cases fieldsW a with
  | none => rfl
  | some x => simp [fieldsW, h]

theorem fieldsW_snoc {a : List (List UInt8)} {l n t : List UInt8} {fs : List Fld} (ha : fieldsW a = some fs) (h : wordO l = some (n, t)) : fieldsW (a ++ [l]) = some (fs ++ [(⟨n.toArray⟩, [⟨t.toArray⟩])]) := by
  rw [fieldsW_append, ha]
  simp [fieldsW, h]

set_option maxHeartbeats 8000000 in
set_option maxRecDepth 100000 in
theorem rpw_any (p : Option Addr) (cap : Nat) (ws : List ByteArray) (w : World) (ht : TxtAt w p ws) (hl : ws.length ≤ 1000000000000) (hs : ∀ x ∈ ws, x.size ≤ 1000000000000) :
    Calls Tryd.prog 47 #[.slice p ws.length cap] w fun e w' => PwPost w (ws.map (·.data.toList)) e w' := by
  obtain ⟨j0, hj0, hy0, hy1, hy2⟩ := info_parts Tryd.infoFld
  have HJ := hid hj0
  have HT := hid ht
  have HS := hid hs
  clear hj0 ht hs
  have ST0 : Hid (PwSt w (ws.map (·.data.toList)) 0 (.slice none 0 0) w) := ⟨[], [], own_none _ _, rfl, by simp [fieldsW], rfl, Below.refl _ _⟩
  go_enter Tryd.func47, Tryd.ntmps47
  go_wp2_with fail
  go_loopg [4, 5] ws.length (fun g vv vi wr => ∃ i : Nat, vi = .int .i64 i ∧ i ≤ ws.length ∧ ws.length - i ≤ g ∧ PwSt w (ws.map (·.data.toList)) i vv wr)
  case atStart => exact ⟨0, rfl, by omega, by omega, ST0.out⟩
  case round =>
  clear ST0
  obtain ⟨i, rfl, hi, hgk, d, fs, hox, hdm, hfw, hdl, hb⟩ := hrel
  have HOX := hid hox
  have HDM := hid hdm
  have HFW := hid hfw
  have HDL := hid hdl
  have HB := hid hb
  have hsz := hb.size
  clear hox hdm hfw hdl
  by_cases hlt : i < ws.length
  · have hltz : (i : Int) < (ws.length : Int) := by omega
    have hiz : (0 : Int) ≤ (i : Int) := by omega
    rcases HT.out with hn | ⟨b, off, rfl, hc⟩
    · rw [hn] at hlt; simp at hlt
    have c0 : wr.cell? ⟨b, off + i, none⟩ = some (.string ws[i]) := (hb.cell (p := ⟨b, off + i, none⟩) (cell_block (hc i hlt))).trans (hc i hlt)
    have hts := HS.out _ (List.getElem_mem hlt)
    have hsplit : ws.map (·.data.toList) = (ws.map (·.data.toList)).take i ++ (ws[i]).data.toList :: (ws.map (·.data.toList)).drop (i + 1) := by
      have h1 : i < (ws.map (·.data.toList)).length := by simpa using hlt
      have h2 : (ws.map (·.data.toList))[i] = (ws[i]).data.toList := by simp
      rw [← h2, ← List.drop_eq_getElem_cons h1, List.take_append_drop]
    have htk : (ws.map (·.data.toList)).take (i + 1) = (ws.map (·.data.toList)).take i ++ [(ws[i]).data.toList] := by
      rw [List.take_succ_eq_append_getElem (by simpa using hlt)]; simp
    obtain ⟨x, hx⟩ : ∃ x, ws[i] = x := ⟨_, rfl⟩
    rw [hx] at c0 hts hsplit htk
    have HSPL := hid hsplit
    have HTK := hid htk
    have hxl : x.data.toList.length = x.size := by simp
    have HXL := hid hxl
    clear hx hsplit htk hc hb hxl
    go_wp2_with fail
    go_loopg [7] x.size (fun g vk ws => ∃ k : Nat, vk = .int .i64 k ∧ k ≤ x.size ∧ x.size - k ≤ g ∧ wr = ws ∧ Hid ((61 : UInt8) ∉ x.data.toList.take k))
    case atStart => exact ⟨0, rfl, by omega, by omega, rfl, (show Hid _ from by simp [Hid])⟩
    case round =>
    obtain ⟨k, rfl, hk, hgk2, rfl, HNK⟩ := hrel
    by_cases hkl : k < x.size
    · have hkz : (k : Int) < (x.size : Int) := by omega
      have hkd : decide ((k : Int) < (x.size : Int)) = true := decide_eq_true hkz
      have hk0 : (0 : Int) ≤ (k : Int) := by omega
      have hkll : k < x.data.toList.length := by rw [HXL.out]; exact hkl
      have hby : x.data.toList[k] = x[k] := rfl
      obtain ⟨c, hc⟩ : ∃ c, x[k] = c := ⟨_, rfl⟩
      rw [hc] at hby
      have HBY := hid hby
      clear hby
      by_cases h61 : c = 61
      · subst h61
        have hsp : x.data.toList = x.data.toList.take k ++ 61 :: x.data.toList.drop (k + 1) := by
          conv => lhs; rw [← List.take_append_drop k x.data.toList, List.drop_eq_getElem_cons hkll, HBY.out]
        have hix : Lib.indexByte x.data.toList 61 = (k : Int) := by
          have h1 := ix_here (b := x.data.toList.drop (k + 1)) HNK.out
          rw [← hsp, List.length_take] at h1
          rw [h1]
          congr 1
          omega
        have hk1 : (0 : Int) ≤ (k : Int) + 1 := by omega
        have hk2 : (k : Int) + 1 ≤ (x.size : Int) := by omega
        have hne : ((k : Int) == (x.size : Int)) = false := beq_eq_false_iff_ne.2 (by omega)
        have hrs : (x.extract (k + 1) x.size).size ≤ 140737488355327 := by simp; omega
        have HRR := hid (rread_any (x.extract (k + 1) x.size) wr hrs)
        rw [ext_tail] at HRR
        have HIX := hid hix
        clear hsp hix hrs
        cases hrd : readL (x.data.toList.drop (k + 1)) with
        | none =>
          rw [hrd] at HRR
          simp only [readV] at HRR
          have HO : Hid (wordO x.data.toList = none) := by
            show _ = _; unfold wordO; rw [if_neg (by rw [HIX.out]; omega), HIX.out, Int.toNat_natCast, hrd]; rfl
          clear hrd
          go_wp2_with (first | (go_at_call 29; refine HRR.out.mono ?_; rintro e w2 ⟨rfl, hb2⟩))
          go_ret2
          exact ⟨Or.inl ⟨by rw [HSPL.out]; exact fieldsW_no HO.out, rfl⟩, bel_then HB.out HB.out.size hb2⟩
        | some t =>
          rw [hrd] at HRR
          simp only [readV] at HRR
          have HO : Hid (wordO x.data.toList = some (x.data.toList.take k, t)) := by
            show _ = _; unfold wordO; rw [if_neg (by rw [HIX.out]; omega), HIX.out, Int.toNat_natCast, hrd]; rfl
          clear hrd
          have HE := hid (ext_take x k)
          go_wp2_with (first | (go_at_call 29; refine HRR.out.mono ?_; rintro e w2 ⟨rfl, hb2⟩; have hb2s := hb2.size; have HXA := hid ((HOX.out.on hb2).on (((Below.refl _ w2).alloc (Nat.le_refl _) (.cells #[.string ⟨t.toArray⟩] 9)).alloc (by simp) (.cells #[.string (x.extract 0 k), .slice (some ⟨w2.heap.size, 0, none⟩) 1 1] 45))); have HC := hid (news_x (w2.alloc (.cells #[.string ⟨t.toArray⟩] 9)) ⟨x.extract 0 k, some ⟨w2.heap.size, 0, none⟩, 1, [⟨t.toArray⟩]⟩); rw [World.size_alloc] at HC) | (at_builtin; refine wpList_append_own _ rfl _ _ 22 rfl w.heap.size 45 j0 (.agg #[.string ⟨#[]⟩, .slice none 0 0]) 2 40 Tryd.underlying22 HJ.out hy0 hy1 hy2 rfl (by decide) _ _ _ rfl HXA.out.1 ⟨w2.heap.size + 1, 0, none⟩ 1 1 (cellsX [⟨x.extract 0 k, some ⟨w2.heap.size, 0, none⟩, 1, [⟨t.toArray⟩]⟩]) rfl rfl HC.out (cellsX_one _) (by rw [HDL.out]; unfold maxLen; omega) (by rw [HDL.out]; omega) (by simp; omega) ?_))
          intro v4 w4 hown4 hg4 _
          have hot0 : OwnT w2.heap.size (w2.alloc (.cells #[.string ⟨t.toArray⟩] 9)) (.slice (some ⟨w2.heap.size, 0, none⟩) 1 1) [⟨t.toArray⟩] := World.ownsRow_lit w2 #[.string ⟨t.toArray⟩] 1 (Nat.le_refl _) (by decide) rfl
          have hot1 : OwnT w.heap.size ((w2.alloc (.cells #[.string ⟨t.toArray⟩] 9)).alloc (.cells #[.string (x.extract 0 k), .slice (some ⟨w2.heap.size, 0, none⟩) 1 1] 45)) (.slice (some ⟨w2.heap.size, 0, none⟩) 1 1) [⟨t.toArray⟩] := own_weak (OwnT.on hot0 ((Below.refl _ _).alloc (Nat.le_refl _) _)) (Nat.le_trans hsz hb2s)
          have HX4 := hid (HXA.out.put (x := ⟨x.extract 0 k, some ⟨w2.heap.size, 0, none⟩, 1, [⟨t.toArray⟩]⟩) hot1 hown4 hg4)
          have hb3 : Below w.heap.size w w2 := bel_then HB.out HB.out.size hb2
          have HB4 : Hid (Below w.heap.size w w4) := ((hb3.alloc (by omega) _).alloc (by simp; omega) _).grown hg4 (by simp; omega) (fun q hq => (World.ownsRow.lt HXA.out.1 q hq).1)
          clear hown4 hg4 hot0 hot1 hb3
          go_wp2_with fail
          go_roundg (ws.length - (i + 1))
          case measure => omega
          refine ⟨i + 1, by go_num, by omega, by omega, _, _, HX4.out, rfl, ?_, by rw [List.length_append, HDL.out]; rfl, HB4.out⟩
          rw [HTK.out, fieldsW_snoc HFW.out HO.out, List.map_append, HDM.out]
          simp only [List.map_cons, List.map_nil, Fx.fld, HE.out]
      · have h61z : ((c.toNat : Int) != 61) = true := by
          rw [bne_iff_ne]
          exact fun e => h61 (UInt8.toNat_inj.1 (by show c.toNat = 61; omega))
        have HN2 : Hid ((61 : UInt8) ∉ x.data.toList.take (k + 1)) := by
          show _ ∉ _
          rw [List.take_succ_eq_append_getElem hkll, List.mem_append, List.mem_singleton, HBY.out]
          rintro (h | h)
          · exact HNK.out h
          · exact h61 h.symm
        clear h61
        go_wp2_with fail
        go_roundg (x.size - (k + 1))
        case measure => omega
        case rel => exact ⟨k + 1, by go_num, by omega, by omega, rfl, HN2⟩
    · have hkz : ¬ (k : Int) < (x.size : Int) := by omega
      have hkd : decide ((k : Int) < (x.size : Int)) = false := decide_eq_false hkz
      have hke : ((k : Int) == (x.size : Int)) = true := beq_iff_eq.2 (by omega)
      have HO : Hid (wordO x.data.toList = none) := by
        show _ = _
        have h1 := HNK.out
        rw [List.take_of_length_le (by rw [HXL.out]; omega)] at h1
        unfold wordO
        rw [if_pos (ix_none h1)]
      go_wp2_with fail
      go_ret2
      exact ⟨Or.inl ⟨by rw [HSPL.out]; exact fieldsW_no HO.out, rfl⟩, HB.out⟩
  have hltz : ¬ (i : Int) < (ws.length : Int) := by omega
  have hfw2 : fieldsW (ws.map (·.data.toList)) = some fs := by
    have h1 := HFW.out
    rw [List.take_of_length_le (by rw [List.length_map]; omega)] at h1
    exact h1
  obtain ⟨f1, f2, f3⟩ := fieldsW_len (B := 1000000000000) (ws.map (·.data.toList)) (fun l hl => by
    obtain ⟨x, hx, rfl⟩ := List.mem_map.1 hl
    simpa using HS.out x hx) fs hfw2
  rw [List.length_map] at f1 f2
  have hfit : FitX d := ⟨by rw [HDL.out]; unfold maxLen; omega, fun x hx => by
    have := f3 x.fld (by rw [← HDM.out]; exact List.mem_map.2 ⟨x, hx, rfl⟩)
    refine ⟨?_, ?_, fun t ht => ?_⟩
    · unfold maxLen; omega
    · rw [this.2.1]; unfold maxLen; omega
    · have := this.2.2 t ht; unfold maxLen; omega⟩
  have HNM := hid (rnorm_plain u4 d wr HOX.out.is hfit (by rw [HDL.out]; omega) (by rw [HDM.out, f2]; omega))
  rw [HDM.out] at HNM
  have HF2 := hid hfw2
  clear f1 f2 f3 hfit hfw2
  go_wp2_with (first | (go_at_call 11; refine HNM.out.mono ?_; rintro e w2 ⟨⟨u2, o2, rfl, ho2, hm2⟩, hb2⟩))
  go_ret2
  exact ⟨Or.inr ⟨fs, HF2.out, u2, o2, rfl, ⟨own_weak ho2.1 hsz, fun x hx => own_weak (ho2.2 x hx) hsz⟩, hm2⟩, bel_then HB.out HB.out.size hb2⟩

theorem fieldsP_words (l : List UInt8) : fieldsW (wordsAns l) = fieldsP l := by
  unfold wordsAns fieldsP
  split
  · rfl
  · rfl

theorem pw_plain {N : Nat} {l : List UInt8} {e : Ending} {w' : World} (h : (fieldsW (wordsAns l) = none ∧ e = .returned (.tuple #[.slice none 0 0, .int .i64 4])) ∨
   ∃ fs, fieldsW (wordsAns l) = some fs ∧ ∃ u o, e = .returned (.tuple #[u, .int .i64 (codeF fs)]) ∧ OwnXs N w' u o ∧ o.map Fx.fld = ansF fs) : ∃ u o, e = .returned (.tuple #[u, .int .i64 (codeP l)]) ∧ OwnXs N w' u o ∧ o.map Fx.fld = ansP l := by
  rw [fieldsP_words] at h
  unfold codeP ansP
  rcases h with ⟨h, rfl⟩ | ⟨fs, h, hr⟩
  · rw [h]
    exact ⟨_, [], rfl, own_none _ _, rfl⟩
  · rw [h]
    exact hr

set_option maxHeartbeats 2000000 in
set_option maxRecDepth 100000 in
theorem rparse_any (s : ByteArray) (w : World) (hs : s.size ≤ 500000000000) :
    Calls Tryd.prog 25 #[.string s] w fun e w' => PPost w s.data.toList e w' := by
  have HW := hid (rwords_any s w (by omega))
  have hlen : s.data.toList.length = s.size := by simp
  have HLEN := hid hlen
  clear hlen
  go_enter Tryd.func25, Tryd.ntmps25
  go_wp2_with (first
    | (go_at_call 48; refine HW.out.mono ?_; rintro e w1 ⟨⟨v1, ws, rfl, hot, hwm, hwl, hws⟩, hb1⟩; obtain ⟨p1, c1, rfl⟩ := own_slice hot; rw [HLEN.out] at hwl hws; have HPW := hid (rpw_any p1 c1 ws w1 hot.txtAt (by omega) (fun x hx => Nat.le_trans (hws x hx) (by omega))); have HWM := hid hwm; rw [HWM.out] at HPW; clear hot hwm hws hwl)
    | (go_at_call 47; refine HPW.out.mono ?_; rintro e w2 ⟨h, hb2⟩; obtain ⟨u, o, rfl, ho, hm⟩ := pw_plain h))
  go_ret2
  exact ⟨⟨u, o, rfl, ⟨own_weak ho.1 hb1.size, fun x hx => own_weak (ho.2 x hx) hb1.size⟩, hm⟩, bel_then hb1 hb1.size hb2⟩

end Go.Proofs.YtmjchokacmbkoaaDoor

/-
  ValueParses answers true, where the text is short enough.
-/
namespace Go.Proofs.YtmjchokacmbkoaaDoor
open Go.RowKit Go.Lib

theorem codeP_may {l : List UInt8} (h : codeP l = 0) : mayB (ansP l) = true := by
  unfold codeP at h
  unfold ansP
  cases hf : fieldsP l with
  | none => rw [hf] at h; simp at h
  | some fs =>
    rw [hf] at h
    simp only at h ⊢
    unfold ansF
    rw [if_pos h]
    exact (codeF_zero h).2.2

set_option maxHeartbeats 2000000 in
set_option maxRecDepth 100000 in
theorem parses_any (s : ByteArray) (w : World) (hp : PlainAt w) (hs : s.size ≤ 500000000000) :
    Calls Tryd.prog 7 #[.string s] w fun e w' => e = .returned (.bool true) ∧ Below w.heap.size w w' := by
  have HP := hid hp
  clear hp
  have HMY := hid (codeP_may (l := s.data.toList))
  obtain ⟨k, hk⟩ : ∃ k, codeP s.data.toList = k := ⟨_, rfl⟩
  rw [hk] at HMY
  have HK := hid hk
  clear hk
  have HPA : Hid (∀ W, PlainAt W → Calls Tryd.prog 22 #[.string s] W fun e w' => PPost W s.data.toList e w') := fun W h => parse_plain s W h (by omega)
  have HRP : Hid (∀ W, Calls Tryd.prog 25 #[.string s] W fun e w' => PPost W s.data.toList e w') := fun W => rparse_any s W hs
  by_cases h0 : k = 0
  · subst h0
    have HMZ := hid (HMY.out rfl)
    clear HMY
    go_enter Tryd.func7, Tryd.ntmps7
    go_wp2_with (first
      | (go_at_call 9; refine (fixed_any _ HP.out).mono ?_; rintro e w1 ⟨rfl, q1⟩)
      | (go_at_call 22; refine (HPA.out w1 (HP.out.on q1)).mono ?_; rintro e w2 ⟨⟨u2, d2, rfl, o2, m2⟩, q2⟩; rw [HK.out]; have b2 : Below w.heap.size w w2 := bel_then q1 q1.size q2; have O2 := hid o2; have M2 := hid m2; clear o2 m2)
      | (go_at_call 25; refine (HRP.out w2).mono ?_; rintro e w3 ⟨⟨u3, d3, rfl, o3, m3⟩, q3⟩; rw [HK.out]; have b3 : Below w.heap.size w w3 := bel_then b2 b2.size q3; have O23 := hid (O2.out.on q3).is; have HSM := hid (same_any u2 u3 d2 d3 0 w3 O23.out o3.is (ansP_fit M2.out) (ansP_fit m3)); rw [show decide (d2.map Fx.fld = d3.map Fx.fld) = true from decide_eq_true (M2.out.trans m3.symm)] at HSM; clear o3 m3))
    refine HSM.out.mono ?_
    rintro e w4 ⟨rfl, n, rfl⟩
    have b4 : Below w.heap.size w (w3.drewN n) := bel_drewN b3 n
    have HI4 : Hid (IsXs (w3.drewN n) u2 d2) := hid O23.out
    have HMV := hid (may_any u2 d2 (w3.drewN n) HI4.out (ansP_fit M2.out))
    have HM0 : Hid (mayB (d2.map Fx.fld) = true) := hid ((congrArg mayB M2.out).trans HMZ.out)
    rw [HM0.out] at HMV
    go_wp2_with (first | (go_at_call 13; refine HMV.out.mono ?_; rintro e w5 ⟨rfl, q5⟩))
    go_ret
    exact ⟨rfl, bel_then b4 b4.size q5.below⟩
  · have hk0 : (k != 0) = true := by rw [bne_iff_ne]; exact h0
    clear h0
    go_enter Tryd.func7, Tryd.ntmps7
    go_wp2_with (first
      | (go_at_call 9; refine (fixed_any _ HP.out).mono ?_; rintro e w1 ⟨rfl, q1⟩)
      | (go_at_call 22; refine (HPA.out w1 (HP.out.on q1)).mono ?_; rintro e w2 ⟨⟨u2, d2, rfl, o2, m2⟩, q2⟩; rw [HK.out]; have b2 : Below w.heap.size w w2 := bel_then q1 q1.size q2; have O2 := hid o2; have M2 := hid m2; clear o2 m2)
      | (go_at_call 25; refine (HRP.out w2).mono ?_; rintro e w3 ⟨⟨u3, d3, rfl, o3, m3⟩, q3⟩; rw [HK.out]; have b3 : Below w.heap.size w w3 := bel_then b2 b2.size q3; have O23 := hid (O2.out.on q3).is; have HSM := hid (same_any u2 u3 d2 d3 k w3 O23.out o3.is (ansP_fit M2.out) (ansP_fit m3)); rw [show decide (d2.map Fx.fld = d3.map Fx.fld) = true from decide_eq_true (M2.out.trans m3.symm)] at HSM; clear o3 m3)
      | (go_at_call 12; refine HSM.out.mono ?_; rintro e w4 ⟨rfl, n, rfl⟩; have b4 : Below w.heap.size w (w3.drewN n) := bel_drewN b3 n))
    go_ret
    exact ⟨rfl, b4⟩

end Go.Proofs.YtmjchokacmbkoaaDoor
