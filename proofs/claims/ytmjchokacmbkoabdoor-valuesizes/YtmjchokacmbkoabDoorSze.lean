/-
  ValueSizes answers true.
-/
import Derived.Test.YtmjchokacmbkoabDoorSze0
namespace Go.Proofs.YtmjchokacmbkoabDoor
open Go.RowKit Go.Lib

theorem take_snoc {α : Type} {l : List α} {i : Nat} (h : i < l.length) : l.take (i + 1) = l.take i ++ [l[i]] := List.take_succ_eq_append_getElem h

theorem blanks_step (s : ByteArray) (k : Nat) (h : k < s.size) : blanks (s.data.toList.take (k + 1)) = blanks (s.data.toList.take k) + if s[k] = 32 then 1 else 0 := by
  rw [take_succ_byte s k h, blanks_append]
  congr 1
  unfold blanks
  by_cases e : s[k] = 32
  · rw [if_pos e, e]; rfl
  · rw [if_neg e]
    have : (s[k] == 32) = false := beq_eq_false_iff_ne.2 e
    simp [this]

theorem blanks_le (l : List UInt8) (k : Nat) : blanks (l.take k) ≤ k := by
  unfold blanks
  have := List.countP_le_length (p := fun c => c == (32 : UInt8)) (l := l.take k)
  rw [List.length_take] at this
  omega


set_option maxHeartbeats 4000000 in
set_option maxRecDepth 100000 in
theorem sizes_any (v : Value) (d : List Fx) (w : World) (hp : PlainAt w) (hv : IsXs w v d) (hf : FitX d) :
    Calls Tryd.prog 5 #[v] w fun e w' => e = .returned (.bool true) ∧ Below w.heap.size w w' := by
  have HP := hid hp
  have HV := hid hv
  have HF := hid hf
  clear hp hv hf
  cases hm : mayB (d.map Fx.fld) with
  | false =>
    have HM := hid hm
    have hz : sizeN (d.map Fx.fld) = 0 := by unfold sizeN; rw [hm]; rfl
    have HZ := hid hz
    clear hm hz
    have HMY : Hid (∀ W, IsXs W v d → Calls Tryd.prog 16 #[v] W fun e w' => e = .returned (.bool false) ∧ Grown W w') := fun W h => by have := may_any v d W h HF.out; rw [HM.out] at this; exact this
    go_enter Tryd.func5, Tryd.ntmps5
    go_wp2_with (first
      | (go_at_call 6; refine (fixed_any _ HP.out).mono ?_; rintro e w1 ⟨rfl, q1⟩)
      | (go_at_call 15; refine (print_no v d w1 (HV.out.kept q1) HF.out HM.out).mono ?_; rintro e w2 ⟨rfl, q2⟩; have b2 : Below w.heap.size w w2 := bel_then q1 q1.size q2.below)
      | (go_at_call 16; refine (HMY.out w2 (HV.out.kept b2)).mono ?_; rintro e w3 ⟨rfl, q3⟩; have b3 : Below w.heap.size w w3 := bel_then b2 b2.size q3.below)
      | (go_at_call 17; refine (size_any v d w3 (HV.out.kept b3) HF.out).mono ?_; rintro e w4 ⟨rfl, q4⟩; rw [HZ.out]))
    go_ret
    exact ⟨rfl, bel_then b3 b3.size q4⟩
  | true =>
    have HM := hid hm
    have hz : sizeN (d.map Fx.fld) = cntB (d.map Fx.fld) := by unfold sizeN; rw [hm, if_pos rfl, encL_cnt]
    have HZ := hid hz
    have HBL := hid (line_blanks hm)
    have HLE := hid (line_empty (d.map Fx.fld))
    have hsz := line_size hm
    have HCS : Hid (∀ i, 1 + (((d.map Fx.fld).take i).map cntF).sum ≤ 17057) := cnt_small hm
    have HTS : Hid (∀ i, totF ((d.map Fx.fld).take i) ≤ 128) := tot_small hm
    have hd16 : d.length ≤ 16 := by have := (may_parts hm).1; simpa using this
    clear hm hz
    have HMY : Hid (∀ W, IsXs W v d → Calls Tryd.prog 16 #[v] W fun e w' => e = .returned (.bool true) ∧ Grown W w') := fun W h => by have := may_any v d W h HF.out; rw [HM.out] at this; exact this
    obtain ⟨s, hs⟩ : ∃ s, lineOf (d.map Fx.fld) = s := ⟨_, rfl⟩
    rw [hs] at HBL HLE hsz
    have HPR : Hid (∀ W, PlainAt W → IsXs W v d → Calls Tryd.prog 15 #[v] W fun e w' => e = .returned (.tuple #[.string s, .int .i64 0]) ∧ Below W.heap.size W w') := fun W h1 h2 => by have := print_yes v d W h1 h2 HF.out HM.out; rw [hs] at this; exact this
    have HIS : Hid (∀ W, Below w.heap.size w W → IsXs W v d) := fun W h => HV.out.kept h
    obtain ⟨p, cap, rfl, hd, ht⟩ := HV.out
    have HD := hid hd
    have HT := hid ht
    clear hs hd ht
    go_enter Tryd.func5, Tryd.ntmps5
    go_wp2_with (first
      | (go_at_call 6; refine (fixed_any _ HP.out).mono ?_; rintro e w1 ⟨rfl, q1⟩)
      | (go_at_call 15; refine (HPR.out w1 (HP.out.on q1) (HIS.out _ q1)).mono ?_; rintro e w2 ⟨rfl, q2⟩; have b2 : Below w.heap.size w w2 := bel_then q1 q1.size q2)
      | (go_at_call 16; refine (HMY.out w2 (HIS.out _ b2)).mono ?_; rintro e w3 ⟨rfl, q3⟩; have b3 : Below w.heap.size w w3 := bel_then b2 b2.size q3.below))
    have B3 := hid b3
    clear q1 q2 q3 b2 b3
    go_loopg [5, 6, 36] d.length (fun g vn vw vi wr => ∃ i N K : Nat, vi = .int .i64 i ∧ vn = .int .i64 N ∧ vw = .int .i64 K ∧ i ≤ d.length ∧ d.length - i ≤ g ∧ N = 1 + (((d.map Fx.fld).take i).map cntF).sum ∧ K = totF ((d.map Fx.fld).take i) ∧ Below w.heap.size w wr)
    case atStart => exact ⟨0, 1, 0, rfl, rfl, rfl, by omega, by omega, by simp, by simp [totF], B3.out⟩
    case round =>
      obtain ⟨i, N, K, rfl, rfl, rfl, hi, hgk, hN, hK, hb⟩ := hrel
      have hNs : N ≤ 17057 := by rw [hN]; exact HCS.out i
      have hKs : K ≤ 128 := by rw [hK]; exact HTS.out i
      by_cases hlt : i < d.length
      · have hltz : (i : Int) < (d.length : Int) := by omega
        have hiz : (0 : Int) ≤ i := by omega
        obtain ⟨b, off, rfl, hxs⟩ : ∃ b off, p = some ⟨b, off, none⟩ ∧ XsAt w b off d := by
          rcases HD.out with h | h
          · subst h; simp at hlt
          · exact h
        obtain ⟨c0, c1⟩ := hxs.kept hb i hlt
        have hxi : (d[i]).at wr := (HT.out _ (List.getElem_mem hlt)).kept hb
        have htk : (d.map Fx.fld).take (i + 1) = (d.map Fx.fld).take i ++ [(d[i]).fld] := by
          rw [take_snoc (by simpa using hlt)]; simp
        obtain ⟨x, hx⟩ : ∃ x, d[i] = x := ⟨_, rfl⟩
        have hfi : fitsB (d[i]).fld = true := may_fits HM.out _ (List.mem_map.2 ⟨_, List.getElem_mem hlt, rfl⟩)
        rw [hx] at c0 c1 hxi htk hfi
        unfold Fx.sl at c1
        obtain ⟨bt, ot, hpt, hct⟩ : ∃ b off, x.p = some ⟨b, off, none⟩ ∧ ∀ i, (h : i < x.txt.length) → wr.cell? ⟨b, off + i, none⟩ = some (.string x.txt[i]) := by
          rcases hxi with h | h
          · have := (fits_parts hfi).2.1
            simp only [Fx.fld] at this
            rw [h] at this; simp at this
          · exact h
        rw [hpt] at c1
        have HCT := hid hct
        clear hpt hct hxi hfi
        have hN1 : 1 + (((d.map Fx.fld).take (i + 1)).map cntF).sum = N + (2 + x.name.size) + (x.txt.map fun t => 1 + t.size).sum := by
          rw [htk, List.map_append, List.sum_append, hN]
          simp [cntF, Fx.fld]
          omega
        have hK1 : totF ((d.map Fx.fld).take (i + 1)) = K + x.txt.length := by
          rw [htk, totF_append, totF_one, hK]
          rfl
        have hNs1 := HCS.out (i + 1)
        have hKs1 := HTS.out (i + 1)
        rw [hN1] at hNs1
        rw [hK1] at hKs1
        have HN1 := hid hN1
        have HK1 := hid hK1
        have HB := hid hb
        have hns : x.name.size ≤ 17057 := by omega
        have htl : x.txt.length ≤ 128 := by omega
        have HNS1 := hid hNs1
        clear hxs hx htk hN hK hN1 hK1 hb hNs1
        go_wp2_with fail
        obtain ⟨W1, hW1⟩ : ∃ W1, wr.alloc (.cells #[.string x.name, .slice (some ⟨bt, ot, none⟩) x.txt.length x.cap] 30) = W1 := ⟨_, rfl⟩
        have hbW1 : Below w.heap.size w W1 := by rw [← hW1]; exact HB.out.alloc HB.out.size _
        have hat1 : ∀ i, (h : i < x.txt.length) → W1.cell? ⟨bt, ot + i, none⟩ = some (.string x.txt[i]) := fun i h => by
          rw [← hW1]
          exact (((Below.refl wr.heap.size wr).alloc (Nat.le_refl _) _).cell (p := ⟨bt, ot + i, none⟩) (cell_block (HCT.out i h))).trans (HCT.out i h)
        have HBW := hid hbW1
        have HAT := hid hat1
        rw [hW1]
        clear hW1 hbW1 hat1 c0 c1
        go_loopg [5, 6, 49] x.txt.length (fun g vn vw vj wj => ∃ j M L : Nat, vj = .int .i64 j ∧ vn = .int .i64 M ∧ vw = .int .i64 L ∧ j ≤ x.txt.length ∧ x.txt.length - j ≤ g ∧ M = N + (2 + x.name.size) + ((x.txt.take j).map fun t => 1 + t.size).sum ∧ L = K + j ∧ wj = W1)
        case atStart => exact ⟨0, N + (2 + x.name.size), K, rfl, by go_num, rfl, by omega, by omega, by simp, rfl, rfl⟩
        case round =>
          obtain ⟨j, M, L, rfl, rfl, rfl, hj, hgj, hM, hL, rfl⟩ := hrel
          by_cases hlj : j < x.txt.length
          · have hljz : (j : Int) < (x.txt.length : Int) := by omega
            have hjz : (0 : Int) ≤ (j : Int) := by omega
            have ct := HAT.out j hlj
            have hstp : ((x.txt.take (j + 1)).map fun t => 1 + t.size).sum = ((x.txt.take j).map fun t => 1 + t.size).sum + (1 + (x.txt[j]).size) := by
              rw [take_snoc hlj, List.map_append, List.sum_append]; simp
            have hle : ((x.txt.take (j + 1)).map fun t => 1 + t.size).sum ≤ (x.txt.map fun t => 1 + t.size).sum := by
              conv => rhs; rw [← List.take_append_drop (j + 1) x.txt, List.map_append, List.sum_append]
              omega
            have hns1 := HNS1.out
            obtain ⟨t, htt⟩ : ∃ t, x.txt[j] = t := ⟨_, rfl⟩
            rw [htt] at ct hstp
            have hts : t.size ≤ 17057 := by omega
            have hMs : M ≤ 17057 := by omega
            have HM1 : Hid (M + (1 + t.size) = N + (2 + x.name.size) + ((x.txt.take (j + 1)).map fun t => 1 + t.size).sum) := by show _ = _; omega
            have hLs : L ≤ 256 := by omega
            clear htt hstp hle hns1 hM
            go_wp2_with fail
            go_roundg (x.txt.length - (j + 1))
            case measure => omega
            exact ⟨j + 1, M + (1 + t.size), L + 1, by go_num, by go_num, by go_num, by omega, by omega, HM1.out, by omega, rfl⟩
          · have hljz : ¬ (j : Int) < (x.txt.length : Int) := by omega
            have htk2 : x.txt.take j = x.txt := List.take_of_length_le (by omega)
            rw [htk2] at hM
            obtain rfl : j = x.txt.length := by omega
            have HM2 := hid hM
            have HL2 := hid hL
            clear hM hL htk2
            go_wp2_with fail
            go_roundg (d.length - (i + 1))
            case measure => omega
            exact ⟨i + 1, M, L, by go_num, rfl, rfl, by omega, by omega, by rw [HN1.out]; exact HM2.out, by rw [HK1.out]; exact HL2.out, HBW.out⟩
      · have hltz : ¬ (i : Int) < (d.length : Int) := by omega
        have htk : (d.map Fx.fld).take i = d.map Fx.fld := List.take_of_length_le (by simp; omega)
        rw [htk] at hN hK
        have HN2 : Hid (sizeN (d.map Fx.fld) = N) := HZ.out.trans hN.symm
        have HK2 := hid hK
        have HB := hid hb
        clear hN hK htk hb
        go_wp2_with fail
        go_loopg [11, 64] s.size (fun g vb vk wj => ∃ k T : Nat, vk = .int .i64 k ∧ vb = .int .i64 T ∧ k ≤ s.size ∧ s.size - k ≤ g ∧ T = blanks (s.data.toList.take k) ∧ Below w.heap.size w wj)
        case atStart => exact ⟨0, 0, rfl, rfl, by omega, by omega, rfl, HB.out⟩
        case round =>
          obtain ⟨k, T, rfl, rfl, hk, hgj, hT, hbj⟩ := hrel
          have hTk : T ≤ k := by rw [hT]; exact blanks_le _ _
          by_cases hlk : k < s.size
          · have hlkz : (k : Int) < (s.size : Int) := by omega
            have hkz : (0 : Int) ≤ (k : Int) := by omega
            have hst := blanks_step s k hlk
            rw [← hT] at hst
            obtain ⟨c, hc⟩ : ∃ c, s[k] = c := ⟨_, rfl⟩
            rw [hc] at hst
            by_cases h32 : c = 32
            · subst h32
              rw [if_pos rfl] at hst
              have HST := hid hst
              clear hst hT
              go_wp2_with fail
              go_roundg (s.size - (k + 1))
              case measure => omega
              exact ⟨k + 1, T + 1, by go_num, by go_num, by omega, by omega, HST.out.symm, hbj⟩
            · rw [if_neg h32] at hst
              have HST := hid hst
              have hcb : ((c.toNat : Int) == 32) = false := by
                rw [beq_eq_false_iff_ne]
                intro e
                exact h32 (UInt8.toNat_inj.1 (by have : (32 : UInt8).toNat = 32 := rfl; omega))
              clear hst hT
              go_wp2_with fail
              go_roundg (s.size - (k + 1))
              case measure => omega
              exact ⟨k + 1, T, by go_num, rfl, by omega, by omega, HST.out.symm, hbj⟩
          · have hlkz : ¬ (k : Int) < (s.size : Int) := by omega
            have htk2 : s.data.toList.take k = s.data.toList := List.take_of_length_le (by simp; omega)
            rw [htk2, HBL.out, ← HK2.out] at hT
            have hle := HLE.out
            rw [← HK2.out] at hle
            have hszw := size_any (.slice p d.length cap) d wr (HIS.out _ hbj) HF.out
            rw [HN2.out] at hszw
            have HSZ := hid hszw
            clear htk2 hszw
            by_cases hK0 : K = 0
            · have hs0 : s = ⟨#[]⟩ := by
                have := hle.2 hK0
                obtain ⟨⟨l⟩⟩ := s
                have : l.length = 0 := this
                rw [List.length_eq_zero_iff.1 this]
              have hse : s.toList.isEmpty = true := by rw [hs0, Lib.toList_data]; rfl
              have e1 : ((K : Int) == 0) = true := beq_iff_eq.2 (by omega)
              have e2 : ((T : Int) == 0) = true := beq_iff_eq.2 (by omega)
              have e3 : ¬ (0 : Int) < (K : Int) - 1 := by omega
              have e4 : (K : Int) - 1 < 0 := by omega
              have e5 : (K : Int) - 1 ≤ 0 := by omega
              have e6 : max (0 : Int) ((K : Int) - 1) = 0 := by omega
              clear hle hT hTk hKs hgj hk hlk HBL HLE HK2 hs0 hK0
              go_wp2_with (first | (go_at_call 17; refine HSZ.out.mono ?_; rintro e w9 ⟨rfl, q9⟩))
              go_ret
              exact ⟨rfl, bel_then hbj hbj.size q9⟩
            · obtain ⟨K', rfl⟩ : ∃ K', K = K' + 1 := ⟨K - 1, by omega⟩
              obtain rfl : T = K' := by omega
              have hse : s.toList.isEmpty = false := by
                rw [Lib.toList_data]
                cases h : s.data.toList with
                | nil =>
                  exfalso
                  have h1 : s.size = 0 := by have : s.data.toList.length = s.size := by simp
                                             rw [h] at this; simpa using this.symm
                  have := hle.1 h1
                  omega
                | cons _ _ => rfl
              have hT1 : ((T : Int) + 1 == 0) = false := beq_eq_false_iff_ne.2 (by omega)
              clear hle hT hTk hgj hk hlk HBL HLE HK2 hK0
              go_wp2_with (first | (go_at_call 17; refine HSZ.out.mono ?_; rintro e w9 ⟨rfl, q9⟩))
              go_ret
              exact ⟨rfl, bel_then hbj hbj.size q9⟩

end Go.Proofs.YtmjchokacmbkoabDoor
