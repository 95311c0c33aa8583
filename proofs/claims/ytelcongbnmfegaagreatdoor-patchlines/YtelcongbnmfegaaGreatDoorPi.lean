/-
  Texts of this claim, one behind the other: Haw Hlw.
-/
import Derived.Test.YtelcongbnmfegaaGreatDoorPh
import Derived.Test.YtelcongbnmfegaaGreatDoorPg
/-
  The walks of PatchApplies, PatchDiffs, PatchLines and PatchParses.
-/
namespace Go.Proofs.YtelcongbnmfegaaGreatDoor
open Go.RowKit

theorem int_eqE (n : Int) : (n == n) = true := by simp
theorem int_neE (n : Int) : (n != n) = false := by simp

set_option maxHeartbeats 4000000 in
set_option maxRecDepth 100000 in
theorem applies8_any (v u : Value) (d : List Fx) (l : List Ed) (w : World) (hv : IsXs w v d) (hf : FitX d) (hu : KE.Is w u l) (hfl : FitE l) (hp : GoodAt w) :
    Calls Tryz.prog 3 #[v, u] w fun e w' => e = .returned (.bool true) ∧ Below w.heap.size w w' := by
  have HF := hid (hfixed_any w hp)
  have HA := hid (fun W (hW : Below w.heap.size w W) => papply_any v u d l W (hv.kept hW) hf (KE.is_kept hu hW) hfl (hp.on hW))
  have HR := hid (fun W (hW : Below w.heap.size w W) => rapply_any v u d l W (hv.kept hW) hf (KE.is_kept hu hW) hfl)
  have HM := hid (fun W (hW : Below w.heap.size w W) => pmayE_any u l W (KE.is_kept hu hW) hfl (hp.on hW))
  have HN := hid (fun W (hW : Below w.heap.size w W) => rmayE_any u l W (KE.is_kept hu hW) hfl)
  obtain ⟨c, hc⟩ : ∃ c, codeA (d.map Fx.fld) l = c := ⟨_, rfl⟩
  obtain ⟨m, hm⟩ : ∃ m, mayE l = m := ⟨_, rfl⟩
  rw [hm] at HM HN
  have HC := hid hc
  have hmm := int_eqE m
  clear hv hf hu hfl hc hm hp
  go_enter Tryz.func3, Tryz.ntmps3
  go_wp2_with fail
  refine HF.out.mono ?_
  rintro e w1 ⟨rfl, q1⟩
  have HB1 := hid q1
  clear q1 HF
  go_wp2_with fail
  refine (HA.out w1 HB1.out).mono ?_
  rintro e w2 ⟨u2, o2, rfl, hi2, hm2, q2⟩
  have HB2 := hid (bel_then HB1.out HB1.out.size q2)
  have HI2 := hid hi2
  have HM2 := hid hm2
  rw [HC.out]
  clear hi2 hm2 q2 HA
  go_wp2_with fail
  refine (HR.out w2 HB2.out).mono ?_
  rintro e w3 ⟨u3, o3, rfl, hi3, hm3, q3⟩
  have HB3 := hid (bel_then HB2.out HB2.out.size q3)
  have HSM := hid (same_any u2 u3 o2 o3 c w3 (HI2.out.kept q3) hi3 (ansA_fit HM2.out) (ansA_fit hm3))
  rw [HM2.out, hm3, decide_eq_true rfl] at HSM
  rw [HC.out]
  clear hi3 hm3 q3 HR HI2 HM2
  go_wp2_with fail
  refine HSM.out.mono ?_
  rintro e w4 ⟨rfl, n4, q4⟩
  have HB4 := hid (bel_drewN HB3.out n4)
  rw [← q4] at HB4
  clear q4 HSM
  go_wp2_with fail
  refine (HM.out w4 HB4.out).mono ?_
  rintro e w5 ⟨rfl, q5⟩
  have HB5 := hid (bel_then HB4.out HB4.out.size q5)
  clear q5 HM
  go_wp2_with fail
  refine (HN.out w5 HB5.out).mono ?_
  rintro e w6 ⟨rfl, q6⟩
  have HB6 := HB5
  rw [← q6] at HB6
  clear q6 HN
  go_wp2_with fail
  go_ret
  exact ⟨rfl, HB6.out⟩

set_option maxHeartbeats 4000000 in
set_option maxRecDepth 100000 in
theorem diffs8_any (va vb : Value) (da db : List Fx) (w : World) (ha : IsXs w va da) (hb : IsXs w vb db) (hfa : FitX da) (hfb : FitX db) (hp : GoodAt w) :
    Calls Tryz.prog 4 #[va, vb] w fun e w' => e = .returned (.bool true) ∧ Below w.heap.size w w' := by
  have HF := hid (hfixed_any w hp)
  have HD := hid (fun W (hW : Below w.heap.size w W) => pdiff_any va vb da db W (ha.kept hW) (hb.kept hW) hfa hfb (hp.on hW))
  have HE := hid (fun W (hW : Below w.heap.size w W) => rdiff_any va vb da db W (ha.kept hW) (hb.kept hW) hfa hfb)
  obtain ⟨A, hA⟩ : ∃ A, da.map Fx.fld = A := ⟨_, rfl⟩
  obtain ⟨B, hB⟩ : ∃ B, db.map Fx.fld = B := ⟨_, rfl⟩
  have HAP := hid (fun W u l (hW : Below w.heap.size w W) (hu : KE.Is W u l) (hl : FitE l) => papply_any va u da l W (ha.kept hW) hfa hu hl (hp.on hW))
  have HVB := hid hb
  have HFB := hid hfb
  have HBB := hid hB
  rw [hA] at HD HE HAP
  rw [hB] at HD HE
  have hal : (ansDf A B).length ≤ maxLen := by
    unfold ansDf
    split
    · rename_i h
      have := (codeDf_zero h).2.2
      unfold maxLen; omega
    · exact Nat.zero_le _
  have HAL := hid hal
  clear ha hb hfa hfb hA hB hal hp
  obtain ⟨c, hc⟩ : ∃ c, codeDf A B = c := ⟨_, rfl⟩
  have HC := hid hc
  have hcc := int_neE c
  go_enter Tryz.func4, Tryz.ntmps4
  go_wp2_with fail
  refine HF.out.mono ?_
  rintro e w1 ⟨rfl, q1⟩
  have HB1 := hid q1
  clear q1 HF
  go_wp2_with fail
  refine (HD.out w1 HB1.out).mono ?_
  rintro e w2 ⟨u2, rfl, ho2, q2⟩
  have HB2 := hid (bel_then HB1.out HB1.out.size q2)
  have HO2 := hid ho2
  rw [hc]
  clear ho2 q2 HD
  go_wp2_with fail
  refine (HE.out w2 HB2.out).mono ?_
  rintro e w3 ⟨u3, rfl, ho3, q3⟩
  have HB3 := hid (bel_then HB2.out HB2.out.size q3)
  have hi2 := KE.is_kept (Kind.own_is HO2.out) q3
  have HI2 := hid hi2
  have HSM := hid (rsameE_any u2 u3 _ _ w3 hi2 (Kind.own_is ho3) HAL.out)
  rw [decide_eq_true rfl] at HSM
  rw [hc]
  clear ho3 q3 HE HO2 hi2
  go_wp2_with fail
  refine HSM.out.mono ?_
  rintro e w4 ⟨rfl, n4, q4⟩
  have HB4 := hid (bel_drewN HB3.out n4)
  rw [← q4] at HB4
  have HI4 : Hid (KE.Is w4 u2 (ansDf A B)) := by rw [q4]; exact HI2.out
  clear q4 HSM HI2
  by_cases h0 : c = 0
  · subst h0
    have hap := diff_applies hc
    have e1 : ansDf A B = diffE A B := by unfold ansDf; rw [if_pos hc]
    have hfl : FitE (ansDf A B) := by
      rw [e1]
      exact mayE_fit (codeA_zero hap.1).2.1
    have HA4 := hid (HAP.out w4 u2 _ HB4.out HI4.out hfl)
    rw [e1] at HA4
    have HP1 := hid hap.1
    have HP2 := hid hap.2
    clear hap e1 hfl hc
    go_wp2_with fail
    refine HA4.out.mono ?_
    rintro e w5 ⟨u5, o5, rfl, hi5, hm5, q5⟩
    have HB5 := hid (bel_then HB4.out HB4.out.size q5)
    have HSF := hid (sameF_any u5 vb o5 db w5 hi5 (HVB.out.kept HB5.out) (ansA_fit hm5) HFB.out)
    rw [hm5, HBB.out, HP2.out, decide_eq_true rfl] at HSF
    rw [HP1.out]
    clear hi5 hm5 q5 HA4
    go_wp2_with fail
    refine HSF.out.mono ?_
    rintro e w6 ⟨rfl, n6, q6⟩
    have HB6 := hid (bel_drewN HB5.out n6)
    rw [← q6] at HB6
    clear q6
    go_wp2_with fail
    go_ret
    exact ⟨rfl, HB6.out⟩
  · have hne : (c != 0) = true := by rw [bne_iff_ne]; exact h0
    clear h0 hc
    go_wp2_with fail
    go_ret
    exact ⟨rfl, HB4.out⟩

end Go.Proofs.YtelcongbnmfegaaGreatDoor

/-
  The walks of PatchLines and PatchParses.
-/
namespace Go.Proofs.YtelcongbnmfegaaGreatDoor
open Go.RowKit

theorem prE_size (l : List Ed) : (prE l).size ≤ 6704 := by
  unfold prE
  split
  · rename_i h
    obtain ⟨h1, h2, _, h4⟩ := mayE_zero h
    exact lineE_size (by simpa using h1) fun y hy => by
      obtain ⟨x, hx, rfl⟩ := List.mem_map.1 hy
      exact wordE_len (h2 x hx) (h4 x hx)
  · exact Nat.zero_le _

set_option maxHeartbeats 4000000 in
set_option maxRecDepth 100000 in
theorem lines8_any (u : Value) (l : List Ed) (w : World) (hu : KE.Is w u l) (hfl : FitE l) (hp : GoodAt w) :
    Calls Tryz.prog 5 #[u] w fun e w' => e = .returned (.bool true) ∧ Below w.heap.size w w' := by
  have HF := hid (hfixed_any w hp)
  have HP := hid (fun W (hW : Below w.heap.size w W) => pprintE_any u l W (KE.is_kept hu hW) hfl (hp.on hW))
  have HR := hid (fun W (hW : Below w.heap.size w W) => rprintE_any u l W (KE.is_kept hu hW) hfl)
  have HU := hid hu
  have HPS : Hid (∀ W, Below w.heap.size w W → Calls Tryz.prog 21 #[.string (prE l)] W fun e w' => EWPost W (editsW (wordsAns (prE l).data.toList)) e w') := fun W hW => pparseE_any _ W (by have := prE_size l; omega) (hp.on hW)
  have HBK : Hid (mayE l = 0 → codeL (editsW (wordsAns (prE l).data.toList)) = 0 ∧ ansL (editsW (wordsAns (prE l).data.toList)) = l) := fun h => line_parsed h
  have HLL : Hid (mayE l = 0 → l.length ≤ maxLen) := fun _ => hfl.1
  obtain ⟨s, hs⟩ : ∃ s, prE l = s := ⟨_, rfl⟩
  obtain ⟨c, hc⟩ : ∃ c, mayE l = c := ⟨_, rfl⟩
  rw [hs] at HP HR HPS HBK
  rw [hc] at HP HR HBK HLL
  have hcc := int_neE c
  have hss := seq_true (rfl : s = s)
  clear hu hfl hs hc hp
  go_enter Tryz.func5, Tryz.ntmps5
  go_wp2_with fail
  refine HF.out.mono ?_
  rintro e w1 ⟨rfl, q1⟩
  have HB1 := hid q1
  clear q1 HF
  go_wp2_with fail
  refine (HP.out w1 HB1.out).mono ?_
  rintro e w2 ⟨rfl, q2⟩
  have HB2 := hid (bel_then HB1.out HB1.out.size q2)
  clear q2 HP
  go_wp2_with fail
  refine (HR.out w2 HB2.out).mono ?_
  rintro e w3 ⟨rfl, q3⟩
  have HB3 := hid (bel_then HB2.out HB2.out.size q3)
  clear q3 HR
  by_cases h0 : c = 0
  · subst h0
    obtain ⟨b1, b2⟩ := HBK.out rfl
    have HP3 := hid (HPS.out w3 HB3.out)
    have HX1 := hid b1
    have HX2 := hid b2
    have HL2 := hid (HLL.out rfl)
    clear b1 b2 HPS HBK HLL
    go_wp2_with fail
    refine HP3.out.mono ?_
    rintro e w4 ⟨⟨u4, rfl, ho4⟩, q4⟩
    have HB4 := hid (bel_then HB3.out HB3.out.size q4)
    rw [HX2.out] at ho4
    have HSM := hid (rsameE_any u4 u l l w4 (Kind.own_is ho4) (KE.is_kept HU.out HB4.out) HL2.out)
    rw [decide_eq_true rfl] at HSM
    rw [HX1.out]
    clear ho4 q4 HP3
    go_wp2_with fail
    refine HSM.out.mono ?_
    rintro e w5 ⟨rfl, n5, q5⟩
    have HB5 := hid (bel_drewN HB4.out n5)
    rw [← q5] at HB5
    clear q5
    go_wp2_with fail
    go_ret
    exact ⟨rfl, HB5.out⟩
  · have hne : (c != 0) = true := by rw [bne_iff_ne]; exact h0
    clear h0 HPS HBK HLL
    go_wp2_with fail
    go_ret
    exact ⟨rfl, HB3.out⟩

set_option maxHeartbeats 4000000 in
set_option maxRecDepth 100000 in
theorem parses8_any (s : ByteArray) (w : World) (hs : s.size ≤ 500000000000) (hp : GoodAt w) (hP : ∀ W, GoodAt W → Calls Tryz.prog 21 #[.string s] W fun e w' => EWPost W (editsW (wordsAns s.data.toList)) e w') :
    Calls Tryz.prog 6 #[.string s] w fun e w' => e = .returned (.bool true) ∧ Below w.heap.size w w' := by
  have HF := hid (hfixed_any w hp)
  have HP := hid (fun W (hW : Below w.heap.size w W) => hP W (hp.on hW))
  have HR := hid (fun W => rparseE_any s W hs)
  obtain ⟨o, ho⟩ : ∃ o, editsW (wordsAns s.data.toList) = o := ⟨_, rfl⟩
  rw [ho] at HP HR
  have hal : (ansL o).length ≤ maxLen := by
    unfold ansL
    split
    · exact Nat.zero_le _
    · split
      · rename_i h
        have := (mayE_zero h).1
        unfold maxLen; omega
      · exact Nat.zero_le _
  have HAL := hid hal
  obtain ⟨c, hc⟩ : ∃ c, codeL o = c := ⟨_, rfl⟩
  have hcc := int_eqE c
  clear hs hP ho hal hp
  go_enter Tryz.func6, Tryz.ntmps6
  go_wp2_with fail
  refine HF.out.mono ?_
  rintro e w1 ⟨rfl, q1⟩
  have HB1 := hid q1
  clear q1 HF
  go_wp2_with fail
  refine (HP.out w1 HB1.out).mono ?_
  rintro e w2 ⟨⟨u2, rfl, ho2⟩, q2⟩
  have HB2 := hid (bel_then HB1.out HB1.out.size q2)
  have HO2 := hid ho2
  rw [hc]
  clear ho2 q2 HP
  go_wp2_with fail
  refine (HR.out w2).mono ?_
  rintro e w3 ⟨⟨u3, rfl, ho3⟩, q3⟩
  have HB3 := hid (bel_then HB2.out HB2.out.size q3)
  have HSM := hid (rsameE_any u2 u3 _ _ w3 (KE.is_kept (Kind.own_is HO2.out) q3) (Kind.own_is ho3) HAL.out)
  rw [decide_eq_true rfl] at HSM
  rw [hc]
  clear ho3 q3 HR HO2
  go_wp2_with fail
  refine HSM.out.mono ?_
  rintro e w4 ⟨rfl, n4, q4⟩
  have HB4 := hid (bel_drewN HB3.out n4)
  rw [← q4] at HB4
  clear q4
  go_wp2_with fail
  go_ret
  exact ⟨rfl, HB4.out⟩

end Go.Proofs.YtelcongbnmfegaaGreatDoor
