/-
  Texts of this claim, one behind the other: Haw Hpw.
-/
import Derived.Test.YtelcongbnmfegaaGreatDoorPh
import Derived.Test.YtelcongbnmfegaaGreatDoorPg
/-
  The walks of PatchApplies, PatchDiffs, PatchLines and PatchParses.
-/
namespace Go.Proofs.YtelcongbnmfegaaGreatDoor
open Go.RowKit

theorem int_eqE (n : Int) : (n == n) = true := by simp
theorem int_neE (n : Int) : (n != n) = false := by simp

set_option maxHeartbeats 4000000 in
set_option maxRecDepth 100000 in
theorem applies8_any (v u : Value) (d : List Fx) (l : List Ed) (w : World) (hv : IsXs w v d) (hf : FitX d) (hu : KE.Is w u l) (hfl : FitE l) (hp : GoodAt w) :
    Calls Tryz.prog 3 #[v, u] w fun e w' => e = .returned (.bool true) ∧ Below w.heap.size w w' := by
  have HF := hid (hfixed_any w hp)
  have HA := hid (fun W (hW : Below w.heap.size w W) => papply_any v u d l W (hv.kept hW) hf (KE.is_kept hu hW) hfl (hp.on hW))
  have HR := hid (fun W (hW : Below w.heap.size w W) => rapply_any v u d l W (hv.kept hW) hf (KE.is_kept hu hW) hfl)
  have HM := hid (fun W (hW : Below w.heap.size w W) => pmayE_any u l W (KE.is_kept hu hW) hfl (hp.on hW))
  have HN := hid (fun W (hW : Below w.heap.size w W) => rmayE_any u l W (KE.is_kept hu hW) hfl)
  obtain ⟨c, hc⟩ : ∃ c, codeA (d.map Fx.fld) l = c := ⟨_, rfl⟩
  obtain ⟨m, hm⟩ : ∃ m, mayE l = m := ⟨_, rfl⟩
  rw [hm] at HM HN
  have HC := hid hc
  have hmm := int_eqE m
  clear hv hf hu hfl hc hm hp
  go_enter Tryz.func3, Tryz.ntmps3
  go_wp2_with fail
  refine HF.out.mono ?_
  rintro e w1 ⟨rfl, q1⟩
  have HB1 := hid q1
  clear q1 HF
  go_wp2_with fail
  refine (HA.out w1 HB1.out).mono ?_
  rintro e w2 ⟨u2, o2, rfl, hi2, hm2, q2⟩
  have HB2 := hid (bel_then HB1.out HB1.out.size q2)
  have HI2 := hid hi2
  have HM2 := hid hm2
  rw [HC.out]
  clear hi2 hm2 q2 HA
  go_wp2_with fail
  refine (HR.out w2 HB2.out).mono ?_
  rintro e w3 ⟨u3, o3, rfl, hi3, hm3, q3⟩
  have HB3 := hid (bel_then HB2.out HB2.out.size q3)
  have HSM := hid (same_any u2 u3 o2 o3 c w3 (HI2.out.kept q3) hi3 (ansA_fit HM2.out) (ansA_fit hm3))
  rw [HM2.out, hm3, decide_eq_true rfl] at HSM
  rw [HC.out]
  clear hi3 hm3 q3 HR HI2 HM2
  go_wp2_with fail
  refine HSM.out.mono ?_
  rintro e w4 ⟨rfl, n4, q4⟩
  have HB4 := hid (bel_drewN HB3.out n4)
  rw [← q4] at HB4
  clear q4 HSM
  go_wp2_with fail
  refine (HM.out w4 HB4.out).mono ?_
  rintro e w5 ⟨rfl, q5⟩
  have HB5 := hid (bel_then HB4.out HB4.out.size q5)
  clear q5 HM
  go_wp2_with fail
  refine (HN.out w5 HB5.out).mono ?_
  rintro e w6 ⟨rfl, q6⟩
  have HB6 := HB5
  rw [← q6] at HB6
  clear q6 HN
  go_wp2_with fail
  go_ret
  exact ⟨rfl, HB6.out⟩

set_option maxHeartbeats 4000000 in
set_option maxRecDepth 100000 in
theorem diffs8_any (va vb : Value) (da db : List Fx) (w : World) (ha : IsXs w va da) (hb : IsXs w vb db) (hfa : FitX da) (hfb : FitX db) (hp : GoodAt w) :
    Calls Tryz.prog 4 #[va, vb] w fun e w' => e = .returned (.bool true) ∧ Below w.heap.size w w' := by
  have HF := hid (hfixed_any w hp)
  have HD := hid (fun W (hW : Below w.heap.size w W) => pdiff_any va vb da db W (ha.kept hW) (hb.kept hW) hfa hfb (hp.on hW))
  have HE := hid (fun W (hW : Below w.heap.size w W) => rdiff_any va vb da db W (ha.kept hW) (hb.kept hW) hfa hfb)
  obtain ⟨A, hA⟩ : ∃ A, da.map Fx.fld = A := ⟨_, rfl⟩
  obtain ⟨B, hB⟩ : ∃ B, db.map Fx.fld = B := ⟨_, rfl⟩
  have HAP := hid (fun W u l (hW : Below w.heap.size w W) (hu : KE.Is W u l) (hl : FitE l) => papply_any va u da l W (ha.kept hW) hfa hu hl (hp.on hW))
  have HVB := hid hb
  have HFB := hid hfb
  have HBB := hid hB
  rw [hA] at HD HE HAP
  rw [hB] at HD HE
  have hal : (ansDf A B).length ≤ maxLen := by
    unfold ansDf
    split
    · rename_i h
      have := (codeDf_zero h).2.2
      unfold maxLen; omega
    · exact Nat.zero_le _
  have HAL := hid hal
  clear ha hb hfa hfb hA hB hal hp
  obtain ⟨c, hc⟩ : ∃ c, codeDf A B = c := ⟨_, rfl⟩
  have HC := hid hc
  have hcc := int_neE c
  go_enter Tryz.func4, Tryz.ntmps4
  go_wp2_with fail
  refine HF.out.mono ?_
  rintro e w1 ⟨rfl, q1⟩
  have HB1 := hid q1
  clear q1 HF
  go_wp2_with fail
  refine (HD.out w1 HB1.out).mono ?_
  rintro e w2 ⟨u2, rfl, ho2, q2⟩
  have HB2 := hid (bel_then HB1.out HB1.out.size q2)
  have HO2 := hid ho2
  rw [hc]
  clear ho2 q2 HD
  go_wp2_with fail
  refine (HE.out w2 HB2.out).mono ?_
  rintro e w3 ⟨u3, rfl, ho3, q3⟩
  have HB3 := hid (bel_then HB2.out HB2.out.size q3)
  have hi2 := KE.is_kept (Kind.own_is HO2.out) q3
  have HI2 := hid hi2
  have HSM := hid (rsameE_any u2 u3 _ _ w3 hi2 (Kind.own_is ho3) HAL.out)
  rw [decide_eq_true rfl] at HSM
  rw [hc]
  clear ho3 q3 HE HO2 hi2
  go_wp2_with fail
  refine HSM.out.mono ?_
  rintro e w4 ⟨rfl, n4, q4⟩
  have HB4 := hid (bel_drewN HB3.out n4)
  rw [← q4] at HB4
  have HI4 : Hid (KE.Is w4 u2 (ansDf A B)) := by rw [q4]; exact HI2.out
  clear q4 HSM HI2
  by_cases h0 : c = 0
  · subst h0
    have hap := diff_applies hc
    have e1 : ansDf A B = diffE A B := by unfold ansDf; rw [if_pos hc]
    have hfl : FitE (ansDf A B) := by
      rw [e1]
      exact mayE_fit (codeA_zero hap.1).2.1
    have HA4 := hid (HAP.out w4 u2 _ HB4.out HI4.out hfl)
    rw [e1] at HA4
    have HP1 := hid hap.1
    have HP2 := hid hap.2
    clear hap e1 hfl hc
    go_wp2_with fail
    refine HA4.out.mono ?_
    rintro e w5 ⟨u5, o5, rfl, hi5, hm5, q5⟩
    have HB5 := hid (bel_then HB4.out HB4.out.size q5)
    have HSF := hid (sameF_any u5 vb o5 db w5 hi5 (HVB.out.kept HB5.out) (ansA_fit hm5) HFB.out)
    rw [hm5, HBB.out, HP2.out, decide_eq_true rfl] at HSF
    rw [HP1.out]
    clear hi5 hm5 q5 HA4
    go_wp2_with fail
    refine HSF.out.mono ?_
    rintro e w6 ⟨rfl, n6, q6⟩
    have HB6 := hid (bel_drewN HB5.out n6)
    rw [← q6] at HB6
    clear q6
    go_wp2_with fail
    go_ret
    exact ⟨rfl, HB6.out⟩
  · have hne : (c != 0) = true := by rw [bne_iff_ne]; exact h0
    clear h0 hc
    go_wp2_with fail
    go_ret
    exact ⟨rfl, HB4.out⟩

end Go.Proofs.YtelcongbnmfegaaGreatDoor

/-
  The walk of PatchPieces.
-/
namespace Go.Proofs.YtelcongbnmfegaaGreatDoor
open Go.RowKit

theorem at_dropE {w : World} {b off : Nat} {p : List Ed} (m : Nat) (h : KE.At w b off p) : KE.At w b (off + m * 3) (p.drop m) := fun i hi j u hu => by
  rw [List.length_drop] at hi
  rw [List.getElem_drop] at hu
  have := h (m + i) (by omega) j u hu
  have e : off + (m + i) * KE.k + j = off + m * 3 + i * KE.k + j := by rw [Nat.add_mul]; show off + (m * 3 + i * 3) + j = _; show _ = off + m * 3 + i * 3 + j; omega
  rwa [e] at this

theorem at_takeE {w : World} {b off : Nat} {p : List Ed} (m : Nat) (h : KE.At w b off p) : KE.At w b off (p.take m) := fun i hi j u hu => by
  rw [List.length_take] at hi
  rw [List.getElem_take] at hu
  exact h i (by omega) j u hu

theorem turn_atE (tt : Int) (n : Nat) (h0 : n ≠ 0) (h1 : n ≤ 9223372036854775807) : ∃ m : Nat, m < n ∧ wrap64 ((IntKind.u64.wrap tt).tmod (n : Int)) = (m : Int) := by
  have hU : 0 ≤ IntKind.u64.wrap tt := by simp [IntKind.wrap, IntKind.signed, IntKind.bits]; omega
  generalize IntKind.u64.wrap tt = U at hU
  rw [Int.tmod_eq_emod_of_nonneg hU]
  have h2 := Int.emod_nonneg U (show (n : Int) ≠ 0 by omega)
  have h3 := Int.emod_lt_of_pos U (show (0 : Int) < n by omega)
  generalize U % (n : Int) = x at h2 h3
  refine ⟨x.toNat, by omega, ?_⟩
  have e : ((x.toNat : Nat) : Int) = x := by omega
  rw [e]
  simp [wrap64]
  omega

theorem fitE_take {l : List Ed} (h : FitE l) (n : Nat) : FitE (l.take n) := ⟨by have := h.1; rw [List.length_take]; omega, fun x hx => h.2 x (List.mem_of_mem_take hx)⟩
theorem fitE_drop {l : List Ed} (h : FitE l) (n : Nat) : FitE (l.drop n) := ⟨by have := h.1; rw [List.length_drop]; omega, fun x hx => h.2 x (List.mem_of_mem_drop hx)⟩

/-- What PatchPieces says of its three answers. -/
theorem pieces_say {v : List Fld} {l : List Ed} (n : Nat) (h1 : codeA v (l.take n) = 0) :
    (codeA v l = 0 → codeA (ansA v (l.take n)) (l.drop n) = 0 ∧ ansA (ansA v (l.take n)) (l.drop n) = ansA v l) ∧ (codeA v l ≠ 0 → l.length ≤ 16 → codeA (ansA v (l.take n)) (l.drop n) ≠ 0) := by
  have e := List.take_append_drop n l
  refine ⟨fun h => ?_, fun h hl => ?_⟩
  · have := pieces_yes (b := l.drop n) h1 (by rw [e]; exact h)
    rw [e] at this
    exact this
  · exact pieces_no h1 (by rw [e]; exact h) (by rw [e]; exact hl)

set_option maxHeartbeats 8000000 in
set_option maxRecDepth 100000 in
/-- PatchPieces behind the choice of its cut: n edits in the first piece. -/
theorem pieces8_any (v : Value) (q : Option Addr) (cap : Nat) (tt : Int) (d : List Fx) (l : List Ed) (w : World) (hv : IsXs w v d) (hf : FitX d) (hu : KE.Is w (.slice q l.length cap) l) (hfl : FitE l) (hcap : l.length ≤ cap) (hmax : l.length ≤ 10000000000000) (hp : GoodAt w) :
    Calls Tryz.prog 7 #[v, .slice q l.length cap, .int .i64 tt] w fun e w' => e = .returned (.bool true) ∧ Below w.heap.size w w' := by
  have HF := hid (hfixed_any w hp)
  have HAL := hid (fun W (hW : Below w.heap.size w W) => papply_any v (.slice q l.length cap) d l W (hv.kept hW) hf (KE.is_kept hu hW) hfl (hp.on hW))
  have HAU := hid (fun W u k (hW : Below w.heap.size w W) (hk : KE.Is W u k) (hf2 : FitE k) => papply_any v u d k W (hv.kept hW) hf hk hf2 (hp.on hW))
  have HFL := hid hfl
  have HGD := hid (fun W (hW : Below w.heap.size w W) => hp.on hW)
  obtain ⟨q', cap', he, hd⟩ := hu
  have hq : q' = q := by cases he; rfl
  subst hq
  have HD := hid hd
  obtain ⟨V, hV⟩ : ∃ V, d.map Fx.fld = V := ⟨_, rfl⟩
  rw [hV] at HAL HAU
  clear hv hf hfl he hd hV hp
  go_enter Tryz.func7, Tryz.ntmps7
  go_wp2_with fail
  refine HF.out.mono ?_
  rintro e w1 ⟨rfl, q1⟩
  have HB1 := hid q1
  clear q1 HF
  go_upto_if 18 with fail
  go_cut [7] from 14 (fun vn wx => w1 = wx ∧ ∃ n : Nat, n ≤ l.length ∧ vn = .int .i64 n)
  case first =>
    by_cases h0 : 0 < l.length
    · have h0z : (0 : Int) < (l.length : Int) := by omega
      obtain ⟨m, hm, hmt⟩ := turn_atE tt (l.length + 1) (by omega) (by omega)
      have HMT := hid hmt
      have hml : m ≤ l.length := by omega
      clear hmt
      go_wp2_with fail
      go_meet
      case rel => exact ⟨rfl, m, hml, by have h := HMT.out; rw [Int.natCast_succ] at h; rw [h]⟩
    · have h0z : ¬ (0 : Int) < (l.length : Int) := by omega
      go_wp2_with fail
      go_meet
      case rel => exact ⟨rfl, 0, by omega, rfl⟩
  case rest =>
  obtain ⟨rfl, n, hn, rfl⟩ := hcut
  have hnz : (n : Int) ≤ (l.length : Int) := by omega
  have hn0 : (0 : Int) ≤ (n : Int) := by omega
  have hnc : (n : Int) ≤ (cap : Int) := by omega
  have HT : Hid (∀ W, Below w.heap.size w W → KE.Is W (.slice q' n cap) (l.take n)) := fun W hW => by
    refine ⟨q', cap, by rw [List.length_take, Nat.min_eq_left hn], ?_⟩
    rcases HD.out with h | ⟨b, off, hp, h⟩
    · exact Or.inl (by rw [h]; simp)
    · exact Or.inr ⟨b, off, hp, at_takeE n (Kind.at_kept h hW)⟩
  go_wp2_with fail
  refine (HAU.out w1 _ _ HB1.out (HT.out w1 HB1.out) (fitE_take HFL.out n)).mono ?_
  rintro e w2 ⟨u2, o2, rfl, hi2, hm2, q2⟩
  have HB2 := hid (bel_then HB1.out HB1.out.size q2)
  have HI2 := hid hi2
  have HM2 := hid hm2
  obtain ⟨c1, hc1⟩ : ∃ c, codeA V (l.take n) = c := ⟨_, rfl⟩
  rw [hc1]
  have HC1 := hid hc1
  clear hi2 hm2 q2 hc1 HT
  go_wp2_with fail
  refine (HAL.out w2 HB2.out).mono ?_
  rintro e w3 ⟨u3, o3, rfl, hi3, hm3, q3⟩
  have HB3 := hid (bel_then HB2.out HB2.out.size q3)
  have HI3 := hid hi3
  have HM3 := hid hm3
  have HI23 := hid (HI2.out.kept q3)
  obtain ⟨c2, hc2⟩ : ∃ c, codeA V l = c := ⟨_, rfl⟩
  rw [hc2]
  have HC2 := hid hc2
  clear hi3 hm3 q3 hc2 HAL HI2
  by_cases h0 : c1 = 0
  · subst h0
    obtain ⟨say1, say2⟩ := pieces_say (v := V) (l := l) n HC1.out
    have HS1 := hid say1
    have HS2 := hid say2
    clear say1 say2
    have HEND : Hid (∀ U, KE.Is w3 U (l.drop n) → Calls Tryz.prog 10 #[u2, U] w3 fun e w' => ApPost w3 (ansA V (l.take n)) (l.drop n) e w') := fun U hU => by
      have := papply_any u2 U o2 (l.drop n) w3 HI23.out (ansA_fit HM2.out) hU (fitE_drop HFL.out n) (HGD.out w3 HB3.out)
      rw [HM2.out] at this
      exact this
    have HDR : Hid (∀ p5 c5, (l.length = n ∨ ∃ b off, q' = some ⟨b, off, none⟩ ∧ p5 = some ⟨b, off + n * 3, none⟩) → KE.Is w3 (.slice p5 (l.length - n) c5) (l.drop n)) := fun p5 c5 h5 => by
      refine ⟨p5, c5, by rw [List.length_drop], ?_⟩
      rcases h5 with h | ⟨b, off, hq5, hp5⟩
      · exact Or.inl (List.drop_eq_nil_iff.2 (by omega))
      · rcases HD.out with h | ⟨b2, off2, hp, h⟩
        · exact Or.inl (by rw [h]; simp)
        · rw [hq5] at hp
          cases hp
          exact Or.inr ⟨b, off + n * 3, hp5, at_dropE n (Kind.at_kept h HB3.out)⟩
    have HNE : Hid (l ≠ [] → ∃ b off, q' = some ⟨b, off, none⟩) := fun h => by
      rcases HD.out with k | ⟨b2, off2, hp, _⟩
      · exact absurd k h
      · exact ⟨b2, off2, hp⟩
    by_cases hcn : cap = n
    · have hU := HEND.out _ (HDR.out q' 0 (Or.inl (by omega)))
      rw [show l.length - n = 0 by omega] at hU
      have HU := hid hU
      clear hU HEND HDR HNE
      subst hcn
      go_wp2_with fail
      refine HU.out.mono ?_
      rintro e w4 ⟨u4, o4, rfl, hi4, hm4, q4⟩
      have HB4 := hid (bel_then HB3.out HB3.out.size q4)
      obtain ⟨c3, hc3⟩ : ∃ c, codeA (ansA V (l.take cap)) (l.drop cap) = c := ⟨_, rfl⟩
      rw [hc3]
      by_cases h2 : c2 = 0
      · subst h2
        obtain ⟨e1, e2⟩ := HS1.out HC2.out
        rw [hc3] at e1
        subst e1
        have HSF := hid (sameF_any u4 u3 o4 o3 w4 hi4 (HI3.out.kept q4) (ansA_fit hm4) (ansA_fit HM3.out))
        rw [hm4, HM3.out, e2, decide_eq_true rfl] at HSF
        clear hi4 hm4 q4 hc3 e2
        go_wp2_with fail
        refine HSF.out.mono ?_
        rintro e w5 ⟨rfl, n5, q5⟩
        have HB5 := hid (bel_drewN HB4.out n5)
        rw [← q5] at HB5
        clear q5
        go_wp2_with fail
        go_ret
        exact ⟨rfl, HB5.out⟩
      · have f1 : (c2 == 0) = false := beq_eq_false_iff_ne.2 h2
        have f2 : (c2 != 0) = true := by rw [bne_iff_ne]; exact h2
        by_cases h3 : c3 = 0
        · have hl16 : 16 < l.length := by
            refine Decidable.byContradiction fun hc => ?_
            exact HS2.out (by rw [HC2.out]; exact h2) (by omega) (by rw [hc3]; exact h3)
          have hl16z : (16 : Int) < (l.length : Int) := by omega
          have f3 : (c3 != 0) = false := by simp [h3]
          clear hi4 hm4 q4 hc3 h2 h3
          go_wp2_with fail
          go_ret
          exact ⟨rfl, HB4.out⟩
        · have f3 : (c3 != 0) = true := by rw [bne_iff_ne]; exact h3
          clear hi4 hm4 q4 hc3 h2 h3
          go_wp2_with fail
          go_ret
          exact ⟨rfl, HB4.out⟩
    · have hIs : KE.Is w3 (.slice (Option.map (fun x => x.add (n * 3)) q') (l.length - n) (cap - n)) (l.drop n) := by
        refine HDR.out _ _ ?_
        by_cases hl : l = []
        · left
          have : l.length = 0 := by rw [hl]; rfl
          omega
        · obtain ⟨b, off, hq⟩ := HNE.out hl
          exact Or.inr ⟨b, off, hq, by rw [hq, Option.map_some, addr_add]⟩
      have HU := hid (HEND.out _ hIs)
      clear hIs HEND HDR HNE
      go_wp2_with fail
      refine HU.out.mono ?_
      rintro e w4 ⟨u4, o4, rfl, hi4, hm4, q4⟩
      have HB4 := hid (bel_then HB3.out HB3.out.size q4)
      obtain ⟨c3, hc3⟩ : ∃ c, codeA (ansA V (l.take n)) (l.drop n) = c := ⟨_, rfl⟩
      rw [hc3]
      by_cases h2 : c2 = 0
      · subst h2
        obtain ⟨e1, e2⟩ := HS1.out HC2.out
        rw [hc3] at e1
        subst e1
        have HSF := hid (sameF_any u4 u3 o4 o3 w4 hi4 (HI3.out.kept q4) (ansA_fit hm4) (ansA_fit HM3.out))
        rw [hm4, HM3.out, e2, decide_eq_true rfl] at HSF
        clear hi4 hm4 q4 hc3 e2
        go_wp2_with fail
        refine HSF.out.mono ?_
        rintro e w5 ⟨rfl, n5, q5⟩
        have HB5 := hid (bel_drewN HB4.out n5)
        rw [← q5] at HB5
        clear q5
        go_wp2_with fail
        go_ret
        exact ⟨rfl, HB5.out⟩
      · have f1 : (c2 == 0) = false := beq_eq_false_iff_ne.2 h2
        have f2 : (c2 != 0) = true := by rw [bne_iff_ne]; exact h2
        by_cases h3 : c3 = 0
        · have hl16 : 16 < l.length := by
            refine Decidable.byContradiction fun hc => ?_
            exact HS2.out (by rw [HC2.out]; exact h2) (by omega) (by rw [hc3]; exact h3)
          have hl16z : (16 : Int) < (l.length : Int) := by omega
          have f3 : (c3 != 0) = false := by simp [h3]
          clear hi4 hm4 q4 hc3 h2 h3
          go_wp2_with fail
          go_ret
          exact ⟨rfl, HB4.out⟩
        · have f3 : (c3 != 0) = true := by rw [bne_iff_ne]; exact h3
          clear hi4 hm4 q4 hc3 h2 h3
          go_wp2_with fail
          go_ret
          exact ⟨rfl, HB4.out⟩
  · have hne : (c1 != 0) = true := by rw [bne_iff_ne]; exact h0
    clear h0
    go_wp2_with fail
    go_ret
    exact ⟨rfl, HB3.out⟩

end Go.Proofs.YtelcongbnmfegaaGreatDoor
