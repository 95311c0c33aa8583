/-
  Texts of this claim, one behind the other: Krf Krk Lr6 Dlw Dst Ls1 Ls2 Dfx Dfw Dsm Ls3 Lt1 Lt2 Lt3 Psn Kcl.
-/
import Derived.Test.YticfpkodoghnnaaGreatPc
import Derived.Test.YticfpkodoghnnaaGreatPe
import Derived.Test.YticfpkodoghnnaaGreatPd
import Derived.Lib.AppendZerosOnto
/-
  The contracts of the reference's class, Type, ID, Field and Temp.
-/
namespace Go.Proofs.YticfpkodoghnnaaGreat
open Go.RowKit

set_option maxHeartbeats 1000000 in
theorem rtype_any (s : ByteArray) (w : World) (hs : s.size ≤ maxLen) :
    Calls Tryz.prog 84 #[.string s] w fun e w' => e = .returned (.bool (typeB s.data.toList)) ∧ w' = w := by
  unfold maxLen at hs
  have HE := hid (spell_empty bigB letB s)
  have HG := hid (spell_long bigB letB s)
  have HF := hid (spell_first bigB letB s)
  have HA := hid (spell_at bigB letB s)
  have HT := hid (spell_true bigB letB s)
  have HB : Hid (typeB s.data.toList = spell bigB letB s.data.toList) := rfl
  go_enter Tryz.func84, Tryz.ntmps84
  go_wp2
  go_loop [3] (fun i => ∃ k : Nat, k ≤ s.size ∧ i = .int .i64 k ∧ (∀ j, j < k → (hj : j < s.size) → (j = 0 → bigB (s[j].toNat : Int) = true) ∧ (1 ≤ j → letB (s[j].toNat : Int) = true))) (fun i => s.size - (intOf i).toNat)
  case atStart => exact ⟨0, by omega, rfl, fun j h => by omega⟩
  case round =>
    obtain ⟨k, hk, rfl, hall⟩ := hrel
    have HL := hid hall
    clear hall
    by_cases hlt : k < s.size
    · rcases Nat.eq_zero_or_pos k with h0 | h0
      · have HZ := hid h0
        have hz : ((k : Int) == 0) = true := by rw [h0]; rfl
        clear h0
        rcases cls_cases (s[k].toNat : Int) with h | h | h | h | h
        all_goals
          have HC := hid h
          clear h
          go_wp2_with (go_at_call 109; refine (class_any _ _).mono ?_; rintro e w' ⟨rfl, rfl⟩; rw [HC.out.1])
          first
          | (go_ret; exact ⟨ret_bool (by rw [HB.out]; have hz' := HZ.out; subst hz'; exact (HF.out hlt (by first | exact HC.out.2.1 | exact HC.out.2.2.1 | exact HC.out.2.2.2.2.1 | exact HC.out.2.2.2.2.2)).symm), rfl⟩)
          | (go_round
             case rel =>
               refine ⟨k + 1, by omega, by go_num, fun j h1 hj => ?_⟩
               have hz' := HZ.out
               have hj0 : j = k := by omega
               subst hj0
               exact ⟨fun _ => (by first | exact HC.out.2.1 | exact HC.out.2.2.1 | exact HC.out.2.2.2.2.1 | exact HC.out.2.2.2.2.2), fun _ => by omega⟩
             case measure => simp [intOf]; omega)
      · have HZ := hid h0
        have hz : ((k : Int) == 0) = false := by rw [beq_eq_false_iff_ne]; omega
        clear h0
        rcases cls_cases (s[k].toNat : Int) with h | h | h | h | h
        all_goals
          have HC := hid h
          clear h
          go_wp2_with (go_at_call 109; refine (class_any _ _).mono ?_; rintro e w' ⟨rfl, rfl⟩; rw [HC.out.1])
          first
          | (go_ret; exact ⟨ret_bool (by rw [HB.out]; exact (HA.out k HZ.out hlt (by first | exact HC.out.2.2.2.1 | exact HC.out.2.2.2.2.1 | exact HC.out.2.2.2.2.2)).symm), rfl⟩)
          | (go_round
             case rel =>
               refine ⟨k + 1, by omega, by go_num, fun j h1 hj => ?_⟩
               by_cases hjk : j = k
               · subst hjk
                 exact ⟨fun e => by have := HZ.out; omega, fun _ => (by first | exact HC.out.2.2.2.1 | exact HC.out.2.2.2.2.1 | exact HC.out.2.2.2.2.2)⟩
               · exact HL.out j (by omega) hj
             case measure => simp [intOf]; omega)
    · have hks : k = s.size := by omega
      rcases Nat.eq_zero_or_pos s.size with hz | hz
      · have hn : ¬ (0 : Int) < (s.size : Int) := by omega
        have HZ := hid hz
        clear hz hks
        go_wp2_with fail
        go_ret
        exact ⟨ret_bool (by rw [HB.out]; exact (HE.out HZ.out).symm), rfl⟩
      · have hn : (0 : Int) < (s.size : Int) := by omega
        by_cases hm : s.size ≤ 32
        · have hm' : (s.size : Int) ≤ 32 := by omega
          have HK := hid hks
          clear hks
          go_wp2_with fail
          go_ret
          refine ⟨ret_bool (by rw [HB.out]; exact (HT.out hz hm ((HL.out 0 (by have := HK.out; omega) hz).1 rfl) (fun j h1 hj => (HL.out j (by have := HK.out; omega) hj).2 h1)).symm), rfl⟩
        · have hm' : ¬ (s.size : Int) ≤ 32 := by omega
          clear hks
          go_wp2_with fail
          go_ret
          exact ⟨ret_bool (by rw [HB.out]; exact (HG.out (by omega)).symm), rfl⟩

set_option maxHeartbeats 1000000 in
theorem riden_any (s : ByteArray) (w : World) (hs : s.size ≤ maxLen) :
    Calls Tryz.prog 85 #[.string s] w fun e w' => e = .returned (.bool (idenB s.data.toList)) ∧ w' = w := by
  unfold maxLen at hs
  have HE := hid (spell_empty idB idB s)
  have HG := hid (spell_long idB idB s)
  have HF := hid (spell_first idB idB s)
  have HA := hid (spell_at idB idB s)
  have HT := hid (spell_true idB idB s)
  have HB : Hid (idenB s.data.toList = spell idB idB s.data.toList) := rfl
  go_enter Tryz.func85, Tryz.ntmps85
  go_wp2
  go_loop [3] (fun i => ∃ k : Nat, k ≤ s.size ∧ i = .int .i64 k ∧ (∀ j, j < k → (hj : j < s.size) → (j = 0 → idB (s[j].toNat : Int) = true) ∧ (1 ≤ j → idB (s[j].toNat : Int) = true))) (fun i => s.size - (intOf i).toNat)
  case atStart => exact ⟨0, by omega, rfl, fun j h => by omega⟩
  case round =>
    obtain ⟨k, hk, rfl, hall⟩ := hrel
    have HL := hid hall
    clear hall
    by_cases hlt : k < s.size
    · rcases Nat.eq_zero_or_pos k with h0 | h0
      · have HZ := hid h0
        have hz : ((k : Int) == 0) = true := by rw [h0]; rfl
        clear h0
        rcases cls_cases (s[k].toNat : Int) with h | h | h | h | h
        all_goals
          have HC := hid h
          clear h
          go_wp2_with (go_at_call 109; refine (class_any _ _).mono ?_; rintro e w' ⟨rfl, rfl⟩; rw [HC.out.1])
          first
          | (go_ret; exact ⟨ret_bool (by rw [HB.out]; have hz' := HZ.out; subst hz'; exact (HF.out hlt (by first | exact HC.out.2.1 | exact HC.out.2.2.1 | exact HC.out.2.2.2.2.1 | exact HC.out.2.2.2.2.2)).symm), rfl⟩)
          | (go_round
             case rel =>
               refine ⟨k + 1, by omega, by go_num, fun j h1 hj => ?_⟩
               have hz' := HZ.out
               have hj0 : j = k := by omega
               subst hj0
               exact ⟨fun _ => (by first | exact HC.out.2.1 | exact HC.out.2.2.1 | exact HC.out.2.2.2.2.1 | exact HC.out.2.2.2.2.2), fun _ => by omega⟩
             case measure => simp [intOf]; omega)
      · have HZ := hid h0
        have hz : ((k : Int) == 0) = false := by rw [beq_eq_false_iff_ne]; omega
        clear h0
        rcases cls_cases (s[k].toNat : Int) with h | h | h | h | h
        all_goals
          have HC := hid h
          clear h
          go_wp2_with (go_at_call 109; refine (class_any _ _).mono ?_; rintro e w' ⟨rfl, rfl⟩; rw [HC.out.1])
          first
          | (go_ret; exact ⟨ret_bool (by rw [HB.out]; exact (HA.out k HZ.out hlt (by first | exact HC.out.2.2.2.1 | exact HC.out.2.2.2.2.1 | exact HC.out.2.2.2.2.2)).symm), rfl⟩)
          | (go_round
             case rel =>
               refine ⟨k + 1, by omega, by go_num, fun j h1 hj => ?_⟩
               by_cases hjk : j = k
               · subst hjk
                 exact ⟨fun e => by have := HZ.out; omega, fun _ => (by first | exact HC.out.2.2.2.1 | exact HC.out.2.2.2.2.1 | exact HC.out.2.2.2.2.2)⟩
               · exact HL.out j (by omega) hj
             case measure => simp [intOf]; omega)
    · have hks : k = s.size := by omega
      rcases Nat.eq_zero_or_pos s.size with hz | hz
      · have hn : ¬ (0 : Int) < (s.size : Int) := by omega
        have HZ := hid hz
        clear hz hks
        go_wp2_with fail
        go_ret
        exact ⟨ret_bool (by rw [HB.out]; exact (HE.out HZ.out).symm), rfl⟩
      · have hn : (0 : Int) < (s.size : Int) := by omega
        by_cases hm : s.size ≤ 32
        · have hm' : (s.size : Int) ≤ 32 := by omega
          have HK := hid hks
          clear hks
          go_wp2_with fail
          go_ret
          refine ⟨ret_bool (by rw [HB.out]; exact (HT.out hz hm ((HL.out 0 (by have := HK.out; omega) hz).1 rfl) (fun j h1 hj => (HL.out j (by have := HK.out; omega) hj).2 h1)).symm), rfl⟩
        · have hm' : ¬ (s.size : Int) ≤ 32 := by omega
          clear hks
          go_wp2_with fail
          go_ret
          exact ⟨ret_bool (by rw [HB.out]; exact (HG.out (by omega)).symm), rfl⟩

end Go.Proofs.YticfpkodoghnnaaGreat

/-
  The contracts of the reference's Key and Print.
-/
namespace Go.Proofs.YticfpkodoghnnaaGreat
open Go.RowKit

set_option maxHeartbeats 400000 in
theorem rkey_any (a b : ByteArray) (w : World) (ha : a.size ≤ maxLen) (hb : b.size ≤ maxLen) :
    Calls Tryz.prog 58 #[.agg #[.string a, .string b]] w fun e w' => e = .returned (.bool (keyB a b)) ∧ Below w.heap.size w w' := by
  have HK : Hid (keyB a b = (typeB a.data.toList && idenB b.data.toList)) := rfl
  cases ht : typeB a.data.toList
  all_goals
    go_enter Tryz.func58, Tryz.ntmps58
    go_wp2_with (first | (go_at_call 84; refine (rtype_any _ _ ha).mono ?_; rintro e w' ⟨rfl, rfl⟩) | (go_at_call 85; refine (riden_any _ _ hb).mono ?_; rintro e w' ⟨rfl, rfl⟩))
    go_ret
    exact ⟨ret_bool (by rw [HK.out, ht]; rfl), (Below.refl _ _).alloc (Nat.le_refl _) _⟩

end Go.Proofs.YticfpkodoghnnaaGreat

/-
  The document's directory (stage 14; folioref07.Dir): Put.
-/
namespace Go.Proofs.YticfpkodoghnnaaGreat
open Go.RowKit

theorem Tryz.infoRw14 : (Tryz.prog.info? 110).map (fun i => (i.zero, i.size, i.bytes)) = some (some (.agg #[.string ⟨#[]⟩, .string ⟨#[]⟩, .pointer none]), 3, 40) := by kernel_rfl

/-- What Put answers and leaves. -/
def RPutPost (n0 : Nat) (W : World) (h : Nat) (R : List Rr) (vs : Value) (nr : Nat) (D' : List RowD) (e : Ending) (w' : World) : Prop :=
  (∃ a b, e = .returned (.tuple #[.int .i64 a, .int .i64 b])) ∧ RPut n0 W h R vs nr D' w'

theorem drop_cons_map {R : List Rr} {i : Nat} (hi : i < R.length) : (R.drop i).map Rr.rw = (R[i]).rw :: (R.drop (i + 1)).map Rr.rw := by
  rw [List.drop_eq_getElem_cons hi, List.map_cons]
theorem take_snoc_map {R : List Rr} {i : Nat} (hi : i < R.length) : (R.take (i + 1)).map Rr.rw = (R.take i).map Rr.rw ++ [(R[i]).rw] := by
  rw [List.take_succ_eq_append_getElem hi, List.map_append]
  rfl

set_option linter.unusedSimpArgs false in
set_option maxHeartbeats 16000000 in
set_option maxRecDepth 100000 in
theorem rput_any {n0 : Nat} {W : World} {h : Nat} {R : List Rr} {vs : Value} (x : RefD n0 W h R vs) (hn0 : n0 ≤ W.heap.size) {nr : Nat} (hl : R.length ≤ nr) (hd : ∀ r ∈ R, r.d.length ≤ nr) (hn : nr < 2400000000000) (k : Ky) (hk : FitK k) (stamp tick : Int) (live : Bool) (v : Value) (e : List Fx) (val : List Fld) (hv : IsXs W v e) (hf : FitX e) (hval : e.map Fx.fld = val) (h0 : 0 ≤ stamp) :
    Calls Tryz.prog 30 #[.pointer (some ⟨h, 0, none⟩), .agg #[.string k.1, .string k.2], .int .u64 stamp, .int .i64 tick, .bool live, v] W fun r w' => RPutPost n0 W h R vs nr (putD (R.map Rr.row) k stamp tick live val) r w' := by
  obtain ⟨i0, hi0, hz0, hz1, hz2⟩ := info_parts Tryz.infoRw14
  have HI0 := hid hi0
  clear hi0
  obtain ⟨p, cap, hvs⟩ := Kind.own_shape x.row
  rw [List.length_map] at hvs
  subst hvs
  obtain ⟨vp, vc, rfl⟩ : ∃ p c, v = .slice p e.length c := by
    obtain ⟨p, c, he, _⟩ := hv
    exact ⟨p, c, he⟩
  obtain ⟨V, hV⟩ : ∃ V, W.alloc (.cells #[.string k.1, .string k.2] 31) = V := ⟨_, rfl⟩
  obtain ⟨M, hM⟩ : ∃ M, W.heap.size = M := ⟨_, rfl⟩
  have hbV : Below W.heap.size W V := by rw [← hV]; exact (Below.refl _ _).alloc (Nat.le_refl _) _
  have hVo : V.heap[M]? = some (.cells #[.string k.1, .string k.2] 31 (0, 0)) := by rw [← hV, ← hM]; exact heap_alloc_new W _
  have hMl : M < V.heap.size := (Array.getElem?_eq_some_iff.1 hVo).1
  have hhl : h < M := by rw [← hM]; exact (Array.getElem?_eq_some_iff.1 x.obj).1
  have HBX : Hid (∀ W' : World, W'.heap[M]? = V.heap[M]? → W'.cell? ⟨M, 0, none⟩ = some (.string k.1) ∧ W'.cell? ⟨M, 1, none⟩ = some (.string k.2)) := fun W' hW => by
    have e1 := hW.trans hVo
    exact ⟨by rw [Lib.cell_of_heap e1]; rfl, by rw [Lib.cell_of_heap e1]; rfl⟩
  have HKEY := hid (rkey_any k.1 k.2 V hk.1 hk.2)
  have HX := hid x
  have HD := hid hd
  have HV := hid hbV
  have HRL : Hid (R.length ≤ 2400000000000) := by show _ ≤ _; omega
  have HVI : Hid (∀ W', Below W.heap.size W W' → IsXs W' (.slice vp e.length vc) e) := fun W' hW => hv.kept hW
  have HF := hid hf
  have HVAL := hid hval
  obtain ⟨c0, c1⟩ := HBX.out V rfl
  clear x hd hbV hVo hv hf hval hk
  obtain ⟨ka, kb⟩ := k
  simp only at *
  have HBAD : Hid (∀ w', keyB ka kb = false → Below W.heap.size W w' → RPut n0 W h R (.slice p R.length cap) nr (putD (R.map Rr.row) (ka, kb) stamp tick live val) w') := fun w' hkb hb => by
    have e1 : putD (R.map Rr.row) (ka, kb) stamp tick live val = R.map Rr.row := by
      unfold putD codeD
      rw [if_neg (show ¬ keyB ka kb = true by rw [hkb]; simp), if_neg (by decide)]
    rw [e1]
    exact rput_same HX.out hl HD.out hb
  go_enter Tryz.func30, Tryz.ntmps30
  go_wp2_with fail
  try rw [hV]
  try rw [hM]
  clear hV
  refine HKEY.out.mono ?_
  rintro e1 w1 ⟨rfl, hb1⟩
  have HB1 := hid hb1
  clear c0 c1 hb1 HKEY
  cases hkb : keyB ka kb with
  | false =>
    have HP := hid (HBAD.out w1 hkb (bel_then HV.out HV.out.size HB1.out))
    clear HBAD hkb
    go_wp2_with fail
    go_ret2
    exact ⟨⟨_, _, rfl⟩, HP.out⟩
  | true =>
    have HKB := hid hkb
    clear HBAD hkb
    have hbW1 : Below W.heap.size W w1 := bel_then HV.out HV.out.size HB1.out
    have HOF := hid (rof_any (HX.out.on hbW1) HRL.out (ka, kb))
    obtain ⟨c0, c1⟩ := HBX.out w1 (HB1.out.block M hMl)
    clear hbW1
    go_wp2_with fail
    clear c0 c1
    refine HOF.out.mono ?_
    rintro e2 w2 ⟨hor, hb2⟩
    have hbV2 : Below V.heap.size V w2 := bel_then HB1.out HB1.out.size hb2
    have hbW2 : Below W.heap.size W w2 := bel_then HV.out HV.out.size hbV2
    have HBV2 := hid hbV2
    have HB2 := hid hbW2
    clear HOF
    rcases hor with ⟨r, hr, hrk, rfl⟩ | ⟨hno, g, rfl, hgW, hgo⟩
    · have hx2 := HX.out.on hbW2
      obtain ⟨q1, q2, q3, q4⟩ := hx2.each r hr
      have hnum := nums_last (l := r.d.map Vx.ver) q1.nums
      rw [List.length_map] at hnum
      have hdr := HD.out r hr
      have HADD := hid (radd_any q1.prg hnum stamp tick live (.slice vp e.length vc) e val (HVI.out w2 hbW2) HF.out HVAL.out h0 (by rw [hnum]; omega))
      have hrl : r.d.length ≠ 0 := fun e => q2 (List.length_eq_zero_iff.1 e)
      have HFIN : Hid (∀ w3, TurnC n0 w2 r.g r.d r.vs (putL (r.d.map Vx.ver) stamp tick live val) w3 → Gn w2 w3 r.g → RPut n0 W h R (.slice p R.length cap) nr (putD (R.map Rr.row) (ka, kb) stamp tick live val) w3) := fun w3 t hg => by
        rw [← hrk]
        exact rput_found HX.out hl HD.out HB2.out hr t hg
      have HPN : Hid (putC (r.d.map Vx.ver) stamp live val = 0 → putN (r.d.map Vx.ver) stamp live val = (r.d.length : Int) + 1) := fun hc => by
        unfold putN
        rw [if_pos hc, hnum]
      clear hx2 q1 q2 q3 q4 hnum hbW2 hbV2 hb2
      go_wp2_with fail
      refine HADD.out.mono ?_
      rintro e3 w3 ⟨rfl, t3, g3⟩
      have HP := hid (HFIN.out w3 t3 g3)
      clear t3 g3 HADD HFIN
      generalize putN (r.d.map Vx.ver) stamp live val = N3 at *
      obtain ⟨C3, hC3⟩ : ∃ C3, putC (r.d.map Vx.ver) stamp live val = C3 := ⟨_, rfl⟩
      rw [hC3] at HPN ⊢
      clear hC3
      by_cases hc : C3 = 0
      · subst hc
        have hN3 := HPN.out rfl
        have hN4 : (N3 == 1) = false := by rw [beq_eq_false_iff_ne]; omega
        clear hN3 HPN
        go_wp2_with fail
        go_ret2
        exact ⟨⟨_, _, rfl⟩, HP.out⟩
      · have hc2 : (C3 == 0) = false := by rw [beq_eq_false_iff_ne]; exact hc
        clear HPN
        go_wp2_with fail
        go_ret2
        exact ⟨⟨_, _, rfl⟩, HP.out⟩
    · have hgW' : W.heap.size ≤ g := Nat.le_trans (bel_then HV.out HV.out.size HB1.out).size hgW
      have r0 := rcx_new (Nat.le_trans hn0 hgW') hgo
      have HADD := hid (radd_any r0.prg (by rfl) stamp tick live (.slice vp e.length vc) e val (HVI.out w2 hbW2) HF.out HVAL.out h0 (by show (0 : Int) < _; omega))
      have HNO := hid hno
      have HGO := hid hgo
      have HPN : Hid (putC [] stamp live val = 0 → putN [] stamp live val = 1) := fun hc => by
        unfold putN
        rw [if_pos hc]
        rfl
      have HSAME : Hid (∀ w3, putC [] stamp live val ≠ 0 → TurnC n0 w2 g [] (.slice none 0 0) (putL [] stamp tick live val) w3 → RPut n0 W h R (.slice p R.length cap) nr (putD (R.map Rr.row) (ka, kb) stamp tick live val) w3) := fun w3 hc t => by
        have e1 : putD (R.map Rr.row) (ka, kb) stamp tick live val = R.map Rr.row := by
          unfold putD codeD
          rw [if_pos HKB.out, ofD_no HNO.out, if_neg hc]
        obtain ⟨d', vs', hC', hv', hblk, f⟩ := t
        rw [e1]
        refine rput_same HX.out hl HD.out (HB2.out.trans (f.below HB2.out.size fun k hk => ?_))
        rcases hk with hk | hk | ⟨_, hx, _⟩
        · rw [hk]; exact hgW'
        · cases hk
        · cases hx
      have hgw1 : V.heap.size ≤ g := Nat.le_trans HB1.out.size hgW
      clear r0 hbW2 hbV2 hb2 hno hgo hgW
      go_wp2_with fail
      refine HADD.out.mono ?_
      rintro e3 w3 ⟨rfl, t3, g3⟩
      have HT3 := hid t3
      have HG3 := hid g3
      have HSM := hid (HSAME.out w3)
      clear t3 g3 HADD HSAME
      simp only [List.map_nil] at *
      obtain ⟨N3, hN3⟩ : ∃ N3, putN [] stamp live val = N3 := ⟨_, rfl⟩
      rw [hN3] at HPN ⊢
      obtain ⟨C3, hC3⟩ : ∃ C3, putC [] stamp live val = C3 := ⟨_, rfl⟩
      rw [hC3] at HPN HSM ⊢
      have HC3 := hid hC3
      clear hN3 hC3
      by_cases hc : C3 = 0
      · subst hc
        obtain rfl := HPN.out rfl
        clear HPN HSM
        have hbW3 : Below W.heap.size W w3 ∧ w3.heap[M]? = V.heap[M]? := by
          obtain ⟨d', vs', hC', hv', hblk, f⟩ := HT3.out
          have hnil : ∀ k, BlkC g ([] : List Vx) (.slice none 0 0) k → k = g := fun k hk => by
            rcases hk with hk | hk | ⟨_, hx, _⟩
            · exact hk
            · cases hk
            · cases hx
          refine ⟨HB2.out.trans (f.below HB2.out.size fun k hk => by rw [hnil k hk]; exact hgW'), (f.block M (by have := HBV2.out.size; omega) fun hk => ?_).trans (HBV2.out.block M hMl)⟩
          have := hnil M hk
          omega
        have hx3 := HX.out.on hbW3.1
        have hMs3 : M < w3.heap.size := by
          have h1 := hbW3.1.size
          have h2 := hbW3.2
          rcases Nat.lt_or_ge M w3.heap.size with q | q
          · exact q
          · rw [Array.getElem?_eq_none q, Array.getElem?_eq_getElem hMl] at h2
            cases h2
        have HR3 : Hid (∀ W', Below w3.heap.size w3 W' → (W'.cell? ⟨h, 0, none⟩ = some (.slice p R.length cap) ∧ W'.frozen? ⟨h, 0, none⟩ = false ∧ W'.cell? ⟨M, 0, none⟩ = some (.string ka) ∧ W'.cell? ⟨M, 1, none⟩ = some (.string kb)) ∧ (∀ i (hi : i < R.length), ∃ b off, p = some ⟨b, off, none⟩ ∧ W'.cell? ⟨b, off + i * 3, none⟩ = some (.string (R[i]).a) ∧ W'.cell? ⟨b, off + i * 3 + 1, none⟩ = some (.string (R[i]).b) ∧ W'.cell? ⟨b, off + i * 3 + 2, none⟩ = some (.pointer (some ⟨(R[i]).g, 0, none⟩)))) := fun W' hW => by
          have hx := hx3.on hW
          obtain ⟨e1, e2⟩ := HBX.out W' ((hW.block M hMs3).trans hbW3.2)
          refine ⟨⟨hx.cell, Lib.frozen_of_heap hx.obj 0, e1, e2⟩, fun i hi => ?_⟩
          obtain ⟨p', c', he, hd⟩ := Kind.own_is hx.row
          injection he with e2 _ _
          rcases hd with hd | ⟨b, off, e3, hat⟩
          · have : R.length = 0 := by simpa using congrArg List.length hd
            omega
          · obtain ⟨q0, q1, q2⟩ := krw_at hat i (by simpa using hi)
            rw [List.getElem_map] at q0 q1 q2
            exact ⟨b, off, e2.trans e3, q0, q1, q2⟩
        have hcl : cutK (R.map Rr.key) (ka, kb) ≤ R.length := by have := cutK_le (R.map Rr.key) (ka, kb); rwa [List.length_map] at this
        have HLS : Hid (∀ i (hi : i < R.length), decide (Z.cmpI (R[i]).a (R[i]).b ka kb < 0) = decide (i < cutK (R.map Rr.key) (ka, kb))) := fun i hi => by
          have := less_cut HX.out.rise (ka, kb) i (by rw [List.length_map]; exact hi)
          rw [List.getElem_map] at this
          exact this
        have HFIN : Hid (∀ (w4 : World) (rv : Value), Below w3.heap.size w3 w4 → KRw.Own w3.heap.size w4 rv ((R.take (cutK (R.map Rr.key) (ka, kb))).map Rr.rw ++ ⟨ka, kb, g⟩ :: (R.drop (cutK (R.map Rr.key) (ka, kb))).map Rr.rw) → RPut n0 W h R (.slice p R.length cap) nr (putD (R.map Rr.row) (ka, kb) stamp tick live val) (w4.setCell ⟨h, 0, none⟩ rv)) := fun w4 rv hb4 ho => rput_new HX.out hn0 hl HD.out HB2.out HNO.out HKB.out hgW' HGO.out HC3.out HT3.out HG3.out hb4 ho
        have HZL := hid Z.zless_any
        generalize cutK (R.map Rr.key) (ka, kb) = C at *
        have hRn : R.length ≤ 2400000000000 := HRL.out
        clear hbW3 hx3 hMs3 HT3 HG3 HGO HNO HC3 HX HD HV HB1 HBV2 HB2 HBX HVI HF HVAL HKB HRL
        go_wp2_with fail
        go_loopg [17, 18] R.length (fun gg v17 v18 wr => ∃ (i : Nat) (L : List Rw) (rp : Option Addr) (rc : Nat), v17 = .slice rp L.length rc ∧ v18 = .int .i64 i ∧ i ≤ C ∧ R.length - i ≤ gg ∧ L.length ≤ i ∧ Hid (RowSt KRw w3.heap.size w3 (.slice rp L.length rc) L wr ∧ L = (R.take i).map Rr.rw))
        case atStart => exact ⟨0, [], none, 0, rfl, rfl, Nat.zero_le _, by omega, by simp, RowSt.nil KRw (Below.refl _ _) (Nat.le_refl _), by simp⟩
        case round =>
          obtain ⟨i, L, rp, rc, rfl, rfl, hiC, hgk, hLi, HS⟩ := hrel
          have hbw : Below w3.heap.size w3 wr := HS.out.1.bel
          obtain ⟨⟨c0, z0, c1, c2⟩, hat⟩ := HR3.out wr hbw
          have HBW := hid hbw
          clear hbw
          go_upto_region 8 with fail
          go_cut [58] from 40 to 70 (fun c wx => c = .bool (decide (i < C)) ∧ Hid (Below wr.heap.size wr wx))
          case first =>
            by_cases hlt : i < R.length
            · obtain ⟨hiz, i1⟩ := lt_num i R.length hlt
              obtain ⟨b, off, rfl, y0, y1, y2⟩ := hat i hlt
              have HLM := hid (HLS.out i hlt)
              have HY : Hid (∀ W', Below wr.heap.size wr W' → W'.cell? ⟨h, 0, none⟩ = some (.slice (some ⟨b, off, none⟩) R.length cap) ∧ W'.cell? ⟨b, off + i * 3, none⟩ = some (.string (R[i]).a) ∧ W'.cell? ⟨b, off + i * 3 + 1, none⟩ = some (.string (R[i]).b) ∧ W'.cell? ⟨M, 0, none⟩ = some (.string ka) ∧ W'.cell? ⟨M, 1, none⟩ = some (.string kb)) := fun W' hW => by
                obtain ⟨⟨z0, _, z1, z2⟩, z3⟩ := HR3.out W' (bel_then HBW.out HBW.out.size hW)
                obtain ⟨b', off', e, z4, z5, _⟩ := z3 i hlt
                injection e with e
                injection e with e1 e2 _
                subst e1 e2
                exact ⟨z0, z4, z5, z1, z2⟩
              have HZ := hid (HZL.out (R[i]).a (R[i]).b ka kb (wr.drewN 1))
              rw [HLM.out] at HZ
              clear hat HLM
              generalize (R[i]).a = ra at *
              generalize (R[i]).b = rb at *
              obtain ⟨BC, hBC⟩ : ∃ BC, decide (i < C) = BC := ⟨_, rfl⟩
              rw [hBC] at HZ
              have HBQ := hid hBC
              clear hBC
              refine wp_region_held_drew (S := fun w' => w'.cell? ⟨h, 0, none⟩ = some (.slice (some ⟨b, off, none⟩) R.length cap) ∧ w'.cell? ⟨b, off + i * 3, none⟩ = some (.string ra) ∧ w'.cell? ⟨b, off + i * 3 + 1, none⟩ = some (.string rb) ∧ w'.cell? ⟨M, 0, none⟩ = some (.string ka) ∧ w'.cell? ⟨M, 1, none⟩ = some (.string kb)) (by kernel_rfl) ⟨c0, y0, y1, c1, c2⟩ (fun hHeld => ?_)
              refine take_val (i := 0) (.int .i64 i) rfl (by kernel_rfl) (by kernel_rfl) (by kernel_rfl) (fun _ _ _ h => h) (by rfl) (fun w hSw => by go_simp) hHeld ?_
              simp only [Act.put, List.setIfInBounds_toArray, List.set_cons_zero, List.set_cons_succ]
              refine take_val (i := 1) (.pointer (some ⟨h, 0, none⟩)) rfl (by kernel_rfl) (by kernel_rfl) (by kernel_rfl) (fun _ _ _ h => h) (by rfl) (fun w hSw => by go_simp) hHeld ?_
              simp only [Act.put, List.setIfInBounds_toArray, List.set_cons_zero, List.set_cons_succ]
              refine take_val (i := 2) (.pointer (some ⟨h, 0, none⟩)) rfl (by kernel_rfl) (by kernel_rfl) (by kernel_rfl) (fun _ _ _ h => h) (by rfl) (fun w hSw => by go_simp) hHeld ?_
              simp only [Act.put, List.setIfInBounds_toArray, List.set_cons_zero, List.set_cons_succ]
              refine take_val (i := 3) (.pointer (some ⟨h, 0, none⟩)) rfl (by kernel_rfl) (by kernel_rfl) (by kernel_rfl) (fun _ _ _ h => h) (by rfl) (fun w hSw => by go_simp) hHeld ?_
              simp only [Act.put, List.setIfInBounds_toArray, List.set_cons_zero, List.set_cons_succ]
              refine take_val (i := 4) (.slice (some ⟨b, off, none⟩) R.length cap) rfl (by kernel_rfl) (by kernel_rfl) (by kernel_rfl) (fun _ _ _ h => h) (by rfl) (fun w hSw => by go_simp) hHeld ?_
              simp only [Act.put, List.setIfInBounds_toArray, List.set_cons_zero, List.set_cons_succ]
              refine take_val (i := 5) (.int .i64 R.length) rfl (by kernel_rfl) (by kernel_rfl) (by kernel_rfl) (fun _ _ _ h => h) (by rfl) (fun w hSw => by go_simp) hHeld ?_
              simp only [Act.put, List.setIfInBounds_toArray, List.set_cons_zero, List.set_cons_succ]
              refine take_val (i := 6) (.bool true) rfl (by kernel_rfl) (by kernel_rfl) (by kernel_rfl) (fun _ _ _ h => h) (by rfl) (fun w hSw => by go_simp) hHeld ?_
              simp only [Act.put, List.setIfInBounds_toArray, List.set_cons_zero, List.set_cons_succ]
              refine take_val (i := 7) (.bool true) rfl (by kernel_rfl) (by kernel_rfl) (by kernel_rfl) (fun _ _ _ h => h) (by rfl) (fun w hSw => by go_simp) hHeld ?_
              simp only [Act.put, List.setIfInBounds_toArray, List.set_cons_zero, List.set_cons_succ]
              refine take_val (i := 8) (.pointer (some ⟨h, 0, none⟩)) rfl (by kernel_rfl) (by kernel_rfl) (by kernel_rfl) (fun _ _ _ h => h) (by rfl) (fun w hSw => by go_simp) hHeld ?_
              simp only [Act.put, List.setIfInBounds_toArray, List.set_cons_zero, List.set_cons_succ]
              refine take_val (i := 9) (.pointer (some ⟨h, 0, none⟩)) rfl (by kernel_rfl) (by kernel_rfl) (by kernel_rfl) (fun _ _ _ h => h) (by rfl) (fun w hSw => by go_simp) hHeld ?_
              simp only [Act.put, List.setIfInBounds_toArray, List.set_cons_zero, List.set_cons_succ]
              refine take_val (i := 10) (.pointer (some ⟨h, 0, none⟩)) rfl (by kernel_rfl) (by kernel_rfl) (by kernel_rfl) (fun _ _ _ h => h) (by rfl) (fun w hSw => by go_simp) hHeld ?_
              simp only [Act.put, List.setIfInBounds_toArray, List.set_cons_zero, List.set_cons_succ]
              refine take_val (i := 11) (.slice (some ⟨b, off, none⟩) R.length cap) rfl (by kernel_rfl) (by kernel_rfl) (by kernel_rfl) (fun _ _ _ h => h) (by rfl) (fun w hSw => by go_simp) hHeld ?_
              simp only [Act.put, List.setIfInBounds_toArray, List.set_cons_zero, List.set_cons_succ]
              refine take_val (i := 12) (.int .i64 i) rfl (by kernel_rfl) (by kernel_rfl) (by kernel_rfl) (fun _ _ _ h => h) (by rfl) (fun w hSw => by go_simp) hHeld ?_
              simp only [Act.put, List.setIfInBounds_toArray, List.set_cons_zero, List.set_cons_succ]
              refine take_val (i := 13) (.pointer (some ⟨b, off + i * 3, none⟩)) rfl (by kernel_rfl) (by kernel_rfl) (by kernel_rfl) (fun _ _ _ h => h) (by rfl) (fun w hSw => by go_simp) hHeld ?_
              simp only [Act.put, List.setIfInBounds_toArray, List.set_cons_zero, List.set_cons_succ]
              refine take_val (i := 14) (.pointer (some ⟨b, off + i * 3, none⟩)) rfl (by kernel_rfl) (by kernel_rfl) (by kernel_rfl) (fun _ _ _ h => h) (by rfl) (fun w hSw => by go_simp) hHeld ?_
              simp only [Act.put, List.setIfInBounds_toArray, List.set_cons_zero, List.set_cons_succ]
              refine take_val (i := 15) (.agg #[.string ra, .string rb]) rfl (by kernel_rfl) (by kernel_rfl) (by kernel_rfl) (fun _ _ _ h => h) (by rfl) (fun w hSw => by go_simp) hHeld ?_
              simp only [Act.put, List.setIfInBounds_toArray, List.set_cons_zero, List.set_cons_succ]
              refine take_val (i := 16) (.agg #[.string ka, .string kb]) rfl (by kernel_rfl) (by kernel_rfl) (by kernel_rfl) (fun _ _ _ h => h) (by rfl) (fun w hSw => by go_simp) hHeld ?_
              simp only [Act.put, List.setIfInBounds_toArray, List.set_cons_zero, List.set_cons_succ]
              clear hHeld c0 c1 c2 y0 y1 y2
              refine wpAnyH_ready (rs := [17]) (by kernel_rfl) (by simp) ?_
              refine AllReadyH.cons (at_drop0 rfl) (fun K hK => ?_) AllReadyH.nil
              rw [if_pos (by rfl)]
              go_simp
              refine HZ.out.mono ?_
              rintro e4 w4 ⟨rfl, hb4⟩
              have HB4 := hid (bel_then (bel_drewN (Below.refl _ wr) 1) (Nat.le_refl _) hb4)
              have hS4 := HY.out w4 HB4.out
              clear hb4 HZ
              go_wp2_with fail
              refine hK.out _ _ hS4 (fun hHeld => ?_)
              clear hK K
              try simp only [Act.put, List.setIfInBounds_toArray, List.set_cons_zero, List.set_cons_succ]
              refine take_val (i := 18) (.bool BC) rfl (by kernel_rfl) (by kernel_rfl) (by kernel_rfl) (fun _ _ _ h => h) (by rfl) (fun w hSw => by go_simp) hHeld ?_
              simp only [Act.put, List.setIfInBounds_toArray, List.set_cons_zero, List.set_cons_succ]
              refine wpAnyH_done (by kernel_rfl) ?_ _
              clear hHeld hS4
              go_wp2_with fail
              go_meet
              exact ⟨by rw [HBQ.out], HB4.out⟩
            · have hiz := ge_num i R.length hlt
              have hBC : decide (i < C) = false := decide_eq_false (by omega)
              have HBQ := hid hBC
              clear hat hBC
              refine wp_region_held_drew (S := fun w' => w'.cell? ⟨h, 0, none⟩ = some (.slice p R.length cap)) (by kernel_rfl) c0 (fun hHeld => ?_)
              refine take_val (i := 0) (.int .i64 i) rfl (by kernel_rfl) (by kernel_rfl) (by kernel_rfl) (fun _ _ _ h => h) (by rfl) (fun w hSw => by go_simp) hHeld ?_
              simp only [Act.put, List.setIfInBounds_toArray, List.set_cons_zero, List.set_cons_succ]
              refine take_val (i := 1) (.pointer (some ⟨h, 0, none⟩)) rfl (by kernel_rfl) (by kernel_rfl) (by kernel_rfl) (fun _ _ _ h => h) (by rfl) (fun w hSw => by go_simp) hHeld ?_
              simp only [Act.put, List.setIfInBounds_toArray, List.set_cons_zero, List.set_cons_succ]
              refine take_val (i := 2) (.pointer (some ⟨h, 0, none⟩)) rfl (by kernel_rfl) (by kernel_rfl) (by kernel_rfl) (fun _ _ _ h => h) (by rfl) (fun w hSw => by go_simp) hHeld ?_
              simp only [Act.put, List.setIfInBounds_toArray, List.set_cons_zero, List.set_cons_succ]
              refine take_val (i := 3) (.pointer (some ⟨h, 0, none⟩)) rfl (by kernel_rfl) (by kernel_rfl) (by kernel_rfl) (fun _ _ _ h => h) (by rfl) (fun w hSw => by go_simp) hHeld ?_
              simp only [Act.put, List.setIfInBounds_toArray, List.set_cons_zero, List.set_cons_succ]
              refine take_val (i := 4) (.slice p R.length cap) rfl (by kernel_rfl) (by kernel_rfl) (by kernel_rfl) (fun _ _ _ h => h) (by rfl) (fun w hSw => by go_simp) hHeld ?_
              simp only [Act.put, List.setIfInBounds_toArray, List.set_cons_zero, List.set_cons_succ]
              refine take_val (i := 5) (.int .i64 R.length) rfl (by kernel_rfl) (by kernel_rfl) (by kernel_rfl) (fun _ _ _ h => h) (by rfl) (fun w hSw => by go_simp) hHeld ?_
              simp only [Act.put, List.setIfInBounds_toArray, List.set_cons_zero, List.set_cons_succ]
              refine take_val (i := 6) (.bool false) rfl (by kernel_rfl) (by kernel_rfl) (by kernel_rfl) (fun _ _ _ h => h) (by rfl) (fun w hSw => by go_simp) hHeld ?_
              simp only [Act.put, List.setIfInBounds_toArray, List.set_cons_zero, List.set_cons_succ]
              refine take_val (i := 7) (.bool false) rfl (by kernel_rfl) (by kernel_rfl) (by kernel_rfl) (fun _ _ _ h => h) (by rfl) (fun w hSw => by go_simp) hHeld ?_
              simp only [Act.put, List.setIfInBounds_toArray, List.set_cons_zero, List.set_cons_succ]
              refine take_not (i := 8) rfl (by kernel_rfl) (by kernel_rfl) (by kernel_rfl) (fun _ _ _ h => h) (by rfl) hHeld ?_
              simp only [Act.put, List.setIfInBounds_toArray, List.set_cons_zero, List.set_cons_succ]
              refine take_not (i := 9) rfl (by kernel_rfl) (by kernel_rfl) (by kernel_rfl) (fun _ _ _ h => h) (by rfl) hHeld ?_
              simp only [Act.put, List.setIfInBounds_toArray, List.set_cons_zero, List.set_cons_succ]
              refine take_not (i := 10) rfl (by kernel_rfl) (by kernel_rfl) (by kernel_rfl) (fun _ _ _ h => h) (by rfl) hHeld ?_
              simp only [Act.put, List.setIfInBounds_toArray, List.set_cons_zero, List.set_cons_succ]
              refine take_not (i := 11) rfl (by kernel_rfl) (by kernel_rfl) (by kernel_rfl) (fun _ _ _ h => h) (by rfl) hHeld ?_
              simp only [Act.put, List.setIfInBounds_toArray, List.set_cons_zero, List.set_cons_succ]
              refine take_not (i := 12) rfl (by kernel_rfl) (by kernel_rfl) (by kernel_rfl) (fun _ _ _ h => h) (by rfl) hHeld ?_
              simp only [Act.put, List.setIfInBounds_toArray, List.set_cons_zero, List.set_cons_succ]
              refine take_not (i := 13) rfl (by kernel_rfl) (by kernel_rfl) (by kernel_rfl) (fun _ _ _ h => h) (by rfl) hHeld ?_
              simp only [Act.put, List.setIfInBounds_toArray, List.set_cons_zero, List.set_cons_succ]
              refine take_not (i := 14) rfl (by kernel_rfl) (by kernel_rfl) (by kernel_rfl) (fun _ _ _ h => h) (by rfl) hHeld ?_
              simp only [Act.put, List.setIfInBounds_toArray, List.set_cons_zero, List.set_cons_succ]
              refine take_not (i := 15) rfl (by kernel_rfl) (by kernel_rfl) (by kernel_rfl) (fun _ _ _ h => h) (by rfl) hHeld ?_
              simp only [Act.put, List.setIfInBounds_toArray, List.set_cons_zero, List.set_cons_succ]
              refine take_not (i := 16) rfl (by kernel_rfl) (by kernel_rfl) (by kernel_rfl) (fun _ _ _ h => h) (by rfl) hHeld ?_
              simp only [Act.put, List.setIfInBounds_toArray, List.set_cons_zero, List.set_cons_succ]
              refine take_not (i := 17) rfl (by kernel_rfl) (by kernel_rfl) (by kernel_rfl) (fun _ _ _ h => h) (by rfl) hHeld ?_
              simp only [Act.put, List.setIfInBounds_toArray, List.set_cons_zero, List.set_cons_succ]
              refine take_val (i := 18) (.bool false) rfl (by kernel_rfl) (by kernel_rfl) (by kernel_rfl) (fun _ _ _ h => h) (by rfl) (fun w hSw => by go_simp) hHeld ?_
              simp only [Act.put, List.setIfInBounds_toArray, List.set_cons_zero, List.set_cons_succ]
              refine wpAnyH_done (by kernel_rfl) ?_ _
              clear hHeld
              go_wp2_with fail
              go_meet
              exact ⟨by rw [HBQ.out], bel_drewN (Below.refl _ wr) 1⟩
          case rest =>
          obtain ⟨rfl, HBC⟩ := hcut
          clear c0 z0 c1 c2 hat
          have hbw2 : Below w3.heap.size w3 wc := bel_then HBW.out HBW.out.size HBC.out
          have HSC : Hid (RowSt KRw w3.heap.size w3 (.slice rp L.length rc) L wc ∧ L = (R.take i).map Rr.rw) := ⟨HS.out.1.on HBC.out, HS.out.2⟩
          clear HS
          by_cases hic : i < C
          · have hlt : i < R.length := by omega
            obtain ⟨hiz, i1⟩ := lt_num i R.length hlt
            obtain ⟨⟨c0, _, c1, c2⟩, hat⟩ := HR3.out wc hbw2
            obtain ⟨b, off, rfl, y0, y1, y2⟩ := hat i hlt
            have HNX : Hid (L ++ [(R[i]).rw] = (R.take (i + 1)).map Rr.rw) := by show _ = _; rw [take_snoc_map hlt, HSC.out.2]
            have HRW : Hid ((R[i]).rw = ⟨(R[i]).a, (R[i]).b, (R[i]).g⟩) := rfl
            rw [HRW.out] at HNX
            generalize (R[i]).a = ra at *
            generalize (R[i]).b = rb at *
            generalize (R[i]).g = rg at *
            have hdc : decide (i < C) = true := decide_eq_true hic
            rw [hdc]
            clear hat hdc hbw2 HRW
            go_wp2_with (at_builtin; refine wpList_push KRw rfl _ _ 74 rfl i0 _ 40 Tryz.underlying74 HI0.out hz0 hz1 hz2 rfl w3.heap.size w3 _ L rfl (HSC.out.1.on ((Below.refl _ _).alloc (Nat.le_refl _) _)) ⟨ra, rb, rg⟩ _ _ _ rfl rfl _ _ (heap_alloc_new _ _) (by unfold maxLen; omega) (by omega) ?_; intro g8 c8 w8 hst8 hg8 hn8; have HS8 := hid hst8; clear hst8 hg8 hn8)
            go_roundg (R.length - (i + 1))
            case measure => omega
            exact ⟨i + 1, L ++ [⟨ra, rb, rg⟩], some ⟨g8, 0, none⟩, c8, by rw [List.length_append]; rfl, by go_num, by omega, by omega, by rw [List.length_append, List.length_singleton]; omega, by rw [List.length_append]; exact HS8.out, HNX.out⟩
          · have hiC' : i = C := by omega
            subst hiC'
            have hdc : decide (i < i) = false := decide_eq_false (by omega)
            obtain ⟨⟨c0, _, c1, c2⟩, _⟩ := HR3.out wc hbw2
            rw [hdc]
            clear hdc hbw2 HLS HZL hic
            go_wp2_with (at_builtin; refine wpList_push KRw rfl _ _ 74 rfl i0 _ 40 Tryz.underlying74 HI0.out hz0 hz1 hz2 rfl w3.heap.size w3 _ L rfl (HSC.out.1.on ((Below.refl _ _).alloc (Nat.le_refl _) _)) ⟨ka, kb, g⟩ _ _ _ rfl rfl _ _ (heap_alloc_new _ _) (by unfold maxLen; omega) (by omega) ?_; intro g8 c8 w8 hst8 hg8 hn8; have HS8 := hid hst8; clear hst8 hg8 hn8)
            clear c0 c1 c2
            have HSZ : Hid (RowSt KRw w3.heap.size w3 (.slice (some ⟨g8, 0, none⟩) (L.length + 1) c8) (L ++ [⟨ka, kb, g⟩]) w8 ∧ L = (R.take i).map Rr.rw) := ⟨HS8.out, HSC.out.2⟩
            clear HS8 HSC HBC HBW
            go_loopg [17, 18] R.length (fun gg v17 v18 wr => ∃ (j : Nat) (Q : List Rw) (rp : Option Addr) (rc : Nat), v17 = .slice rp Q.length rc ∧ v18 = .int .i64 j ∧ i ≤ j ∧ j ≤ R.length ∧ R.length - j ≤ gg ∧ Q.length ≤ j + 1 ∧ Hid (RowSt KRw w3.heap.size w3 (.slice rp Q.length rc) Q wr ∧ Q = (R.take i).map Rr.rw ++ ⟨ka, kb, g⟩ :: ((R.take j).drop i).map Rr.rw))
            case atStart => exact ⟨i, L ++ [⟨ka, kb, g⟩], some ⟨g8, 0, none⟩, c8, by rw [List.length_append]; rfl, rfl, Nat.le_refl _, hcl, by omega, by rw [List.length_append, List.length_singleton]; omega, by rw [List.length_append]; exact HSZ.out.1, by rw [HSZ.out.2, List.drop_take_self]; rfl⟩
            case round =>
              clear HSZ
              obtain ⟨j, Q, qp, qc, rfl, rfl, hij, hjR, hgk2, hQj, HS⟩ := hrel
              have hbw : Below w3.heap.size w3 wr := HS.out.1.bel
              obtain ⟨⟨c0, z0, c1, c2⟩, hat⟩ := HR3.out wr hbw
              by_cases hlt : j < R.length
              · obtain ⟨hiz, i1⟩ := lt_num j R.length hlt
                obtain ⟨b, off, rfl, y0, y1, y2⟩ := hat j hlt
                have HNX : Hid (Q ++ [(R[j]).rw] = (R.take i).map Rr.rw ++ ⟨ka, kb, g⟩ :: ((R.take (j + 1)).drop i).map Rr.rw) := by
                  show _ = _
                  rw [HS.out.2, List.take_succ_eq_append_getElem hlt, List.drop_append_of_le_length (by rw [List.length_take]; omega), List.map_append]
                  simp
                have HRW : Hid ((R[j]).rw = ⟨(R[j]).a, (R[j]).b, (R[j]).g⟩) := rfl
                rw [HRW.out] at HNX
                generalize (R[j]).a = ra at *
                generalize (R[j]).b = rb at *
                generalize (R[j]).g = rg at *
                clear hat HRW hbw
                go_wp2_with (at_builtin; refine wpList_push KRw rfl _ _ 74 rfl i0 _ 40 Tryz.underlying74 HI0.out hz0 hz1 hz2 rfl w3.heap.size w3 _ Q rfl (HS.out.1.on ((Below.refl _ _).alloc (Nat.le_refl _) _)) ⟨ra, rb, rg⟩ _ _ _ rfl rfl _ _ (heap_alloc_new _ _) (by unfold maxLen; omega) (by omega) ?_; intro g9 c9 w9 hst9 hg9 hn9; have HS9 := hid hst9; clear hst9 hg9 hn9)
                go_roundg (R.length - (j + 1))
                case measure => omega
                exact ⟨j + 1, Q ++ [⟨ra, rb, rg⟩], some ⟨g9, 0, none⟩, c9, by rw [List.length_append]; rfl, by go_num, by omega, by omega, by omega, by rw [List.length_append, List.length_singleton]; omega, by rw [List.length_append]; exact HS9.out, HNX.out⟩
              · have hiz := ge_num j R.length hlt
                have HP : Hid (RPut n0 W h R (.slice p R.length cap) nr (putD (R.map Rr.row) (ka, kb) stamp tick live val) (wr.setCell ⟨h, 0, none⟩ (.slice qp Q.length qc))) := by
                  refine HFIN.out wr _ HS.out.1.bel ?_
                  have e1 : R.take j = R := List.take_of_length_le (by omega)
                  have e2 := HS.out.2
                  rw [e1] at e2
                  rw [← e2]
                  exact HS.out.1.own
                clear hat hbw HFIN
                go_wp2_with fail
                go_ret2
                exact ⟨⟨_, _, rfl⟩, HP.out⟩
      · have hc2 : (C3 == 0) = false := by rw [beq_eq_false_iff_ne]; exact hc
        have HP := hid (HSM.out hc HT3.out)
        clear HPN HSM
        go_wp2_with fail
        go_ret2
        exact ⟨⟨_, _, rfl⟩, HP.out⟩

end Go.Proofs.YticfpkodoghnnaaGreat

/-
  Log of a directory (stage 7): its walk.
-/
namespace Go.Proofs.YticfpkodoghnnaaGreat
open Go.RowKit

theorem keysD_there {D : List RowD} (h : OkD D) {typ : ByteArray} {k : Ky} (hk : k ∈ keysD D typ) : ofD D k ≠ [] := (there_iff h k).1 (List.mem_filter.1 hk).1
theorem keysD_nodup {D : List RowD} (h : OkD D) (typ : ByteArray) : (keysD D typ).Nodup := rise_nodup (h.rise.sublist List.filter_sublist)

set_option maxHeartbeats 8000000 in
set_option maxRecDepth 100000 in
theorem dlog_any {n0 : Nat} {W : World} {g m n : Nat} {G : Ky → Cm} {D : List RowD} (h : DirM n0 W g m n G D) (hn : n ≤ 1760000000000) (typ : ByteArray) (t : Int) :
    Calls Tryz.prog 45 #[.pointer (some ⟨g, 0, none⟩), .string typ, .int .u64 t] W fun e w' => LogPost W D typ t e w' := by
  obtain ⟨N, hN⟩ : ∃ N, W.heap.size = N := ⟨_, rfl⟩
  obtain ⟨i0, hi0, hz0, hz1, hz2⟩ := info_parts Tryz.infoFd
  have HI := hid hi0
  have HKE := hid (dkeys_any h (by omega) typ)
  have HH := hid h
  have HFIT := hid (keysD_fit h (ks := keysD D typ) fun k hk => (List.mem_filter.1 hk).1)
  have hsl := sinceL_len h.ok t (keysD_nodup h.ok typ) fun k hk => keysD_there h.ok hk
  have hfew := h.few
  have HEQ := hid (sinceL_keys h.ok t typ)
  have HMAY : Hid (∀ k v, v ∈ ofD D k → mayB v.val = true) := fun k v hv => by
    have hne : ofD D k ≠ [] := by intro e; rw [e] at hv; simp at hv
    obtain ⟨h1, h2⟩ := HH.out.prg k hne
    rw [← h2] at hv
    obtain ⟨x, hx, rfl⟩ := List.mem_map.1 hv
    exact (h1.each x hx).2
  obtain ⟨keys, hkeys⟩ : ∃ keys, keysD D typ = keys := ⟨_, rfl⟩
  rw [hkeys] at HKE HFIT hsl HEQ
  obtain ⟨TL, hTL⟩ : ∃ TL, (sinceL D t keys).length = TL := ⟨_, rfl⟩
  have HTL : Hid (∀ i, (sinceL D t (keys.take i)).length ≤ TL) := fun i => by rw [← hTL]; exact sinceL_take D t keys i
  rw [hTL] at hsl
  have htl : TL ≤ 1760000000000 := by omega
  have hkl : keys.length ≤ 2400000000000 := by
    have := keysD_len h.ok typ
    rw [hkeys] at this
    omega
  clear h hi0 hkeys hTL hsl hfew
  go_enter Tryz.func45, Tryz.ntmps45
  go_wp2_with fail
  refine HKE.out.mono ?_
  rintro e w3 ⟨u, rfl, ho3, hb3⟩
  rw [hN] at ho3 hb3
  obtain ⟨kp, kc, rfl⟩ := Kind.own_shape ho3
  have ST0 : Hid (LgIn W N (.slice kp keys.length kc) keys [] [] (.slice none 0 0) w3) := ⟨KFd.own_nil _ _, fun f hf => by simp at hf, rfl, ho3, hb3⟩
  clear ho3 hb3 HKE
  go_wp2_with fail
  go_loopg [7, 16] keys.length (fun gg vf vi wr => ∃ (i : Nat) (fs : List Fd), vi = .int .i64 i ∧ i ≤ keys.length ∧ keys.length - i ≤ gg ∧ Hid (LgIn W N (.slice kp keys.length kc) keys fs (sinceL D t (keys.take i)) vf wr))
  case atStart => exact ⟨0, [], rfl, by omega, by omega, ST0.out⟩
  case round =>
    clear ST0
    obtain ⟨i, fs, rfl, hi, hgk, HL⟩ := hrel
    have hsN : N ≤ wr.heap.size := by have := HL.out.bel.size; omega
    obtain ⟨fp, fc, rfl⟩ := Kind.own_shape HL.out.own
    by_cases hlt : i < keys.length
    · have hltz : (i : Int) < (keys.length : Int) := by omega
      have hiz : (0 : Int) ≤ i := by omega
      obtain ⟨kb, ko, rfl, hrow⟩ : ∃ b off, kp = some ⟨b, off, none⟩ ∧ KK.At wr b off keys := by
        obtain ⟨p', c', e, hI⟩ := Kind.own_is HL.out.key
        injection e with e _ _
        subst e
        rcases hI with hI | hI
        · rw [hI] at hlt; simp at hlt
        · exact hI
      obtain ⟨k0, k1⟩ := kk_at hrow i hlt
      have hfk := HFIT.out _ (List.getElem_mem hlt)
      have htk : keys.take (i + 1) = keys.take i ++ [keys[i]] := List.take_succ_eq_append_getElem hlt
      have hpart := HTL.out (i + 1)
      obtain ⟨k, hk⟩ : ∃ k, keys[i] = k := ⟨_, rfl⟩
      rw [hk] at k0 k1 hfk htk
      rw [htk, sinceL_snoc, List.length_append, List.length_map] at hpart
      have HSN : Hid (sinceL D t (keys.take (i + 1)) = sinceL D t (keys.take i) ++ (sinceV (ofD D k) t).map fun v => (k, v)) := by show _ = _; rw [htk, sinceL_snoc]
      obtain ⟨W2, hW2⟩ : ∃ W2, wr.alloc (.cells #[.string k.1, .string k.2] 31) = W2 := ⟨_, rfl⟩
      have hb2 : Below wr.heap.size wr W2 := by rw [← hW2]; exact (Below.refl _ _).alloc (Nat.le_refl _) _
      have hs2 := hb2.size
      have hk2 : W2.heap[wr.heap.size]? = some (.cells #[.string k.1, .string k.2] 31 (0, 0)) := by rw [← hW2]; exact heap_alloc_new wr _
      have hl2 := HL.out.on hsN hb2
      have HSI := hid (dsince_any (HH.out.on (by rw [hN]; exact hl2.bel)) k hfk t)
      have HL2 := hid hl2
      have HK2 := hid hk2
      have HMK := hid (HMAY.out k)
      obtain ⟨acc, hacc⟩ : ∃ acc, sinceL D t (keys.take i) = acc := ⟨_, rfl⟩
      rw [hacc] at HL2 HSN hpart
      obtain ⟨sv, hsv⟩ : ∃ sv, sinceV (ofD D k) t = sv := ⟨_, rfl⟩
      have HMS : Hid (∀ v ∈ sv, mayB v.val = true) := fun v hv => HMK.out v (by rw [← hsv] at hv; exact since_mem hv)
      rw [hsv] at HSI HSN hpart
      obtain ⟨K0, hK0⟩ : ∃ K0, wr.heap.size = K0 := ⟨_, rfl⟩
      rw [hK0] at HK2
      have e0 : W2.cell? ⟨K0, 0, none⟩ = some (.string k.1) := by rw [Lib.cell_of_heap HK2.out]; rfl
      have e1 : W2.cell? ⟨K0, 1, none⟩ = some (.string k.2) := by rw [Lib.cell_of_heap HK2.out]; rfl
      obtain ⟨ka, kbb⟩ := k
      simp only at *
      clear hrow hfk htk hk hb2 hk2 hl2 hacc hsv HL HMK
      go_wp2_with fail
      refine HSI.out.mono ?_
      rintro e w4 ⟨u4, o, rfl, b1, b2, _, b4, b5⟩
      have hs4 := b5.size
      have hol : o.length ≤ sv.length := by rw [← b4, List.length_map]; exact Nat.le_refl _
      have hJ4 : LgJ W N (.slice (some ⟨kb, ko, none⟩) keys.length kc) keys K0 (ka, kbb) u4 o fs acc (.slice fp fs.length fc) w4 := by
        have hl4 := HL2.out.on (by omega) b5
        exact ⟨hl4, (b5.block K0 (Array.getElem?_eq_some_iff.1 HK2.out).1).trans HK2.out, Kind.own_weak b1 (by omega), fun x hx => ⟨own_weakJ (b2 x hx) (by omega), HMS.out x.ver (by rw [← b4]; exact List.mem_map.2 ⟨x, hx, rfl⟩)⟩⟩
      obtain ⟨up, uc, rfl⟩ := Kind.own_shape b1
      have HJ4 := hid hJ4
      have HVER := hid b4
      have hfl : fs.length ≤ acc.length := Nat.le_of_eq HL2.out.len
      clear b1 b2 b4 b5 hJ4 HSI e0 e1 k0 k1
      go_wp2_with fail
      go_loopg [7, 25] o.length (fun gg vf vj wr2 => ∃ (j : Nat) (fs2 : List Fd), vj = .int .i64 j ∧ j ≤ o.length ∧ o.length - j ≤ gg ∧ fs2.length ≤ fs.length + j ∧ N ≤ wr2.heap.size ∧ Hid (LgJ W N (.slice (some ⟨kb, ko, none⟩) keys.length kc) keys K0 (ka, kbb) (.slice up o.length uc) o fs2 (acc ++ (o.take j).map fun x => ((ka, kbb), x.ver)) vf wr2))
      case atStart => exact ⟨0, fs, rfl, by omega, by omega, by omega, by omega, by show LgJ _ _ _ _ _ _ _ _ _ _ _ _; simpa using HJ4.out⟩
      case round =>
        obtain ⟨j, fs2, rfl, hj, hgj, hfl2, hsN2, HJ⟩ := hrel
        obtain ⟨vp, vc, rfl⟩ := Kind.own_shape HJ.out.lg.own
        by_cases hlj : j < o.length
        · have hljz : (j : Int) < (o.length : Int) := by omega
          have hjz : (0 : Int) ≤ j := by omega
          obtain ⟨vb, vo, rfl, hvr⟩ : ∃ b off, up = some ⟨b, off, none⟩ ∧ KV.At wr b off o := by
            obtain ⟨p', c', e, hI⟩ := Kind.own_is HJ.out.row
            injection e with e _ _
            subst e
            rcases hI with hI | hI
            · rw [hI] at hlj; simp at hlj
            · exact hI
          obtain ⟨q0, q1, q2, q3, q4⟩ := kv_at hvr j hlj
          have HXM := hid (List.getElem_mem hlj)
          have htj : o.take (j + 1) = o.take j ++ [o[j]] := List.take_succ_eq_append_getElem hlj
          obtain ⟨x, hx⟩ : ∃ x, o[j] = x := ⟨_, rfl⟩
          rw [hx] at q0 q1 q2 q3 q4 HXM htj
          have HTJ : Hid (acc ++ (o.take (j + 1)).map (fun x => ((ka, kbb), x.ver)) = (acc ++ (o.take j).map fun x => ((ka, kbb), x.ver)) ++ [((ka, kbb), x.ver)]) := by show _ = _; rw [htj, List.map_append, List.append_assoc]; rfl
          obtain ⟨W5, hW5⟩ : ∃ W5, wr.alloc (.cells (encVx x).toArray 39) = W5 := ⟨_, rfl⟩
          have hb5 : Below wr.heap.size wr W5 := by rw [← hW5]; exact (Below.refl _ _).alloc (Nat.le_refl _) _
          have hv5 : VerAt W5 wr.heap.size x := by rw [← hW5]; exact heap_alloc_new wr _
          have hs5 := hb5.size
          have HJ5 := hid (HJ.out.on hsN2 hb5)
          obtain ⟨V0, hV0⟩ : ∃ V0, wr.heap.size = V0 := ⟨_, rfl⟩
          rw [hV0] at hv5
          obtain ⟨y0, y1, y2, y3, y4⟩ := hv5.cells
          have z2 : W5.cell? ⟨K0, 0, none⟩ = some (.string ka) := by rw [Lib.cell_of_heap HJ5.out.box]; rfl
          have z3 : W5.cell? ⟨K0, 1, none⟩ = some (.string kbb) := by rw [Lib.cell_of_heap HJ5.out.box]; rfl
          have HO5 := hid HJ5.out.lg.own
          have hsN5 : N ≤ W5.heap.size := by omega
          obtain ⟨xn, xs, xt, xl, xp, xc, xo⟩ := x
          simp only [encVx, Vx.sl] at *
          clear hvr htj hx hb5 hv5 HJ
          go_wp2_with (first
            | (at_builtin; refine wpList_append_own_wide _ rfl _ _ 46 rfl N 70 i0 (.agg #[.string ⟨#[]⟩, .string ⟨#[]⟩, .int .i64 0, .int .u64 0, .int .i64 0, .bool false, .slice none 0 0]) 7 88 Tryz.underlying46 HI.out hz0 hz1 hz2 rfl (by decide) _ _ _ rfl (World.ownsRow.alloc HO5.out _) _ 1 1 [.string ka, .string kbb, .int .i64 xn, .int .u64 xs, .int .i64 xt, .bool xl, .slice xp xo.length xc] rfl rfl (fun j u hj => KFd.newsN W5 ⟨ka, kbb, ⟨xn, xs, xt, xl, xp, xc, xo⟩⟩ _ (by simp) j u hj) (by intro u hu; simp at hu; rcases hu with rfl | rfl | rfl | rfl | rfl | rfl | rfl <;> rfl) (by unfold maxLen; omega) (by omega) (by simp; omega) ?_; intro v6 w6 hown6 hg6 hnil6; have HO6 := hid hown6; have HG6 := hid hg6; clear hown6 hg6 hnil6))
          go_roundg (o.length - (j + 1))
          case measure => omega
          have hb6 : Below W5.heap.size W5 (W5.alloc (.cells #[.string ka, .string kbb, .int .i64 xn, .int .u64 xs, .int .i64 xt, .bool xl, .slice xp xo.length xc] 70)) := (Below.refl _ _).alloc (Nat.le_refl _) _
          have hJ6 := (HJ5.out.on hsN5 hb6).push (v' := v6) (by simp; omega) HG6.out HXM.out (Kind.own_snoc HO6.out rfl rfl)
          refine ⟨j + 1, fs2 ++ [⟨ka, kbb, ⟨xn, xs, xt, xl, xp, xc, xo⟩⟩], by go_num, by omega, by omega, by rw [List.length_append, List.length_singleton]; omega, ?_, ?_⟩
          · have := HG6.out.size
            simp at this
            omega
          · show LgJ _ _ _ _ _ _ _ _ _ _ _ _
            rw [HTJ.out]
            exact hJ6
        · have hljz : ¬ (j : Int) < (o.length : Int) := by omega
          have htj : o.take j = o := List.take_of_length_le (by omega)
          have HLN : Hid (LgIn W N (.slice (some ⟨kb, ko, none⟩) keys.length kc) keys fs2 (sinceL D t (keys.take (i + 1))) (.slice vp fs2.length vc) wr) := by
            have := HJ.out.lg
            rw [htj] at this
            show LgIn _ _ _ _ _ _ _ _
            rw [HSN.out, ← HVER.out, List.map_map]
            exact this
          clear htj HJ
          go_wp2_with fail
          go_roundg (keys.length - (i + 1))
          case measure => omega
          exact ⟨i + 1, fs2, by go_num, by omega, by omega, HLN.out⟩
    · have hltz : ¬ (i : Int) < (keys.length : Int) := by omega
      have hti : keys.take i = keys := List.take_of_length_le (by omega)
      rw [hti, HEQ.out] at HL
      have hfl := HL.out.len
      have hpl := HTL.out i
      rw [hti, HEQ.out] at hpl
      have HSO := hid (sortrowF_any HL.out.own (by omega) hsN)
      clear hti hfl hpl
      go_wp2_with fail
      refine HSO.out.mono ?_
      rintro e w5 ⟨rfl, l, s1, s2, s3, s4⟩
      have hll : l.length = fs.length := s2.length_eq
      have HP : Hid (LogPost W D typ t (.returned (.slice fp fs.length fc)) w5) := by
        refine ⟨l.map Fd.fnd, ⟨_, l, rfl, by rw [hN]; exact s1, fun f hf => ?_, rfl, ?_⟩, by rw [← HL.out.eq]; exact s2.map _, s3⟩
        · have hf' := s2.mem_iff.1 hf
          rw [hN]
          refine ⟨ownJ_fr (HL.out.val f hf').1 s4 fun k hk e => ?_, (HL.out.val f hf').2⟩
          obtain ⟨c1, t1, h3, h5⟩ := ownJ_cells (HL.out.val f hf').1 hk
          obtain ⟨c2, h4⟩ := own_type HL.out.own e
          rw [h3] at h4
          injection h4 with h4
          injection h4 with _ h4 _
          rcases h5 with h5 | h5
          · exact absurd (h5.symm.trans h4) (by decide)
          · exact absurd (h5.symm.trans h4) (by decide)
        · rw [hN]
          exact HL.out.bel.trans (s4.below hsN fun b hb => (World.ownsRow.lt HL.out.own b hb).1)
      clear s1 s2 s3 s4 HSO HL hll
      go_wp2_with fail
      go_ret
      exact HP.out

end Go.Proofs.YticfpkodoghnnaaGreat

/-
  A directory by what it holds alone (stage 7); operations in memory, and the directory that a script lays.
-/
namespace Go.Proofs.YticfpkodoghnnaaGreat
open Go.RowKit

/-- A directory in block g, all of it from n0 on, that holds D. -/
def DirS (n0 g n : Nat) (D : List RowD) (W : World) : Prop := ∃ m G, DirM n0 W g m n G D

theorem DirS.on {n0 g n : Nat} {D : List RowD} {W W' : World} (h : DirS n0 g n D W) (hb : Below W.heap.size W W') : DirS n0 g n D W' := by
  obtain ⟨m, G, h⟩ := h
  exact ⟨m, G, h.on hb⟩
theorem DirS.ok {n0 g n : Nat} {D : List RowD} {W : World} (h : DirS n0 g n D W) : OkD D := by
  obtain ⟨m, G, h⟩ := h
  exact h.ok
theorem DirS.few {n0 g n : Nat} {D : List RowD} {W : World} (h : DirS n0 g n D W) : countD D ≤ n := by
  obtain ⟨m, G, h⟩ := h
  exact h.few
theorem DirS.key {n0 g n : Nat} {D : List RowD} {W : World} (h : DirS n0 g n D W) : ∀ k, ofD D k ≠ [] → keyB k.1 k.2 = true := by
  obtain ⟨m, G, h⟩ := h
  exact h.key
theorem DirS.base {n0 g n : Nat} {D : List RowD} {W : World} (h : DirS n0 g n D W) : n0 ≤ W.heap.size := by
  obtain ⟨m, G, h⟩ := h
  have h1 := h.map.lt
  have h2 := h.bm
  omega
theorem DirS.may {n0 g n : Nat} {D : List RowD} {W : World} (h : DirS n0 g n D W) (k : Ky) : ∀ v ∈ ofD D k, mayB v.val = true := by
  obtain ⟨m, G, h⟩ := h
  intro v hv
  have hne : ofD D k ≠ [] := by intro e; rw [e] at hv; simp at hv
  obtain ⟨h1, h2⟩ := h.prg k hne
  rw [← h2] at hv
  obtain ⟨x, hx, rfl⟩ := List.mem_map.1 hv
  exact (h1.each x hx).2

theorem turn_dirS {n0 : Nat} {W w' : World} {g m n n' : Nat} {G : Ky → Cm} {D D' : List RowD} (h : DirM n0 W g m n G D) (ht : TurnD n0 W g m G D n' D' w') : DirS n0 g n' D' w' ∧ Below n0 W w' := by
  obtain ⟨G', h1, _, h3⟩ := ht
  refine ⟨⟨m, G', h1⟩, h3.below ?_ fun k hk => (h.blk k hk).1⟩
  have := h.map.lt
  have := h.bm
  omega

theorem s_new (w : World) : Calls Tryz.prog 27 #[] w fun e w' => e = .returned (.pointer (some ⟨w.heap.size + 1, 0, none⟩)) ∧ DirS w.heap.size (w.heap.size + 1) 0 [] w' ∧ Below w.heap.size w w' := by
  have hmm := @run_makeMap Tryz.prog
  have hb : Below w.heap.size w ((w.alloc (.map #[] 0)).alloc (.cells #[.map (some w.heap.size)] 104)) := ((Below.refl _ _).alloc (Nat.le_refl _) _).alloc (by simp) _
  have HM : Hid (DirM w.heap.size ((w.alloc (.map #[] 0)).alloc (.cells #[.map (some w.heap.size)] 104)) (w.heap.size + 1) w.heap.size 0 (fun _ => ⟨0, [], .slice none 0 0⟩) []) := by
    have h1 := heap_alloc_new (w.alloc (.map #[] 0)) (.cells #[.map (some w.heap.size)] 104)
    rw [World.size_alloc] at h1
    refine ⟨by rw [Lib.cell_of_heap h1]; rfl, by omega, Nat.le_refl _, ?_, fun k hk => absurd rfl hk, fun k1 k2 hk => absurd rfl hk, fun k hk => absurd rfl hk, okD_nil, fun k hk => absurd rfl hk, fun k => by show (0 : Int) ≤ _; omega, Nat.le_refl _⟩
    exact (mapD_made w).on (Below.heap_alloc _ _ _ (by simp))
  have HB := hid hb
  clear hb
  go_enter Tryz.func27, Tryz.ntmps27
  go_wp2_with fail
  go_ret
  exact ⟨rfl, ⟨_, _, HM.out⟩, HB.out⟩

theorem s_put {n0 g n : Nat} {D : List RowD} {W : World} (h : DirS n0 g n D W) (hn : n < 2400000000000) (k : Ky) (hk : FitK k) (stamp tick : Int) (live : Bool) (v : Value) (e : List Fx) (val : List Fld) (hv : IsXs W v e) (hf : FitX e) (hval : e.map Fx.fld = val) (h0 : 0 ≤ stamp) :
    Calls Tryz.prog 25 #[.pointer (some ⟨g, 0, none⟩), .agg #[.string k.1, .string k.2], .int .u64 stamp, .int .i64 tick, .bool live, v] W fun r w' =>
      r = .returned (.tuple #[.int .i64 (numD D k stamp live val), .int .i64 (codeD D k stamp live val)]) ∧ DirS n0 g (n + 1) (putD D k stamp tick live val) w' ∧ Below n0 W w' := by
  have hb := h.base
  obtain ⟨m, G, h⟩ := h
  refine (dput_any h hn hb k hk stamp tick live v e val hv hf hval h0).mono ?_
  rintro r w' ⟨h1, h2⟩
  exact ⟨h1, turn_dirS h h2⟩

theorem s_prune {n0 g n : Nat} {D : List RowD} {W : World} (h : DirS n0 g n D W) (hn : n ≤ 2400000000000) (f : Int) :
    Calls Tryz.prog 28 #[.pointer (some ⟨g, 0, none⟩), .int .u64 f] W fun e w' => e = .returned (.int .i64 (goneD D f : Nat)) ∧ DirS n0 g n (pruneD D f) w' ∧ Below n0 W w' := by
  obtain ⟨m, G, h⟩ := h
  refine (dprune_any h hn f).mono ?_
  rintro r w' ⟨h1, h2⟩
  exact ⟨h1, turn_dirS h h2⟩

section
variable {n0 g n : Nat} {D : List RowD} {W : World}
theorem s_at (h : DirS n0 g n D W) (k : Ky) (hk : FitK k) (t : Int) : Calls Tryz.prog 32 #[.pointer (some ⟨g, 0, none⟩), .agg #[.string k.1, .string k.2], .int .u64 t] W fun e w' => VAns W (atV (ofD D k) t) e w' := by
  obtain ⟨m, G, h⟩ := h; exact dat_any h k hk t
theorem s_number (h : DirS n0 g n D W) (k : Ky) (hk : FitK k) (i : Int) (hi : i ≤ 9223372036854775807) : Calls Tryz.prog 47 #[.pointer (some ⟨g, 0, none⟩), .agg #[.string k.1, .string k.2], .int .i64 i] W fun e w' => VAns W (numV (ofD D k) i) e w' := by
  obtain ⟨m, G, h⟩ := h; exact dnumber_any h k hk i hi
theorem s_first (h : DirS n0 g n D W) (hn : n ≤ 2400000000000) (k : Ky) (hk : FitK k) : Calls Tryz.prog 48 #[.pointer (some ⟨g, 0, none⟩), .agg #[.string k.1, .string k.2]] W fun e w' => VAns W (ofD D k).head? e w' := by
  obtain ⟨m, G, h⟩ := h; exact dfirst_any h hn k hk
theorem s_since (h : DirS n0 g n D W) (k : Ky) (hk : FitK k) (t : Int) : Calls Tryz.prog 41 #[.pointer (some ⟨g, 0, none⟩), .agg #[.string k.1, .string k.2], .int .u64 t] W fun e w' => AllPost W (sinceV (ofD D k) t) e w' := by
  obtain ⟨m, G, h⟩ := h; exact dsince_any h k hk t
theorem s_keys (h : DirS n0 g n D W) (hn : n ≤ 2400000000000) (typ : ByteArray) : Calls Tryz.prog 64 #[.pointer (some ⟨g, 0, none⟩), .string typ] W fun e w' => ∃ u, e = .returned u ∧ KK.Own W.heap.size w' u (keysD D typ) ∧ Below W.heap.size W w' := by
  obtain ⟨m, G, h⟩ := h; exact dkeys_any h hn typ
theorem s_scan (h : DirS n0 g n D W) (hn : n ≤ 1760000000000) (typ : ByteArray) (t : Int) (pa : Option Addr) (pc : Nat) (pt : List Tm) (hp : KM.Is W (.slice pa pt.length pc) pt) (hpf : FitM pt) : Calls Tryz.prog 37 #[.pointer (some ⟨g, 0, none⟩), .string typ, .int .u64 t, .slice pa pt.length pc] W fun e w' => FdPost W (scanD D typ t (matchM pt)) e w' := by
  obtain ⟨m, G, h⟩ := h; exact dscan_any h hn typ t pa pc pt hp hpf
theorem s_log (h : DirS n0 g n D W) (hn : n ≤ 1760000000000) (typ : ByteArray) (t : Int) : Calls Tryz.prog 45 #[.pointer (some ⟨g, 0, none⟩), .string typ, .int .u64 t] W fun e w' => LogPost W D typ t e w' := by
  obtain ⟨m, G, h⟩ := h; exact dlog_any h hn typ t
end

/-! ## Operations -/

/-- An operation as it lies in memory. -/
structure Oy where
  kind : Int
  a : ByteArray
  b : ByteArray
  stamp : Int
  tick : Int
  live : Bool
  p : Option Addr
  cap : Nat
  o : List Fx
  q : Option Addr
  qcap : Nat
  tm : List Tm
  n : Int
  deriving Inhabited

def Oy.val (x : Oy) : List Fld := x.o.map Fx.fld
def Oy.key (x : Oy) : Ky := (x.a, x.b)
def encY (x : Oy) : List Value := [.int .i64 x.kind, .string x.a, .string x.b, .int .u64 x.stamp, .int .i64 x.tick, .bool x.live, .slice x.p x.o.length x.cap, .slice x.q x.tm.length x.qcap, .int .i64 x.n]
structure OpY (w : World) (x : Oy) : Prop where
  is : IsXs w (.slice x.p x.o.length x.cap) x.o
  fit : FitX x.o
  pis : KM.Is w (.slice x.q x.tm.length x.qcap) x.tm
  pfit : FitM x.tm
  kfit : FitK x.key
  lo : 0 ≤ x.stamp
  hi : x.stamp ≤ 18446744073709551615

theorem OpY.on {w W : World} {x : Oy} (h : OpY w x) (hb : Below w.heap.size w W) : OpY W x := ⟨h.is.kept hb, h.fit, Kind.is_kept h.pis hb, h.pfit, h.kfit, h.lo, h.hi⟩

/-- What a script lays. -/
def stepD (D : List RowD) (x : Oy) : List RowD := if x.kind = 12 then pruneD D x.stamp else putD D x.key x.stamp x.tick x.live x.val
def laidD (ops : List Oy) : List RowD := ops.foldl stepD []
theorem laidD_snoc (ops : List Oy) (x : Oy) : laidD (ops ++ [x]) = stepD (laidD ops) x := by unfold laidD; rw [List.foldl_append]; rfl

def LaidD (w : World) (ops : List Oy) (e : Ending) (w' : World) : Prop := ∃ g, e = .returned (.pointer (some ⟨g, 0, none⟩)) ∧ DirS w.heap.size g ops.length (laidD ops) w' ∧ Below w.heap.size w w'

end Go.Proofs.YticfpkodoghnnaaGreat

/-
  Puts and asks in memory (stage 14); the program's directory and the document's side by side.
-/
namespace Go.Proofs.YticfpkodoghnnaaGreat
open Go.RowKit

/-- A put as it lies in memory. -/
structure Pt where
  prune : Bool
  a : ByteArray
  b : ByteArray
  stamp : Int
  live : Bool
  p : Option Addr
  cap : Nat
  o : List Fx
  deriving Inhabited
def Pt.val (x : Pt) : List Fld := x.o.map Fx.fld
def Pt.key (x : Pt) : Ky := (x.a, x.b)
def encPt (x : Pt) : List Value := [.bool x.prune, .string x.a, .string x.b, .int .u64 x.stamp, .bool x.live, .slice x.p x.o.length x.cap]
def KPt : Kind Pt := ⟨62, 6, encPt, fun _ => rfl, by decide, fun x u hu => by simp [encPt] at hu; rcases hu with rfl | rfl | rfl | rfl | rfl | rfl <;> rfl⟩
theorem kpt_at {w : World} {b off : Nat} {d : List Pt} (h : KPt.At w b off d) (i : Nat) (hi : i < d.length) :
    w.cell? ⟨b, off + i * 6, none⟩ = some (.bool (d[i]).prune) ∧ w.cell? ⟨b, off + i * 6 + 1, none⟩ = some (.string (d[i]).a) ∧ w.cell? ⟨b, off + i * 6 + 2, none⟩ = some (.string (d[i]).b) ∧ w.cell? ⟨b, off + i * 6 + 3, none⟩ = some (.int .u64 (d[i]).stamp) ∧ w.cell? ⟨b, off + i * 6 + 4, none⟩ = some (.bool (d[i]).live) ∧ w.cell? ⟨b, off + i * 6 + 5, none⟩ = some (.slice (d[i]).p (d[i]).o.length (d[i]).cap) :=
  ⟨h i hi 0 _ rfl, h i hi 1 _ rfl, h i hi 2 _ rfl, h i hi 3 _ rfl, h i hi 4 _ rfl, h i hi 5 _ rfl⟩
structure PtIn (w : World) (x : Pt) : Prop where
  is : IsXs w (.slice x.p x.o.length x.cap) x.o
  fit : FitX x.o
  kfit : FitK x.key
  lo : 0 ≤ x.stamp
  hi : x.stamp ≤ 18446744073709551615
theorem PtIn.on {w W : World} {x : Pt} (h : PtIn w x) (hb : Below w.heap.size w W) : PtIn W x := ⟨h.is.kept hb, h.fit, h.kfit, h.lo, h.hi⟩

/-- A question as it lies in memory. -/
structure Ak where
  fl : Int
  sn : Int
  t : Int
  a : ByteArray
  b : ByteArray
  q : Option Addr
  qc : Nat
  tm : List Tm
  n : Int
  deriving Inhabited
def Ak.key (x : Ak) : Ky := (x.a, x.b)
def encAk (x : Ak) : List Value := [.int .u64 x.fl, .int .u64 x.sn, .int .u64 x.t, .string x.a, .string x.b, .slice x.q x.tm.length x.qc, .int .i64 x.n]
def KAk : Kind Ak := ⟨34, 7, encAk, fun _ => rfl, by decide, fun x u hu => by simp [encAk] at hu; rcases hu with rfl | rfl | rfl | rfl | rfl | rfl | rfl <;> rfl⟩
theorem kak_at {w : World} {b off : Nat} {d : List Ak} (h : KAk.At w b off d) (i : Nat) (hi : i < d.length) :
    w.cell? ⟨b, off + i * 7, none⟩ = some (.int .u64 (d[i]).fl) ∧ w.cell? ⟨b, off + i * 7 + 1, none⟩ = some (.int .u64 (d[i]).sn) ∧ w.cell? ⟨b, off + i * 7 + 2, none⟩ = some (.int .u64 (d[i]).t) ∧ w.cell? ⟨b, off + i * 7 + 3, none⟩ = some (.string (d[i]).a) ∧ w.cell? ⟨b, off + i * 7 + 4, none⟩ = some (.string (d[i]).b) ∧ w.cell? ⟨b, off + i * 7 + 5, none⟩ = some (.slice (d[i]).q (d[i]).tm.length (d[i]).qc) ∧ w.cell? ⟨b, off + i * 7 + 6, none⟩ = some (.int .i64 (d[i]).n) :=
  ⟨h i hi 0 _ rfl, h i hi 1 _ rfl, h i hi 2 _ rfl, h i hi 3 _ rfl, h i hi 4 _ rfl, h i hi 5 _ rfl, h i hi 6 _ rfl⟩
structure AkIn (w : World) (x : Ak) : Prop where
  is : KM.Is w (.slice x.q x.tm.length x.qc) x.tm
  fit : FitM x.tm
  kfit : FitK x.key
  f0 : 0 ≤ x.fl ∧ x.fl ≤ 18446744073709551615
  s0 : 0 ≤ x.sn ∧ x.sn ≤ 18446744073709551615
  t0 : 0 ≤ x.t ∧ x.t ≤ 18446744073709551615
  n0 : -9223372036854775808 ≤ x.n ∧ x.n ≤ 9223372036854775807
theorem AkIn.on {w W : World} {x : Ak} (h : AkIn w x) (hb : Below w.heap.size w W) : AkIn W x := ⟨Kind.is_kept h.is hb, h.fit, h.kfit, h.f0, h.s0, h.t0, h.n0⟩

/-- What puts lay, with prunes or without. -/
def stepP (pr : Bool) (D : List RowD) (x : Pt) : List RowD := if x.prune then (if pr then pruneD D x.stamp else D) else putD D x.key x.stamp 0 x.live x.val
def laidP (pr : Bool) (l : List Pt) : List RowD := l.foldl (stepP pr) []
theorem laidP_snoc (pr : Bool) (l : List Pt) (x : Pt) : laidP pr (l ++ [x]) = stepP pr (laidP pr l) x := by unfold laidP; rw [List.foldl_append]; rfl

/-- Both directories, of at most n and nr puts; they hold D and E. -/
structure TwoD (n0 : Nat) (W : World) (g m n : Nat) (G : Ky → Cm) (D : List RowD) (h nr : Nat) (R : List Rr) (vs : Value) (E : List RowD) : Prop where
  dir : DirM n0 W g m n G D
  ref : RefD n0 W h R vs
  apart : ∀ k, BlkD g m G D k → ¬ BlkRD h R vs k
  eq : R.map Rr.row = E
  len : R.length ≤ nr
  each : ∀ r ∈ R, r.d.length ≤ nr
/-- .. by what they hold, and their blocks. -/
def TwoP (n0 g h n nr : Nat) (D E : List RowD) (B : Nat → Prop) (W : World) : Prop := ∃ m G R vs, TwoD n0 W g m n G D h nr R vs E ∧ B = fun k => BlkD g m G D k ∨ BlkRD h R vs k
/-- What a call that turns one of them leaves. -/
def TwoTurn (n0 g h n nr : Nat) (D E : List RowD) (B : Nat → Prop) (W w' : World) : Prop := ∃ B', TwoP n0 g h n nr D E B' w' ∧ Fr B W w' ∧ ∀ k, B' k → B k ∨ W.heap.size ≤ k

section
variable {n0 g h n nr : Nat} {D E : List RowD} {B : Nat → Prop} {W : World}
theorem TwoP.fr {W' : World} {P : Nat → Prop} (x : TwoP n0 g h n nr D E B W) (f : Fr P W W') (hP : ∀ k, B k → ¬ P k) : TwoP n0 g h n nr D E B W' := by
  obtain ⟨m, G, R, vs, x, rfl⟩ := x
  exact ⟨m, G, R, vs, ⟨x.dir.fr f fun k hk => hP k (Or.inl hk), x.ref.fr f fun k hk => hP k (Or.inr hk), x.apart, x.eq, x.len, x.each⟩, rfl⟩
theorem TwoP.on {W' : World} (x : TwoP n0 g h n nr D E B W) (hb : Below W.heap.size W W') : TwoP n0 g h n nr D E B W' := x.fr (P := fun _ => False) (Fr.of_below hb) fun _ _ k => k
theorem TwoP.blk (x : TwoP n0 g h n nr D E B W) (k : Nat) (hk : B k) : n0 ≤ k ∧ k < W.heap.size := by
  obtain ⟨m, G, R, vs, x, rfl⟩ := x
  exact hk.elim (x.dir.blk k) (x.ref.blk k)
theorem TwoP.dirS (x : TwoP n0 g h n nr D E B W) : DirS n0 g n D W := by
  obtain ⟨m, G, R, vs, x, _⟩ := x
  exact ⟨m, G, x.dir⟩
theorem TwoP.refS (x : TwoP n0 g h n nr D E B W) : ∃ R vs, RefD n0 W h R vs ∧ R.map Rr.row = E ∧ R.length ≤ nr ∧ ∀ r ∈ R, r.d.length ≤ nr := by
  obtain ⟨m, G, R, vs, x, _⟩ := x
  exact ⟨R, vs, x.ref, x.eq, x.len, x.each⟩
theorem TwoP.mono {n' nr' : Nat} (x : TwoP n0 g h n nr D E B W) (h1 : n ≤ n') (h2 : nr ≤ nr') : TwoP n0 g h n' nr' D E B W := by
  obtain ⟨m, G, R, vs, x, rfl⟩ := x
  exact ⟨m, G, R, vs, ⟨x.dir.mono h1, x.ref, x.apart, x.eq, Nat.le_trans x.len h2, fun r hr => Nat.le_trans (x.each r hr) h2⟩, rfl⟩

theorem two_dir {m : Nat} {G : Ky → Cm} {R : List Rr} {vs : Value} (x : TwoD n0 W g m n G D h nr R vs E) {n' : Nat} {D' : List RowD} {w' : World} (t : TurnD n0 W g m G D n' D' w') : TwoTurn n0 g h n' nr D' E (fun k => BlkD g m G D k ∨ BlkRD h R vs k) W w' := by
  obtain ⟨G', t1, t2, t3⟩ := t
  refine ⟨_, ⟨m, G', R, vs, ⟨t1, x.ref.fr t3 fun k hk hb => x.apart k hb hk, fun k hk hr => ?_, x.eq, x.len, x.each⟩, rfl⟩, t3.mono fun k hk => Or.inl hk, fun k hk => ?_⟩
  · rcases t2 k hk with q | q
    · exact x.apart k q hr
    · have := (x.ref.blk k hr).2
      omega
  · rcases hk with hk | hk
    · exact (t2 k hk).imp Or.inl id
    · exact Or.inl (Or.inr hk)
theorem two_ref {m : Nat} {G : Ky → Cm} {R : List Rr} {vs : Value} (x : TwoD n0 W g m n G D h nr R vs E) {nr' : Nat} {R' : List Rr} {vs' : Value} {E' : List RowD} {w' : World} (h1 : RefD n0 w' h R' vs') (h2 : Fr (BlkRD h R vs) W w') (h3 : ∀ k, BlkRD h R' vs' k → BlkRD h R vs k ∨ W.heap.size ≤ k) (h4 : R'.map Rr.row = E') (h5 : R'.length ≤ nr') (h6 : ∀ r ∈ R', r.d.length ≤ nr') : TwoTurn n0 g h n nr' D E' (fun k => BlkD g m G D k ∨ BlkRD h R vs k) W w' := by
  refine ⟨_, ⟨m, G, R', vs', ⟨x.dir.fr h2 fun k hk hb => x.apart k hk hb, h1, fun k hk hr => ?_, h4, h5, h6⟩, rfl⟩, h2.mono fun k hk => Or.inr hk, fun k hk => ?_⟩
  · rcases h3 k hr with q | q
    · exact x.apart k hk q
    · have := (x.dir.blk k hk).2
      omega
  · rcases hk with hk | hk
    · exact Or.inl (Or.inl hk)
    · exact (h3 k hk).imp Or.inr id

theorem two_put (x : TwoP n0 g h n nr D E B W) (hn : n < 2400000000000) (k : Ky) (hk : FitK k) (stamp tick : Int) (live : Bool) (v : Value) (e : List Fx) (val : List Fld) (hv : IsXs W v e) (hf : FitX e) (hval : e.map Fx.fld = val) (h0 : 0 ≤ stamp) :
    Calls Tryz.prog 25 #[.pointer (some ⟨g, 0, none⟩), .agg #[.string k.1, .string k.2], .int .u64 stamp, .int .i64 tick, .bool live, v] W fun r w' =>
      (∃ a b, r = .returned (.tuple #[.int .i64 a, .int .i64 b])) ∧ TwoTurn n0 g h (n + 1) nr (putD D k stamp tick live val) E B W w' := by
  have hb := x.dirS.base
  obtain ⟨m, G, R, vs, x, rfl⟩ := x
  refine (dput_any x.dir hn hb k hk stamp tick live v e val hv hf hval h0).mono ?_
  rintro r w' ⟨h1, h2⟩
  exact ⟨⟨_, _, h1⟩, two_dir x h2⟩
theorem two_prune (x : TwoP n0 g h n nr D E B W) (hn : n ≤ 2400000000000) (f : Int) :
    Calls Tryz.prog 28 #[.pointer (some ⟨g, 0, none⟩), .int .u64 f] W fun r w' => (∃ a, r = .returned (.int .i64 a)) ∧ TwoTurn n0 g h n nr (pruneD D f) E B W w' := by
  obtain ⟨m, G, R, vs, x, rfl⟩ := x
  refine (dprune_any x.dir hn f).mono ?_
  rintro r w' ⟨h1, h2⟩
  exact ⟨⟨_, h1⟩, two_dir x h2⟩
theorem two_rprune (x : TwoP n0 g h n nr D E B W) (hn : nr ≤ 2400000000000) (f : Int) :
    Calls Tryz.prog 29 #[.pointer (some ⟨h, 0, none⟩), .int .u64 f] W fun r w' => (∃ a, r = .returned a) ∧ TwoTurn n0 g h n nr D (pruneD E f) B W w' := by
  obtain ⟨m, G, R, vs, x, rfl⟩ := x
  refine (rprunes_any x.ref (by have := x.len; omega) f).mono ?_
  rintro r w' ⟨h1, h2, h3⟩
  refine ⟨h1, two_ref x h2 h3 (fun k hk => Or.inl ?_) (by rw [pruned_rows, x.eq]) (by rw [List.length_map]; exact x.len) (fun r hr => ?_)⟩
  · rcases hk with hk | hk | ⟨q, hq, hk⟩
    · exact Or.inl hk
    · exact Or.inr (Or.inl hk)
    · obtain ⟨p, hp, rfl⟩ := List.mem_map.1 hq
      exact Or.inr (Or.inr ⟨p, hp, hk⟩)
  · obtain ⟨p, hp, rfl⟩ := List.mem_map.1 hr
    exact x.each p hp
theorem two_rput (x : TwoP n0 g h n nr D E B W) (hn : nr < 2400000000000) (k : Ky) (hk : FitK k) (stamp tick : Int) (live : Bool) (v : Value) (e : List Fx) (val : List Fld) (hv : IsXs W v e) (hf : FitX e) (hval : e.map Fx.fld = val) (h0 : 0 ≤ stamp) :
    Calls Tryz.prog 30 #[.pointer (some ⟨h, 0, none⟩), .agg #[.string k.1, .string k.2], .int .u64 stamp, .int .i64 tick, .bool live, v] W fun r w' =>
      (∃ a b, r = .returned (.tuple #[.int .i64 a, .int .i64 b])) ∧ TwoTurn n0 g h n (nr + 1) D (putD E k stamp tick live val) B W w' := by
  have hb := x.dirS.base
  obtain ⟨m, G, R, vs, x, rfl⟩ := x
  refine (rput_any x.ref hb x.len x.each hn k hk stamp tick live v e val hv hf hval h0).mono ?_
  rintro r w' ⟨h1, R', vs', h2, h3, h4, h5, h6, h7⟩
  exact ⟨h1, two_ref x h2 h6 h7 (by rw [h3, x.eq]) h4 h5⟩

/-- Both new. -/
theorem two_start {W1 W2 : World} (hd : DirS W.heap.size g 0 [] W1) (hb : Below W1.heap.size W1 W2) (hg : W2.heap[W1.heap.size]? = some (.cells #[.slice none 0 0] 76 (0, 0))) (hs : W.heap.size ≤ W1.heap.size) : ∃ B, TwoP W.heap.size g W1.heap.size 0 0 [] [] B W2 := by
  obtain ⟨m, G, hd⟩ := hd
  refine ⟨_, m, G, [], .slice none 0 0, ⟨hd.on hb, ⟨hg, hs, Kind.own_nil _ _ _, (fun r hr => by cases hr), List.Pairwise.nil, (fun r hr => by cases hr), List.Pairwise.nil⟩, fun k hk hr => ?_, rfl, Nat.le_refl _, (fun r hr => by cases hr)⟩, rfl⟩
  have h1 := (hd.blk k hk).2
  rcases hr with hr | hr | ⟨r, hr, _⟩
  · omega
  · cases hr
  · cases hr
end

end Go.Proofs.YticfpkodoghnnaaGreat

/-
  The directories that puts lay (stage 14).
-/
namespace Go.Proofs.YticfpkodoghnnaaGreat
open Go.RowKit

/-- Both directories along a run: all of them is made behind w. -/
def LaidR (w : World) (g h : Nat) (n : Nat) (D : List RowD) (W : World) : Prop := ∃ B, TwoP w.heap.size g h n n D D B W ∧ Below w.heap.size w W
/-- What laid leaves. -/
def LaidP (w : World) (pr : Bool) (l : List Pt) (e : Ending) (w' : World) : Prop := ∃ g h, e = .returned (.tuple #[.pointer (some ⟨g, 0, none⟩), .pointer (some ⟨h, 0, none⟩)]) ∧ LaidR w g h l.length (laidP pr l) w'
theorem LaidR.on {w W W' : World} {g h n : Nat} {D : List RowD} (x : LaidR w g h n D W) (hb : Below W.heap.size W W') : LaidR w g h n D W' := by
  obtain ⟨B, x1, x2⟩ := x
  exact ⟨B, x1.on hb, bel_then x2 x2.size hb⟩

theorem two_below {n0 g h n nr : Nat} {D E : List RowD} {B : Nat → Prop} {W w' : World} (x : TwoP n0 g h n nr D E B W) (hn : n0 ≤ W.heap.size) (f : Fr B W w') : Below n0 W w' := f.below hn fun k hk => (x.blk k hk).1

set_option maxHeartbeats 8000000 in
set_option maxRecDepth 100000 in
theorem laidP_any (v : Value) (l : List Pt) (pr : Bool) (w : World) (hv : KPt.Is w v l) (hx : ∀ x ∈ l, PtIn w x) (hl : l.length ≤ 2300000000000) :
    Calls Tryz.prog 9 #[v, .bool pr] w fun e w' => LaidP w pr l e w' := by
  obtain ⟨p, cap, rfl, hd⟩ := hv
  have HD := hid hd
  have HX := hid hx
  have HN := hid (s_new w)
  clear hd hx
  go_enter Tryz.func9, Tryz.ntmps9
  go_wp2_with fail
  refine HN.out.mono ?_
  rintro e w1 ⟨rfl, hp1, hb1⟩
  have hs1 := hb1.size
  obtain ⟨W2, hW2⟩ : ∃ W2, w1.alloc (.cells #[.slice none 0 0] 76) = W2 := ⟨_, rfl⟩
  have hbW2 : Below w1.heap.size w1 W2 := by rw [← hW2]; exact (Below.refl _ _).alloc (Nat.le_refl _) _
  have H0 : Hid (LaidR w (w.heap.size + 1) w1.heap.size 0 (laidP pr []) W2) := by
    obtain ⟨B, h1⟩ := two_start (W := w) hp1 hbW2 (by rw [← hW2]; exact heap_alloc_new w1 _) hs1
    exact ⟨B, h1, bel_then hb1 hs1 hbW2⟩
  obtain ⟨gg1, hgg1⟩ : ∃ gg1, w.heap.size + 1 = gg1 := ⟨_, rfl⟩
  obtain ⟨gh, hgh⟩ : ∃ gh, w1.heap.size = gh := ⟨_, rfl⟩
  rw [hgg1, hgh] at H0
  clear hp1 hb1 HN hs1 hbW2
  try rw [hgg1]
  go_wp2_with fail
  try rw [hgg1]
  try rw [hW2]
  try rw [hgh]
  clear hW2 hgg1 hgh
  go_loopg [15] l.length (fun gg vi wr => ∃ (i : Nat), vi = .int .i64 i ∧ i ≤ l.length ∧ l.length - i ≤ gg ∧ Hid (LaidR w gg1 gh i (laidP pr (l.take i)) wr))
  case atStart => exact ⟨0, rfl, by omega, by omega, H0.out⟩
  case round =>
    clear H0
    obtain ⟨i, rfl, hi, hgk, HI⟩ := hrel
    by_cases hlt : i < l.length
    · have hltz : (i : Int) < (l.length : Int) := by omega
      have hiz : (0 : Int) ≤ i := by omega
      obtain ⟨b1, o1, rfl, k1⟩ : ∃ b off, p = some ⟨b, off, none⟩ ∧ KPt.At w b off l := by
        rcases HD.out with h | h
        · rw [h] at hlt; simp at hlt
        · exact h
      obtain ⟨B, htw, hbw⟩ := HI.out
      obtain ⟨y0, y1, y2, y3, y4, y5⟩ := kpt_at (Kind.at_kept k1 hbw) i hlt
      have hxi := HX.out _ (List.getElem_mem hlt)
      have htk : l.take (i + 1) = l.take i ++ [l[i]] := List.take_succ_eq_append_getElem hlt
      have HNX := hid (laidP_snoc pr (l.take i) l[i])
      rw [← htk] at HNX
      generalize l[i] = x at *
      obtain ⟨Vb, hVb⟩ : ∃ Vb, wr.alloc (.cells (encPt x).toArray 62) = Vb := ⟨_, rfl⟩
      obtain ⟨Q, hQ⟩ : ∃ Q, wr.heap.size = Q := ⟨_, rfl⟩
      have hbB : Below wr.heap.size wr Vb := by rw [← hVb]; exact (Below.refl _ _).alloc (Nat.le_refl _) _
      have hbx : Vb.heap[Q]? = some (.cells (encPt x).toArray 62 (0, 0)) := by rw [← hVb, ← hQ]; exact heap_alloc_new wr _
      have hQs : Q < Vb.heap.size := (Array.getElem?_eq_some_iff.1 hbx).1
      have hQB : ¬ B Q := fun h => by have := (htw.blk Q h).2; omega
      have hwV : Below w.heap.size w Vb := bel_then hbw hbw.size hbB
      have htV := htw.on hbB
      have hn0 : w.heap.size ≤ Vb.heap.size := hwV.size
      have HP1 := hid (two_put htV (by omega) x.key hxi.kfit x.stamp 0 x.live _ x.o x.val ((hxi.on hwV).is) hxi.fit rfl hxi.lo)
      have HU1 := hid (two_prune htV (by omega) x.stamp)
      have HP2 : Hid (∀ w2, TwoTurn w.heap.size gg1 gh (i + 1) i (putD (laidP pr (l.take i)) x.key x.stamp 0 x.live x.val) (laidP pr (l.take i)) B Vb w2 → w2.heap[Q]? = some (.cells (encPt x).toArray 62 (0, 0)) ∧ Calls Tryz.prog 30 #[.pointer (some ⟨gh, 0, none⟩), .agg #[.string x.key.1, .string x.key.2], .int .u64 x.stamp, .int .i64 0, .bool x.live, .slice x.p x.o.length x.cap] w2 fun r w3 => (∃ a b, r = .returned (.tuple #[.int .i64 a, .int .i64 b])) ∧ LaidR w gg1 gh (i + 1) (putD (laidP pr (l.take i)) x.key x.stamp 0 x.live x.val) w3) := fun w2 t => by
        obtain ⟨B2, t1, t2, t3⟩ := t
        have hb2 := two_below htV hn0 t2
        refine ⟨(t2.block Q hQs hQB).trans hbx, ?_⟩
        refine (two_rput t1 (by omega) x.key hxi.kfit x.stamp 0 x.live _ x.o x.val ((hxi.on (hwV.trans hb2)).is) hxi.fit rfl hxi.lo).mono fun r w3 q => ⟨q.1, ?_⟩
        obtain ⟨B3, u1, u2, u3⟩ := q.2
        exact ⟨B3, u1, (hwV.trans hb2).trans (two_below t1 (Nat.le_trans hn0 hb2.size) u2)⟩
      have HU2 : Hid (∀ w2, TwoTurn w.heap.size gg1 gh i i (pruneD (laidP pr (l.take i)) x.stamp) (laidP pr (l.take i)) B Vb w2 → w2.heap[Q]? = some (.cells (encPt x).toArray 62 (0, 0)) ∧ Calls Tryz.prog 29 #[.pointer (some ⟨gh, 0, none⟩), .int .u64 x.stamp] w2 fun r w3 => (∃ a, r = .returned a) ∧ LaidR w gg1 gh (i + 1) (pruneD (laidP pr (l.take i)) x.stamp) w3) := fun w2 t => by
        obtain ⟨B2, t1, t2, t3⟩ := t
        have hb2 := two_below htV hn0 t2
        refine ⟨(t2.block Q hQs hQB).trans hbx, ?_⟩
        refine (two_rprune t1 (by omega) x.stamp).mono fun r w3 q => ⟨q.1, ?_⟩
        obtain ⟨B3, u1, u2, u3⟩ := q.2
        exact ⟨B3, u1.mono (Nat.le_succ i) (Nat.le_succ i), (hwV.trans hb2).trans (two_below t1 (Nat.le_trans hn0 hb2.size) u2)⟩
      have HSK : Hid (LaidR w gg1 gh (i + 1) (laidP pr (l.take i)) Vb) := ⟨B, htV.mono (Nat.le_succ i) (Nat.le_succ i), hwV⟩
      generalize laidP pr (l.take i) = L at *
      have d0 : Vb.cell? ⟨Q, 0, none⟩ = some (.bool x.prune) := by rw [Lib.cell_of_heap hbx]; rfl
      have d1 : Vb.cell? ⟨Q, 1, none⟩ = some (.string x.a) := by rw [Lib.cell_of_heap hbx]; rfl
      have d2 : Vb.cell? ⟨Q, 2, none⟩ = some (.string x.b) := by rw [Lib.cell_of_heap hbx]; rfl
      have d3 : Vb.cell? ⟨Q, 3, none⟩ = some (.int .u64 x.stamp) := by rw [Lib.cell_of_heap hbx]; rfl
      have d4 : Vb.cell? ⟨Q, 4, none⟩ = some (.bool x.live) := by rw [Lib.cell_of_heap hbx]; rfl
      have d5 : Vb.cell? ⟨Q, 5, none⟩ = some (.slice x.p x.o.length x.cap) := by rw [Lib.cell_of_heap hbx]; rfl
      clear hxi HI k1 htk hbw htw htV hbB hbx hQs hQB hwV hn0
      obtain ⟨xr, xa, xb, xs, xl, xp, xc, xo⟩ := x
      simp only [encPt, Pt.key, Pt.val] at *
      go_upto_region 5 with fail
      try rw [hQ]
      try rw [hVb]
      clear y0 y1 y2 y3 y4 y5 hVb
      cases xr with
      | true =>
        cases pr with
        | true =>
          have HE : Hid (laidP true (l.take (i + 1)) = pruneD L xs) := HNX.out
          go_wp2_with fail
          clear d0 d1 d2 d3 d4 d5
          refine HU1.out.mono ?_
          rintro e w2 ⟨⟨a, rfl⟩, t2⟩
          obtain ⟨q1, q2⟩ := HU2.out w2 t2
          have HC2 := hid q2
          have d3 : w2.cell? ⟨Q, 3, none⟩ = some (.int .u64 xs) := by rw [Lib.cell_of_heap q1]; rfl
          clear q1 q2 t2 HU1 HU2 HP1 HP2
          go_wp2_with fail
          refine HC2.out.mono ?_
          rintro e w3 ⟨⟨a3, rfl⟩, hl3⟩
          have HL3 : Hid (LaidR w gg1 gh (i + 1) (laidP true (l.take (i + 1))) w3) := by rw [HE.out]; exact hl3
          clear hl3 d3
          go_wp2_with fail
          go_roundg (l.length - (i + 1))
          case measure => omega
          exact ⟨i + 1, by go_num, by omega, by omega, HL3.out⟩
        | false =>
          have HL3 : Hid (LaidR w gg1 gh (i + 1) (laidP false (l.take (i + 1))) Vb) := by
            have e : laidP false (l.take (i + 1)) = L := HNX.out
            rw [e]
            exact HSK.out
          clear HU1 HU2 HP1 HP2
          go_wp2_with fail
          go_roundg (l.length - (i + 1))
          case measure => omega
          exact ⟨i + 1, by go_num, by omega, by omega, HL3.out⟩
      | false =>
        have HE : Hid (laidP pr (l.take (i + 1)) = putD L (xa, xb) xs 0 xl (xo.map Fx.fld)) := HNX.out
        go_wp2_with fail
        clear d0 d1 d2 d3 d4 d5
        refine HP1.out.mono ?_
        rintro e w2 ⟨⟨a, b, rfl⟩, t2⟩
        obtain ⟨q1, q2⟩ := HP2.out w2 t2
        have HC2 := hid q2
        have d1 : w2.cell? ⟨Q, 1, none⟩ = some (.string xa) := by rw [Lib.cell_of_heap q1]; rfl
        have d2 : w2.cell? ⟨Q, 2, none⟩ = some (.string xb) := by rw [Lib.cell_of_heap q1]; rfl
        have d3 : w2.cell? ⟨Q, 3, none⟩ = some (.int .u64 xs) := by rw [Lib.cell_of_heap q1]; rfl
        have d4 : w2.cell? ⟨Q, 4, none⟩ = some (.bool xl) := by rw [Lib.cell_of_heap q1]; rfl
        have d5 : w2.cell? ⟨Q, 5, none⟩ = some (.slice xp xo.length xc) := by rw [Lib.cell_of_heap q1]; rfl
        clear q1 q2 t2 HU1 HU2 HP1 HP2
        go_wp2_with fail
        refine HC2.out.mono ?_
        rintro e w3 ⟨⟨a3, b3, rfl⟩, hl3⟩
        have HL3 : Hid (LaidR w gg1 gh (i + 1) (laidP pr (l.take (i + 1))) w3) := by rw [HE.out]; exact hl3
        clear hl3 d1 d2 d3 d4 d5
        go_wp2_with fail
        go_roundg (l.length - (i + 1))
        case measure => omega
        exact ⟨i + 1, by go_num, by omega, by omega, HL3.out⟩
    · have hltz : ¬ (i : Int) < (l.length : Int) := by omega
      have hil : i = l.length := by omega
      have hti : l.take i = l := List.take_of_length_le (by omega)
      rw [hti, hil] at HI
      clear hti
      go_wp2_with fail
      go_ret2
      exact ⟨gg1, gh, rfl, HI.out⟩

end Go.Proofs.YticfpkodoghnnaaGreat

/-
  The laws of stage 7: the chapter's examples, as data.
-/
namespace Go.Proofs.YticfpkodoghnnaaGreat
open Go.RowKit

def fxT : ByteArray := ⟨#[65]⟩
def fxa : Ky := (⟨#[65]⟩, ⟨#[97]⟩)
def fxb : Ky := (⟨#[65]⟩, ⟨#[98]⟩)
def fxc : Ky := (⟨#[97]⟩, ⟨#[98]⟩)
def fxV : List Fld := [(⟨#[110]⟩, [⟨#[120]⟩])]
theorem fx_may : mayB fxV = true := by decide
theorem fx_ka : keyB fxa.1 fxa.2 = true := by decide
theorem fx_kb : keyB fxb.1 fxb.2 = true := by decide
theorem fx_kc : keyB fxc.1 fxc.2 = false := by decide
theorem fx_ne : fxa ≠ fxb := by
  intro h
  have := congrArg (fun k : Ky => k.2.data.toList) h
  simp [fxa, fxb] at this
theorem fx_lt : ltKy fxa fxb = true := by decide
theorem fx_nlt : ltKy fxb fxa = false := by decide

def fv1 : Vr := ⟨1, 1, 0, true, fxV⟩
def fva : Vr := ⟨1, 2, 0, true, []⟩
def fv2 : Vr := ⟨2, 3, 1, false, []⟩
def fD1 : List RowD := [(fxb, [fv1])]
def fD2 : List RowD := [(fxa, [fva]), (fxb, [fv1])]
def fD3 : List RowD := [(fxa, [fva]), (fxb, [fv1, fv2])]

theorem of1b : ofD fD1 fxb = [fv1] := by unfold fD1 ofD; rw [if_pos rfl]
theorem of1a : ofD fD1 fxa = [] := by unfold fD1 ofD; rw [if_neg (fun e => fx_ne e.symm)]; rfl
theorem of2b : ofD fD2 fxb = [fv1] := by unfold fD2 ofD; rw [if_neg fx_ne]; exact of1b
theorem of3b : ofD fD3 fxb = [fv1, fv2] := by unfold fD3 ofD; rw [if_neg fx_ne]; unfold ofD; rw [if_pos rfl]

theorem fc1 : codeD [] fxb 1 true fxV = 0 := by unfold codeD; rw [if_pos fx_kb]; show putC [] 1 true fxV = 0; unfold putC; rw [fx_may]; rfl
theorem fp1 : putD [] fxb 1 0 true fxV = fD1 := by unfold putD; rw [if_pos fc1]; rfl
theorem fn1 : numD [] fxb 1 true fxV = 1 := by unfold numD; rw [if_pos fc1]; rfl
theorem fc2 : codeD fD1 fxa 2 true [] = 0 := by unfold codeD; rw [if_pos fx_ka, of1a]; unfold putC; rw [may_nil]; rfl
theorem fp2 : putD fD1 fxa 2 0 true [] = fD2 := by
  unfold putD; rw [if_pos fc2, of1a]; unfold fD1 setD; rw [if_pos fx_lt]; rfl
theorem fn2 : numD fD1 fxa 2 true [] = 1 := by unfold numD; rw [if_pos fc2, of1a]; rfl
theorem fc3 : codeD fD2 fxb 3 false [] = 0 := by unfold codeD; rw [if_pos fx_kb, of2b]; unfold putC; rw [may_nil]; rfl
theorem fp3 : putD fD2 fxb 3 1 false [] = fD3 := by
  unfold putD; rw [if_pos fc3, of2b]; unfold fD2 setD; rw [fx_nlt, if_neg (by simp), if_neg fx_ne]; unfold setD; rw [totK.irr, if_neg (by simp), if_pos rfl]; rfl
theorem fn3 : numD fD2 fxb 3 false [] = 2 := by unfold numD; rw [if_pos fc3, of2b]; rfl
theorem fc4 : codeD fD3 fxc 9 true [] = 2 := by unfold codeD; rw [fx_kc]; rfl
theorem fp4 : putD fD3 fxc 9 0 true [] = fD3 := by unfold putD; rw [fc4]; rfl
theorem fn4 : numD fD3 fxc 9 true [] = 0 := by unfold numD; rw [fc4]; rfl

theorem fat : atV (ofD fD3 fxb) 1 = some fv1 := by rw [of3b]; rfl
theorem flast : (ofD fD3 fxb).getLast? = some fv2 := by rw [of3b]; rfl
theorem fnum : numV (ofD fD3 fxb) 2 = some fv2 := by rw [of3b]; rfl
theorem ffirst : (ofD fD3 fxb).head? = some fv1 := by rw [of3b]; rfl
theorem fsince : sinceV (ofD fD3 fxb) 1 = [fv2] := by rw [of3b]; rfl
theorem fkeys : (keysD fD3 fxT).length = 2 := by
  unfold keysD fD3
  simp [fxa, fxb, fxT]
theorem fwalk : walkD fD3 2 = [(fxa, fva), (fxb, fv1)] := rfl
theorem fwl : ((walkD fD3 2).take 65537).length = 2 := by rw [fwalk, List.take_of_length_le (by simp)]; rfl
theorem fscan : (scanD fD3 fxT 2 (matchM [])).length = 2 := by
  unfold scanD
  rw [fwalk]
  simp [fxa, fxb, fxT, matchM]
theorem flog : (sinceD fD3 fxT 1).length = 2 := by
  unfold sinceD fD3
  have h1 : sinceV [fva] 1 = [fva] := rfl
  have h2 : sinceV [fv1, fv2] 1 = [fv2] := rfl
  simp [fxa, fxb, fxT, h1, h2]
theorem fcount : countD fD3 = 3 := rfl
theorem fgone : goneD fD3 3 = 1 := rfl

end Go.Proofs.YticfpkodoghnnaaGreat

/-
  The laws of stage 7: the chapter's examples, walked.
-/
namespace Go.Proofs.YticfpkodoghnnaaGreat
open Go.RowKit

/-- A directory whose blocks are all of Q. -/
def DirQ (Q : Nat → Prop) (n0 g n : Nat) (D : List RowD) (W : World) : Prop := ∃ m G, DirM n0 W g m n G D ∧ ∀ b, BlkD g m G D b → Q b

theorem DirQ.s {Q : Nat → Prop} {n0 g n : Nat} {D : List RowD} {W : World} (h : DirQ Q n0 g n D W) : DirS n0 g n D W := by
  obtain ⟨m, G, h, _⟩ := h
  exact ⟨m, G, h⟩
theorem DirQ.on {Q : Nat → Prop} {n0 g n : Nat} {D : List RowD} {W W' : World} (h : DirQ Q n0 g n D W) (hb : Below W.heap.size W W') : DirQ Q n0 g n D W' := by
  obtain ⟨m, G, h, hq⟩ := h
  exact ⟨m, G, h.on hb, hq⟩

theorem q_put {Q : Nat → Prop} {n0 g n : Nat} {D : List RowD} {W : World} (h : DirQ Q n0 g n D W) (hQ : ∀ b, W.heap.size ≤ b → Q b) (hn : n < 2400000000000) (k : Ky) (hk : FitK k) (stamp tick : Int) (live : Bool) (v : Value) (e : List Fx) (val : List Fld) (hv : IsXs W v e) (hf : FitX e) (hval : e.map Fx.fld = val) (h0 : 0 ≤ stamp) :
    Calls Tryz.prog 25 #[.pointer (some ⟨g, 0, none⟩), .agg #[.string k.1, .string k.2], .int .u64 stamp, .int .i64 tick, .bool live, v] W fun r w' =>
      r = .returned (.tuple #[.int .i64 (numD D k stamp live val), .int .i64 (codeD D k stamp live val)]) ∧ DirQ Q n0 g (n + 1) (putD D k stamp tick live val) w' ∧ Fr Q W w' ∧ Below n0 W w' := by
  have hb := h.s.base
  obtain ⟨m, G, h, hq⟩ := h
  refine (dput_any h hn hb k hk stamp tick live v e val hv hf hval h0).mono ?_
  rintro r w' ⟨h1, h2⟩
  have h3 := (turn_dirS h h2).2
  obtain ⟨G', a1, a2, a3⟩ := h2
  refine ⟨h1, ⟨m, G', a1, fun b hb => ?_⟩, a3.mono hq, h3⟩
  rcases a2 b hb with h | h
  · exact hq b h
  · exact hQ b h

theorem fx_is (W : World) : IsXs ((W.alloc (.cells #[.string ⟨#[120]⟩] 9)).alloc (.cells #[.string ⟨#[110]⟩, .slice (some ⟨W.heap.size, 0, none⟩) 1 1] 107)) (.slice (some ⟨W.heap.size + 1, 0, none⟩) 1 1) [⟨⟨#[110]⟩, some ⟨W.heap.size, 0, none⟩, 1, [⟨#[120]⟩]⟩] := by
  have h1 := heap_alloc2_new W (.cells #[.string ⟨#[120]⟩] 9) (.cells #[.string ⟨#[110]⟩, .slice (some ⟨W.heap.size, 0, none⟩) 1 1] 107)
  have h2 := heap_alloc2_old W (.cells #[.string ⟨#[120]⟩] 9) (.cells #[.string ⟨#[110]⟩, .slice (some ⟨W.heap.size, 0, none⟩) 1 1] 107)
  refine ⟨_, _, rfl, Or.inr ⟨_, _, rfl, fun i hi => ?_⟩, fun x hx => ?_⟩
  · have hi' : i = 0 := by simpa using hi
    subst hi'
    exact ⟨by rw [Lib.cell_of_heap h1]; rfl, by rw [Lib.cell_of_heap h1]; rfl⟩
  · rw [List.mem_singleton] at hx
    subst hx
    refine Or.inr ⟨_, _, rfl, fun i hi => ?_⟩
    have hi' : i = 0 := by simpa using hi
    subst hi'
    rw [Lib.cell_of_heap h2]; rfl

theorem fx_fit (a : Option Addr) : FitX [⟨⟨#[110]⟩, a, 1, [⟨#[120]⟩]⟩] := (may_fit (o := [⟨⟨#[110]⟩, a, 1, [⟨#[120]⟩]⟩]) fx_may).1
theorem isx_none (W : World) : IsXs W (.slice none 0 0) [] := ⟨none, 0, rfl, Or.inl rfl, fun x hx => by simp at hx⟩
theorem fitx_none : FitX [] := ⟨Nat.zero_le _, fun x hx => by simp at hx⟩
theorem fx_fa : FitK fxa := key_fit fx_ka
theorem fx_fb : FitK fxb := key_fit fx_kb
theorem fx_fc : FitK fxc := by unfold FitK maxLen; exact ⟨by decide, by decide⟩
theorem vparts {x : Vx} {v : Vr} (h : x.ver = v) : x.num = v.num ∧ x.stamp = v.stamp := by rw [← h]; exact ⟨rfl, rfl⟩

end Go.Proofs.YticfpkodoghnnaaGreat

/-
  The laws of stage 7: two answers held against each other.
-/
namespace Go.Proofs.YticfpkodoghnnaaGreat
open Go.RowKit

theorem val_atJ {w : World} {x : Vx} {N : Nat} (h : OwnJ N w x.sl x.o) : x.at w := h.1.is

theorem sameF_true {W1 w1 W2 w2 : World} {l : List Fnd} {u1 u2 : Value} (h1 : FdPost W1 l (.returned u1) w1) (hb : Below w1.heap.size w1 w2) (h2 : FdPost W2 l (.returned u2) w2) (hl : l.length ≤ 2400000000000) :
    Calls Tryz.prog 16 #[u1, u2] w2 fun r w' => r = .returned (.bool true) ∧ Below w2.heap.size w2 w' := by
  obtain ⟨v1, d, e1, a1, a2, a3, _⟩ := h1
  obtain ⟨v2, e, e2, b1, b2, b3, _⟩ := h2
  injection e1 with e1
  injection e2 with e2
  subst e1 e2
  have hdl : d.length ≤ 2400000000000 := by
    have := congrArg List.length a3
    rw [List.length_map] at this
    omega
  have := sameFd_any u1 u2 d e w2 (Kind.own_is (Kind.own_on a1 hb)) (Kind.own_is b1) (fun x hx => ⟨val_atJ ((a2 x hx).1.on hb), (may_fit (a2 x hx).2).1⟩) (fun x hx => ⟨val_atJ (b2 x hx).1, (may_fit (b2 x hx).2).1⟩) (by unfold maxLen; omega)
  rw [decide_eq_true (a3.trans b3.symm)] at this
  exact this

theorem sameVs_true {W1 w1 W2 w2 : World} {l : List Vr} {u1 u2 : Value} (h1 : AllPost W1 l (.returned u1) w1) (hb : Below w1.heap.size w1 w2) (h2 : AllPost W2 l (.returned u2) w2) (hm : ∀ v ∈ l, mayB v.val = true) (hl : l.length ≤ 2400000000000) :
    Calls Tryz.prog 19 #[u1, u2] w2 fun r w' => r = .returned (.bool true) ∧ Below w2.heap.size w2 w' := by
  obtain ⟨v1, o1, e1, t1, _⟩ := all_told h1
  obtain ⟨v2, o2, e2, t2, _⟩ := all_told h2
  injection e1 with e1
  injection e2 with e2
  subst e1 e2
  have t1' := t1.on hb
  have := sameVs_any u1 u2 o1 o2 w2 (Kind.own_is t1'.own) (Kind.own_is t2.own) (t1'.fits hm) (t2.fits hm) (by have := t1.len; unfold maxLen; omega)
  rw [decide_eq_true (t1'.ver.trans t2.ver.symm)] at this
  exact this

/-- Two versions in boxes. -/
theorem sameV_true {x y : Vx} {o : Option Vr} {w : World} {N M : Nat} (hx : x.ver = o.getD zeroV) (hy : y.ver = o.getD zeroV) (jx : OwnJ N w x.sl x.o) (jy : OwnJ M w y.sl y.o) (hm : ∀ v, o = some v → mayB v.val = true) :
    Calls Tryz.prog 12 #[.agg (encVx x).toArray, .agg (encVx y).toArray] w fun e w' => e = .returned (.bool true) ∧ Below w.heap.size w w' := by
  have := sameV_any x y w jx.1.is jy.1.is (vans_fit hx hm) (vans_fit hy hm)
  rw [decide_eq_true (hx.trans hy.symm)] at this
  exact this

theorem log_same {A B : List RowD} (hA : OkD A) {typ : ByteArray} {t : Int} (he : sinceD B typ t = sinceD A typ t) {W1 w1 W2 w2 : World} {u1 u2 : Value} (h1 : LogPost W1 A typ t (.returned u1) w1) (hb : Below w1.heap.size w1 w2) (h2 : LogPost W2 B typ t (.returned u2) w2) (hl : (sinceD A typ t).length ≤ 2400000000000) :
    Calls Tryz.prog 16 #[u1, u2] w2 fun r w' => r = .returned (.bool true) ∧ Below w2.heap.size w2 w' := by
  obtain ⟨r1, a1, a2, a3⟩ := h1
  obtain ⟨r2, b1, b2, b3⟩ := h2
  rw [he] at b2
  obtain rfl := log_uniq hA a2 b2 a3 b3
  exact sameF_true a1 hb b1 (by rw [a2.length_eq]; exact hl)

end Go.Proofs.YticfpkodoghnnaaGreat

/-
  What the laws of stage 14 lean on of package past: its calls. (Filled in where the package has landed.) Two answers held against each other.
-/
namespace Go.Proofs.YticfpkodoghnnaaGreat
open Go.RowKit

/-- A version and a code, told: it can be read. -/
def RdV (W : World) (r : Option Vr × Int) (e : Ending) (w' : World) : Prop :=
  ∃ x : Vx, e = .returned (.tuple #[.agg (encVx x).toArray, .int .i64 r.2]) ∧ x.ver = r.1.getD zeroV ∧ (x.at w' ∧ FitX x.o) ∧ Below W.heap.size W w'
/-- Versions and a code. -/
def RdVs (W : World) (r : List Vr × Int) (e : Ending) (w' : World) : Prop :=
  ∃ p c o, e = .returned (.tuple #[.slice p o.length c, .int .i64 r.2]) ∧ KV.Is w' (.slice p o.length c) o ∧ (∀ x ∈ o, x.at w' ∧ FitX x.o) ∧ o.map Vx.ver = r.1 ∧ o.length ≤ 2400000000000 ∧ Below W.heap.size W w'
/-- Finds and a code. -/
def RdF (W : World) (r : List Fnd × Int) (e : Ending) (w' : World) : Prop :=
  ∃ p c fs, e = .returned (.tuple #[.slice p fs.length c, .int .i64 r.2]) ∧ KFd.Is w' (.slice p fs.length c) fs ∧ (∀ f ∈ fs, f.v.at w' ∧ FitX f.v.o) ∧ fs.map Fd.fnd = r.1 ∧ fs.length ≤ 2400000000000 ∧ Below W.heap.size W w'

def U64 (s : Int) : Prop := 0 ≤ s ∧ s ≤ 18446744073709551615
/-- A window, as it is handed over. -/
def winV (fl sn : Int) : Value := .agg #[.int .u64 fl, .int .u64 sn]

structure PastApi where
  opn : ∀ (W : World) (fl sn t : Int), Calls Tryz.prog 13 #[winV fl sn, .int .u64 t] W fun e w' => e = .returned (.bool (decide (sn < t))) ∧ Below W.heap.size W w'
  at' : ∀ {n0 g n : Nat} {D : List RowD} {W : World}, DirS n0 g n D W → n ≤ 1760000000000 → ∀ (fl sn t : Int) (k : Ky), U64 fl → U64 sn → U64 t → FitK k → Calls Tryz.prog 10 #[.pointer (some ⟨g, 0, none⟩), winV fl sn, .int .u64 t, .agg #[.string k.1, .string k.2]] W fun e w' => RdV W (pastAt D fl sn t k) e w'
  find : ∀ {n0 g n : Nat} {D : List RowD} {W : World}, DirS n0 g n D W → n ≤ 1760000000000 → ∀ (fl sn t : Int) (typ : ByteArray) (pa : Option Addr) (pc : Nat) (pt : List Tm), U64 fl → U64 sn → U64 t → KM.Is W (.slice pa pt.length pc) pt → FitM pt → Calls Tryz.prog 14 #[.pointer (some ⟨g, 0, none⟩), winV fl sn, .int .u64 t, .string typ, .slice pa pt.length pc] W fun e w' => RdF W (pastFind D fl sn t typ (matchM pt)) e w'
  hist : ∀ {n0 g n : Nat} {D : List RowD} {W : World}, DirS n0 g n D W → n ≤ 1760000000000 → ∀ (fl sn : Int) (k : Ky) (s : Int), U64 fl → U64 sn → U64 s → FitK k → Calls Tryz.prog 17 #[.pointer (some ⟨g, 0, none⟩), winV fl sn, .agg #[.string k.1, .string k.2], .int .u64 s] W fun e w' => RdVs W (pastHist D fl sn k s) e w'
  since : ∀ {n0 g n : Nat} {D : List RowD} {W : World}, DirS n0 g n D W → n ≤ 1760000000000 → ∀ (fl sn : Int) (typ : ByteArray) (s : Int), U64 fl → U64 sn → U64 s → Calls Tryz.prog 20 #[.pointer (some ⟨g, 0, none⟩), winV fl sn, .string typ, .int .u64 s] W fun e w' => ∃ L, PastSince D fl sn typ s L ∧ RdF W L e w'
  num : ∀ {n0 g n : Nat} {D : List RowD} {W : World}, DirS n0 g n D W → n ≤ 1760000000000 → ∀ (fl sn : Int) (k : Ky) (i : Int), U64 fl → U64 sn → FitK k → -9223372036854775808 ≤ i → i ≤ 9223372036854775807 → Calls Tryz.prog 22 #[.pointer (some ⟨g, 0, none⟩), winV fl sn, .agg #[.string k.1, .string k.2], .int .i64 i] W fun e w' => RdV W (pastNum (ofD D k) sn i) e w'

/-! ## Two answers -/

theorem eq14V {x y : Vx} {w : World} (h : x.ver = y.ver) (hx : x.at w ∧ FitX x.o) (hy : y.at w ∧ FitX y.o) : Calls Tryz.prog 12 #[.agg (encVx x).toArray, .agg (encVx y).toArray] w fun e w' => e = .returned (.bool true) ∧ Below w.heap.size w w' := by
  have := sameV_any x y w hx.1 hy.1 hx.2 hy.2
  rw [decide_eq_true h] at this
  exact this
theorem eq14Vs {p q : Option Addr} {c d : Nat} {o o' : List Vx} {w : World} (h : o.map Vx.ver = o'.map Vx.ver) (h1 : KV.Is w (.slice p o.length c) o) (h2 : KV.Is w (.slice q o'.length d) o') (hx : ∀ x ∈ o, x.at w ∧ FitX x.o) (hy : ∀ x ∈ o', x.at w ∧ FitX x.o) (hl : o.length ≤ 2400000000000) :
    Calls Tryz.prog 19 #[.slice p o.length c, .slice q o'.length d] w fun e w' => e = .returned (.bool true) ∧ Below w.heap.size w w' := by
  have := sameVs_any _ _ o o' w h1 h2 hx hy (by unfold maxLen; omega)
  rw [decide_eq_true h] at this
  exact this
theorem eq14F {p q : Option Addr} {c d : Nat} {o o' : List Fd} {w : World} (h : o.map Fd.fnd = o'.map Fd.fnd) (h1 : KFd.Is w (.slice p o.length c) o) (h2 : KFd.Is w (.slice q o'.length d) o') (hx : ∀ f ∈ o, f.v.at w ∧ FitX f.v.o) (hy : ∀ f ∈ o', f.v.at w ∧ FitX f.v.o) (hl : o.length ≤ 2400000000000) :
    Calls Tryz.prog 16 #[.slice p o.length c, .slice q o'.length d] w fun e w' => e = .returned (.bool true) ∧ Below w.heap.size w w' := by
  have := sameFd_any _ _ o o' w h1 h2 hx hy (by unfold maxLen; omega)
  rw [decide_eq_true h] at this
  exact this
theorem vat_on {x : Vx} {w w' : World} (h : x.at w ∧ FitX x.o) (hb : Below w.heap.size w w') : x.at w' ∧ FitX x.o := ⟨h.1.kept hb, h.2⟩

theorem fr_set14 (w : World) (G j : Nat) (u : Value) : Fr (fun b => b = G) w (w.setCell ⟨G, j, none⟩ u) := ⟨rfl, rfl, rfl, by simp, fun k _ hn => heap_setCell_other _ _ k _ hn⟩
theorem xs_off14 {w w' : World} {v : Value} {d : List Fx} {g : Nat} (h : IsXs w v d) (hg : ∀ j s, w.cell? ⟨g, j, none⟩ ≠ some (.string s)) (f : Fr (fun b => b = g) w w') : IsXs w' v d := by
  obtain ⟨p, cap, rfl, h, ht⟩ := h
  refine ⟨p, cap, rfl, ?_, fun x hx => ?_⟩
  · rcases h with h | ⟨b, off, hp, h⟩
    · exact Or.inl h
    · refine Or.inr ⟨b, off, hp, fun i hi => ?_⟩
      have hn : b ≠ g := fun e => by
        rw [e] at h
        exact hg _ _ (h i hi).1
      exact ⟨f.cell (h i hi).1 hn, f.cell (h i hi).2 hn⟩
  · rcases ht x hx with h | ⟨b, off, hp, h⟩
    · exact Or.inl h
    · refine Or.inr ⟨b, off, hp, fun i hi => f.cell (h i hi) fun e => ?_⟩
      have e' : b = g := e
      rw [e'] at h
      exact hg _ _ (h i hi)
/-- A version that can be read stands where a box of another turns. -/
theorem is_setV {w w' : World} {x : Vx} {Z : Nat} {a b c : Int} {d : Bool} {p : Option Addr} {n cc : Nat} (h : x.at w) (hz : w.heap[Z]? = some (.cells #[.int .i64 a, .int .u64 b, .int .i64 c, .bool d, .slice p n cc] 39 (0, 0))) (f : Fr (fun b => b = Z) w w') : x.at w' :=
  xs_off14 h (fun j s e => by
    rw [Lib.cell_of_heap hz] at e
    match j, e with
    | 0, e => cases e
    | 1, e => cases e
    | 2, e => cases e
    | 3, e => cases e
    | 4, e => cases e
    | j + 5, e => simp at e) f
theorem one_box14 (w : World) (c1 : Array Value) (t1 : TypeId) : Below w.heap.size w (w.alloc (.cells c1 t1)) ∧ (w.alloc (.cells c1 t1)).heap[w.heap.size]? = some (.cells c1 t1 (0, 0)) ∧ (w.alloc (.cells c1 t1)).heap.size = w.heap.size + 1 := ⟨(Below.refl _ _).alloc (Nat.le_refl _) _, heap_alloc_new w _, by simp⟩
theorem two_boxes14 (w : World) (c1 c2 : Array Value) (t1 t2 : TypeId) : Below w.heap.size w ((w.alloc (.cells c1 t1)).alloc (.cells c2 t2)) ∧ ((w.alloc (.cells c1 t1)).alloc (.cells c2 t2)).heap[w.heap.size]? = some (.cells c1 t1 (0, 0)) ∧ ((w.alloc (.cells c1 t1)).alloc (.cells c2 t2)).heap[w.heap.size + 1]? = some (.cells c2 t2 (0, 0)) ∧ ((w.alloc (.cells c1 t1)).alloc (.cells c2 t2)).heap.size = w.heap.size + 2 := by
  have hb1 : Below w.heap.size w (w.alloc (.cells c1 t1)) := (Below.refl _ _).alloc (Nat.le_refl _) _
  have hs1 : (w.alloc (.cells c1 t1)).heap.size = w.heap.size + 1 := by simp
  have hb2 : Below (w.alloc (.cells c1 t1)).heap.size (w.alloc (.cells c1 t1)) ((w.alloc (.cells c1 t1)).alloc (.cells c2 t2)) := (Below.refl _ _).alloc (Nat.le_refl _) _
  have h1 : (w.alloc (.cells c1 t1)).heap[w.heap.size]? = some (.cells c1 t1 (0, 0)) := heap_alloc_new w _
  have h2 : ((w.alloc (.cells c1 t1)).alloc (.cells c2 t2)).heap[(w.alloc (.cells c1 t1)).heap.size]? = some (.cells c2 t2 (0, 0)) := heap_alloc_new _ _
  rw [hs1] at h2
  exact ⟨bel_then hb1 hb1.size hb2, (hb2.block _ (by omega)).trans h1, h2, by simp⟩

/-- When two directories answer a question alike. -/
structure AlikeH (D E : List RowD) (fl sn t : Int) (k : Ky) (P : List Fld → Bool) (n : Int) : Prop where
  ok : OkD D
  at' : pastAt D fl sn t k = pastAt E fl sn t k
  find : pastFind D fl sn t k.1 P = pastFind E fl sn t k.1 P
  hist : pastHist D fl sn k t = pastHist E fl sn k t
  since : ∀ L M, PastSince D fl sn k.1 t L → PastSince E fl sn k.1 t M → L = M
  num : pastNum (ofD D k) sn n = pastNum (ofD E k) sn n ∨ (pastNum (ofD D k) sn n = (none, 8) ∧ ∃ v, pastNum (ofD E k) sn n = (some v, 0))

end Go.Proofs.YticfpkodoghnnaaGreat

/-
  The document's answers of the past (stage 14; folioref14): least, At; a key's chain of the document's directory.
-/
namespace Go.Proofs.YticfpkodoghnnaaGreat
open Go.RowKit

/-- A key's chain, found or new. -/
def OfP (W : World) (E : List RowD) (k : Ky) (e : Ending) (w' : World) : Prop :=
  ∃ n0 g d vs gone, e = .returned (.pointer (some ⟨g, 0, none⟩)) ∧ RCx n0 w' g d vs gone ∧ (d.drop gone).map Vx.ver = ofD E k ∧ ((d = [] ∧ gone = 0 ∧ vs = .slice none 0 0) ∨ gone < d.length) ∧ Below W.heap.size W w'
theorem ofp_any {n0 : Nat} {W : World} {h : Nat} {R : List Rr} {vs : Value} (x : RefD n0 W h R vs) (hl : R.length ≤ 2400000000000) (k : Ky) :
    Calls Tryz.prog 33 #[.pointer (some ⟨h, 0, none⟩), .agg #[.string k.1, .string k.2]] W fun e w' => OfP W (R.map Rr.row) k e w' := by
  refine (rof_any x hl k).mono ?_
  rintro e w' ⟨hor, hb⟩
  rcases hor with ⟨r, hr, hk, rfl⟩ | ⟨hno, g, rfl, hg, hgo⟩
  · obtain ⟨q1, q2, q3, q4⟩ := (x.on hb).each r hr
    refine ⟨n0, r.g, r.d, r.vs, r.gone, rfl, q1, ?_, Or.inr ?_, hb⟩
    · rw [← hk, ofD_row x hr, List.map_drop]
      rfl
    · have : r.d.length ≠ 0 := fun e => q2 (List.length_eq_zero_iff.1 e)
      omega
  · exact ⟨W.heap.size, g, [], .slice none 0 0, 0, rfl, rcx_new hg hgo, (ofD_no hno).symm, Or.inl ⟨rfl, rfl, rfl⟩, hb⟩

set_option maxHeartbeats 1000000 in
theorem least_any (a b : Int) (w : World) : Calls Tryz.prog 35 #[.int .u64 a, .int .u64 b] w fun e w' => e = .returned (.int .u64 (min a b)) ∧ w' = w := by
  by_cases h : a < b
  · have e : min a b = a := by omega
    rw [e]
    go_enter Tryz.func35, Tryz.ntmps35
    go_wp2_with fail
    go_ret
    exact ⟨rfl, rfl⟩
  · have e : min a b = b := by omega
    rw [e]
    go_enter Tryz.func35, Tryz.ntmps35
    go_wp2_with fail
    go_ret
    exact ⟨rfl, rfl⟩

/-- What At of a chain told. -/
theorem ansX_is {l : List Vx} {t : Int} {x : Vx} {b : Bool} (h : AnsX l t x b) : b = (atV (l.map Vx.ver) t).isSome ∧ x.ver = (atV (l.map Vx.ver) t).getD zeroV ∧ (x ∈ l ∨ x = zeroVx) := by
  unfold atV
  rcases h with ⟨rfl, h1, h2⟩ | ⟨rfl, h1, rfl⟩
  · rw [if_neg h1, List.getElem?_map, h2]
    exact ⟨rfl, rfl, Or.inl (List.mem_of_getElem? h2)⟩
  · rw [if_pos h1]
    exact ⟨rfl, rfl, Or.inr rfl⟩
theorem zero_rd (w : World) : zeroVx.at w ∧ FitX zeroVx.o := ⟨⟨none, 0, rfl, Or.inl rfl, fun x hx => by cases hx⟩, ⟨by decide, fun x hx => by cases hx⟩⟩
/-- .. and it can be read. -/
theorem rcx_rd {n0 : Nat} {w : World} {g : Nat} {d : List Vx} {vs : Value} {gone : Nat} (h : RCx n0 w g d vs gone) {x : Vx} (hx : x ∈ d.drop gone ∨ x = zeroVx) : x.at w ∧ FitX x.o := by
  rcases hx with hx | rfl
  · exact h.ref.each x (List.mem_of_mem_drop hx)
  · exact zero_rd w

def zeroC : Array Value := #[.int .i64 0, .int .u64 0, .int .i64 0, .bool false, .slice none 0 0]

set_option maxHeartbeats 8000000 in
set_option maxRecDepth 100000 in
theorem rpat_any {n0 : Nat} {W : World} {h : Nat} {R : List Rr} {vs : Value} (x : RefD n0 W h R vs) (hl : R.length ≤ 2400000000000) (fl sn t : Int) (k : Ky) :
    Calls Tryz.prog 11 #[.pointer (some ⟨h, 0, none⟩), .int .u64 fl, .int .u64 sn, .int .u64 t, .agg #[.string k.1, .string k.2]] W fun e w' => RdV W (pastAt (R.map Rr.row) fl sn t k) e w' := by
  obtain ⟨hb0, h1, h2, hs⟩ := two_boxes14 W #[.string k.1, .string k.2] #[.int .i64 0, .int .u64 0, .int .i64 0, .bool false, .slice none 0 0] 31 39
  obtain ⟨V, hV⟩ : ∃ V, (W.alloc (.cells #[.string k.1, .string k.2] 31)).alloc (.cells #[.int .i64 0, .int .u64 0, .int .i64 0, .bool false, .slice none 0 0] 39) = V := ⟨_, rfl⟩
  obtain ⟨Q, hQ⟩ : ∃ Q, W.heap.size = Q := ⟨_, rfl⟩
  rw [hV] at hb0 h1 h2 hs
  rw [hQ] at h1 h2 hs
  have HV := hid hb0
  have HOF := hid (ofp_any (x.on hb0) hl k)
  have a0 : V.cell? ⟨Q, 0, none⟩ = some (.string k.1) := by rw [Lib.cell_of_heap h1]; rfl
  have a1 : V.cell? ⟨Q, 1, none⟩ = some (.string k.2) := by rw [Lib.cell_of_heap h1]; rfl
  have HRB := hid h2
  have HSZ : Hid (V.heap.size = Q + 2) := hs
  have HLE := hid (least_any t sn)
  clear x h1 hb0 hs
  obtain ⟨ka, kb⟩ := k
  simp only at *
  have HQQ : Hid (W.heap.size = Q) := hQ
  by_cases hlow : t < fl
  · have HA : Hid (pastAt (R.map Rr.row) fl sn t (ka, kb) = (none, 8)) := by show _ = _; unfold pastAt; rw [if_pos hlow]
    clear HOF a0 a1 HRB HLE
    rw [HA.out]
    obtain ⟨WZ, hWZ⟩ : ∃ WZ, (((((V.setCell ⟨Q + 1, 0, none⟩ (.int .i64 0)).setCell ⟨Q + 1, 1, none⟩ (.int .u64 0)).setCell ⟨Q + 1, 2, none⟩ (.int .i64 0)).setCell ⟨Q + 1, 3, none⟩ (.bool false)).setCell ⟨Q + 1, 4, none⟩ (.slice none 0 0)) = WZ := ⟨_, rfl⟩
    have hbz : WZ.heap[Q + 1]? = some (.cells #[.int .i64 0, .int .u64 0, .int .i64 0, .bool false, .slice none 0 0] 39 (0, 0)) := by
      rw [← hWZ]
      exact heap_setCell_same _ (Q + 1) 4 _ _ _ (heap_setCell_same _ (Q + 1) 3 _ _ _ (heap_setCell_same _ (Q + 1) 2 _ _ _ (heap_setCell_same _ (Q + 1) 1 _ _ _ (heap_setCell_same _ (Q + 1) 0 _ _ _ (h2)))))
    have fz : Fr (fun b => b = Q + 1) V WZ := by
      rw [← hWZ]
      exact (((((fr_set14 V (Q + 1) 0 _).then (fr_set14 _ (Q + 1) 1 _) fun k hk => Or.inl hk).then (fr_set14 _ (Q + 1) 2 _) fun k hk => Or.inl hk).then (fr_set14 _ (Q + 1) 3 _) fun k hk => Or.inl hk).then (fr_set14 _ (Q + 1) 4 _) fun k hk => Or.inl hk)
    have HFIN : Hid (RdV W (none, 8) (.returned (.tuple #[.agg #[.int .i64 0, .int .u64 0, .int .i64 0, .bool false, .slice none 0 0], .int .i64 8])) WZ) := by
      refine ⟨zeroVx, rfl, rfl, ⟨is_setV (zero_rd V).1 h2 fz, (zero_rd V).2⟩, ?_⟩
      have q := HV.out
      exact q.trans (fz.below q.size fun k hk => by have := HSZ.out; have := HQQ.out; omega)
    have y0 : V.cell? ⟨Q + 1, 0, none⟩ = some (.int .i64 0) := by rw [Lib.cell_of_heap h2]; rfl
    have z0 : V.frozen? ⟨Q + 1, 0, none⟩ = false := Lib.frozen_of_heap h2 0
    have y1 : V.cell? ⟨Q + 1, 1, none⟩ = some (.int .u64 0) := by rw [Lib.cell_of_heap h2]; rfl
    have z1 : V.frozen? ⟨Q + 1, 1, none⟩ = false := Lib.frozen_of_heap h2 1
    have y2 : V.cell? ⟨Q + 1, 2, none⟩ = some (.int .i64 0) := by rw [Lib.cell_of_heap h2]; rfl
    have z2 : V.frozen? ⟨Q + 1, 2, none⟩ = false := Lib.frozen_of_heap h2 2
    have y3 : V.cell? ⟨Q + 1, 3, none⟩ = some (.bool false) := by rw [Lib.cell_of_heap h2]; rfl
    have z3 : V.frozen? ⟨Q + 1, 3, none⟩ = false := Lib.frozen_of_heap h2 3
    have y4 : V.cell? ⟨Q + 1, 4, none⟩ = some (.slice none 0 0) := by rw [Lib.cell_of_heap h2]; rfl
    have z4 : V.frozen? ⟨Q + 1, 4, none⟩ = false := Lib.frozen_of_heap h2 4
    have g0 : WZ.cell? ⟨Q + 1, 0, none⟩ = some (.int .i64 0) := by rw [Lib.cell_of_heap hbz]; rfl
    have g1 : WZ.cell? ⟨Q + 1, 1, none⟩ = some (.int .u64 0) := by rw [Lib.cell_of_heap hbz]; rfl
    have g2 : WZ.cell? ⟨Q + 1, 2, none⟩ = some (.int .i64 0) := by rw [Lib.cell_of_heap hbz]; rfl
    have g3 : WZ.cell? ⟨Q + 1, 3, none⟩ = some (.bool false) := by rw [Lib.cell_of_heap hbz]; rfl
    have g4 : WZ.cell? ⟨Q + 1, 4, none⟩ = some (.slice none 0 0) := by rw [Lib.cell_of_heap hbz]; rfl
    clear hbz fz
    go_enter Tryz.func11, Tryz.ntmps11
    go_upto_region 1 with fail
    try rw [hV]
    try rw [hQ]
    go_wp2_with fail
    try rw [hWZ]
    exact bodyPost_ret (v := .tuple #[.agg #[.int .i64 0, .int .u64 0, .int .i64 0, .bool false, .slice none 0 0], .int .i64 8]) (by simp [results, Tryz.results11, go_sem, g0, g1, g2, g3, g4]) rfl HFIN.out
  · have HA : Hid (∀ o, atV (ofD (R.map Rr.row) (ka, kb)) (min t sn) = o → pastAt (R.map Rr.row) fl sn t (ka, kb) = match o with | some v => (some v, 0) | none => (none, 6)) := fun o ho => by
      unfold pastAt
      rw [if_neg hlow, ho]
      rfl
    generalize pastAt (R.map Rr.row) fl sn t (ka, kb) = PA at *
    clear h2
    go_enter Tryz.func11, Tryz.ntmps11
    go_wp2_with fail
    try rw [hV]
    try rw [hQ]
    clear a0 a1 hV
    refine HOF.out.mono ?_
    rintro e w1 ⟨m0, g, d, vs', gone, rfl, hrc, hof, hdg, hb1⟩
    have HRC := hid hrc
    have HAT : Hid (Calls Tryz.prog 34 #[.pointer (some ⟨g, 0, none⟩), .int .u64 (min t sn)] w1 fun e w' => ∃ x b, e = .returned (.tuple #[.agg (encVx x).toArray, .bool b]) ∧ b = (atV (ofD (R.map Rr.row) (ka, kb)) (min t sn)).isSome ∧ x.ver = (atV (ofD (R.map Rr.row) (ka, kb)) (min t sn)).getD zeroV ∧ (x.at w' ∧ FitX x.o) ∧ Below w1.heap.size w1 w') := by
      refine (rat_any g gone d vs' (min t sn) w1 hrc.ref hrc.prg.ok.rise).mono ?_
      rintro e w' ⟨⟨x, b, he, hax⟩, hb⟩
      obtain ⟨q1, q2, q3⟩ := ansX_is hax
      rw [hof] at q1 q2
      exact ⟨x, b, he, q1, q2, vat_on (rcx_rd hrc q3) hb, hb⟩
    have HB1 := hid hb1
    clear hrc hof hdg hb1 HOF HRC
    generalize atV (ofD (R.map Rr.row) (ka, kb)) (min t sn) = o at *
    go_wp2_with (go_at_call 35; refine (HLE.out _).mono ?_; rintro e w9 ⟨rfl, rfl⟩)
    refine HAT.out.mono ?_
    rintro e w2 ⟨x, b, rfl, hbo, hxv, hxr, hb2⟩
    obtain ⟨X, hX⟩ : ∃ X, w2.heap.size = X := ⟨_, rfl⟩
    obtain ⟨W3, hW3⟩ : ∃ W3, w2.alloc (.cells (encVx x).toArray 39) = W3 := ⟨_, rfl⟩
    have hal : Below w2.heap.size w2 W3 := by rw [← hW3]; exact (Below.refl _ _).alloc (Nat.le_refl _) _
    have hxb : W3.heap[X]? = some (.cells (encVx x).toArray 39 (0, 0)) := by rw [← hW3, ← hX]; exact heap_alloc_new w2 _
    have hb3 : Below V.heap.size V W3 := bel_then HB1.out HB1.out.size (bel_then hb2 hb2.size hal)
    have h2 := (hb3.block (Q + 1) (by have := HSZ.out; omega)).trans HRB.out
    have HB3 : Hid (Below W.heap.size W W3) := bel_then HV.out HV.out.size hb3
    have HXR := hid (vat_on hxr hal)
    have HXV := hid hxv
    have HPA := hid (HA.out o rfl)
    clear hxv hxr hb2 hal hb3 HAT HA HB1 HV HRB
    cases o with
    | none =>
      obtain rfl : b = false := hbo
      have HPA2 : Hid (PA = (none, 6)) := HPA.out
      clear HPA HXR HXV hxb
      obtain ⟨xn, xs, xt, xl, xp, xc, xo⟩ := x
      simp only [encVx, Vx.sl] at *
      obtain ⟨WZ, hWZ⟩ : ∃ WZ, (((((W3.setCell ⟨Q + 1, 0, none⟩ (.int .i64 0)).setCell ⟨Q + 1, 1, none⟩ (.int .u64 0)).setCell ⟨Q + 1, 2, none⟩ (.int .i64 0)).setCell ⟨Q + 1, 3, none⟩ (.bool false)).setCell ⟨Q + 1, 4, none⟩ (.slice none 0 0)) = WZ := ⟨_, rfl⟩
      have hbz : WZ.heap[Q + 1]? = some (.cells #[.int .i64 0, .int .u64 0, .int .i64 0, .bool false, .slice none 0 0] 39 (0, 0)) := by
        rw [← hWZ]
        exact heap_setCell_same _ (Q + 1) 4 _ _ _ (heap_setCell_same _ (Q + 1) 3 _ _ _ (heap_setCell_same _ (Q + 1) 2 _ _ _ (heap_setCell_same _ (Q + 1) 1 _ _ _ (heap_setCell_same _ (Q + 1) 0 _ _ _ (h2)))))
      have fz : Fr (fun b => b = Q + 1) W3 WZ := by
        rw [← hWZ]
        exact (((((fr_set14 W3 (Q + 1) 0 _).then (fr_set14 _ (Q + 1) 1 _) fun k hk => Or.inl hk).then (fr_set14 _ (Q + 1) 2 _) fun k hk => Or.inl hk).then (fr_set14 _ (Q + 1) 3 _) fun k hk => Or.inl hk).then (fr_set14 _ (Q + 1) 4 _) fun k hk => Or.inl hk)
      have HFIN : Hid (RdV W PA (.returned (.tuple #[.agg #[.int .i64 0, .int .u64 0, .int .i64 0, .bool false, .slice none 0 0], .int .i64 6])) WZ) := by
        show RdV W PA _ _; rw [HPA2.out]; refine ⟨zeroVx, rfl, rfl, ⟨is_setV (zero_rd W3).1 h2 fz, (zero_rd W3).2⟩, ?_⟩
        have q := HB3.out
        exact q.trans (fz.below q.size fun k hk => by have := HSZ.out; have := HQQ.out; omega)
      have y0 : W3.cell? ⟨Q + 1, 0, none⟩ = some (.int .i64 0) := by rw [Lib.cell_of_heap h2]; rfl
      have z0 : W3.frozen? ⟨Q + 1, 0, none⟩ = false := Lib.frozen_of_heap h2 0
      have y1 : W3.cell? ⟨Q + 1, 1, none⟩ = some (.int .u64 0) := by rw [Lib.cell_of_heap h2]; rfl
      have z1 : W3.frozen? ⟨Q + 1, 1, none⟩ = false := Lib.frozen_of_heap h2 1
      have y2 : W3.cell? ⟨Q + 1, 2, none⟩ = some (.int .i64 0) := by rw [Lib.cell_of_heap h2]; rfl
      have z2 : W3.frozen? ⟨Q + 1, 2, none⟩ = false := Lib.frozen_of_heap h2 2
      have y3 : W3.cell? ⟨Q + 1, 3, none⟩ = some (.bool false) := by rw [Lib.cell_of_heap h2]; rfl
      have z3 : W3.frozen? ⟨Q + 1, 3, none⟩ = false := Lib.frozen_of_heap h2 3
      have y4 : W3.cell? ⟨Q + 1, 4, none⟩ = some (.slice none 0 0) := by rw [Lib.cell_of_heap h2]; rfl
      have z4 : W3.frozen? ⟨Q + 1, 4, none⟩ = false := Lib.frozen_of_heap h2 4
      have g0 : WZ.cell? ⟨Q + 1, 0, none⟩ = some (.int .i64 0) := by rw [Lib.cell_of_heap hbz]; rfl
      have g1 : WZ.cell? ⟨Q + 1, 1, none⟩ = some (.int .u64 0) := by rw [Lib.cell_of_heap hbz]; rfl
      have g2 : WZ.cell? ⟨Q + 1, 2, none⟩ = some (.int .i64 0) := by rw [Lib.cell_of_heap hbz]; rfl
      have g3 : WZ.cell? ⟨Q + 1, 3, none⟩ = some (.bool false) := by rw [Lib.cell_of_heap hbz]; rfl
      have g4 : WZ.cell? ⟨Q + 1, 4, none⟩ = some (.slice none 0 0) := by rw [Lib.cell_of_heap hbz]; rfl
      clear hbz fz
      go_upto_region 4 with fail
      try rw [hX]
      try rw [hW3]
      go_wp2_with fail
      try rw [hWZ]
      exact bodyPost_ret (v := .tuple #[.agg #[.int .i64 0, .int .u64 0, .int .i64 0, .bool false, .slice none 0 0], .int .i64 6]) (by simp [results, Tryz.results11, go_sem, g0, g1, g2, g3, g4]) rfl HFIN.out
    | some v0 =>
      obtain rfl : b = true := hbo
      have HPA2 : Hid (PA = (some v0, 0)) := HPA.out
      clear HPA
      obtain ⟨xn, xs, xt, xl, xp, xc, xo⟩ := x
      simp only [encVx, Vx.sl] at *
      have d0 : W3.cell? ⟨X, 0, none⟩ = some (.int .i64 xn) := by rw [Lib.cell_of_heap hxb]; rfl
      have d1 : W3.cell? ⟨X, 1, none⟩ = some (.int .u64 xs) := by rw [Lib.cell_of_heap hxb]; rfl
      have d2 : W3.cell? ⟨X, 2, none⟩ = some (.int .i64 xt) := by rw [Lib.cell_of_heap hxb]; rfl
      have d3 : W3.cell? ⟨X, 3, none⟩ = some (.bool xl) := by rw [Lib.cell_of_heap hxb]; rfl
      have d4 : W3.cell? ⟨X, 4, none⟩ = some (.slice xp xo.length xc) := by rw [Lib.cell_of_heap hxb]; rfl
      obtain ⟨WZ, hWZ⟩ : ∃ WZ, (((((W3.setCell ⟨Q + 1, 0, none⟩ (.int .i64 xn)).setCell ⟨Q + 1, 1, none⟩ (.int .u64 xs)).setCell ⟨Q + 1, 2, none⟩ (.int .i64 xt)).setCell ⟨Q + 1, 3, none⟩ (.bool xl)).setCell ⟨Q + 1, 4, none⟩ (.slice xp xo.length xc)) = WZ := ⟨_, rfl⟩
      have hbz : WZ.heap[Q + 1]? = some (.cells #[.int .i64 xn, .int .u64 xs, .int .i64 xt, .bool xl, .slice xp xo.length xc] 39 (0, 0)) := by
        rw [← hWZ]
        exact heap_setCell_same _ (Q + 1) 4 _ _ _ (heap_setCell_same _ (Q + 1) 3 _ _ _ (heap_setCell_same _ (Q + 1) 2 _ _ _ (heap_setCell_same _ (Q + 1) 1 _ _ _ (heap_setCell_same _ (Q + 1) 0 _ _ _ (h2)))))
      have fz : Fr (fun b => b = Q + 1) W3 WZ := by
        rw [← hWZ]
        exact (((((fr_set14 W3 (Q + 1) 0 _).then (fr_set14 _ (Q + 1) 1 _) fun k hk => Or.inl hk).then (fr_set14 _ (Q + 1) 2 _) fun k hk => Or.inl hk).then (fr_set14 _ (Q + 1) 3 _) fun k hk => Or.inl hk).then (fr_set14 _ (Q + 1) 4 _) fun k hk => Or.inl hk)
      have HFIN : Hid (RdV W PA (.returned (.tuple #[.agg #[.int .i64 xn, .int .u64 xs, .int .i64 xt, .bool xl, .slice xp xo.length xc], .int .i64 0])) WZ) := by
        show RdV W PA _ _; rw [HPA2.out]; refine ⟨⟨xn, xs, xt, xl, xp, xc, xo⟩, rfl, HXV.out, ⟨is_setV (HXR.out).1 h2 fz, (HXR.out).2⟩, ?_⟩
        have q := HB3.out
        exact q.trans (fz.below q.size fun k hk => by have := HSZ.out; have := HQQ.out; omega)
      have y0 : W3.cell? ⟨Q + 1, 0, none⟩ = some (.int .i64 0) := by rw [Lib.cell_of_heap h2]; rfl
      have z0 : W3.frozen? ⟨Q + 1, 0, none⟩ = false := Lib.frozen_of_heap h2 0
      have y1 : W3.cell? ⟨Q + 1, 1, none⟩ = some (.int .u64 0) := by rw [Lib.cell_of_heap h2]; rfl
      have z1 : W3.frozen? ⟨Q + 1, 1, none⟩ = false := Lib.frozen_of_heap h2 1
      have y2 : W3.cell? ⟨Q + 1, 2, none⟩ = some (.int .i64 0) := by rw [Lib.cell_of_heap h2]; rfl
      have z2 : W3.frozen? ⟨Q + 1, 2, none⟩ = false := Lib.frozen_of_heap h2 2
      have y3 : W3.cell? ⟨Q + 1, 3, none⟩ = some (.bool false) := by rw [Lib.cell_of_heap h2]; rfl
      have z3 : W3.frozen? ⟨Q + 1, 3, none⟩ = false := Lib.frozen_of_heap h2 3
      have y4 : W3.cell? ⟨Q + 1, 4, none⟩ = some (.slice none 0 0) := by rw [Lib.cell_of_heap h2]; rfl
      have z4 : W3.frozen? ⟨Q + 1, 4, none⟩ = false := Lib.frozen_of_heap h2 4
      have g0 : WZ.cell? ⟨Q + 1, 0, none⟩ = some (.int .i64 xn) := by rw [Lib.cell_of_heap hbz]; rfl
      have g1 : WZ.cell? ⟨Q + 1, 1, none⟩ = some (.int .u64 xs) := by rw [Lib.cell_of_heap hbz]; rfl
      have g2 : WZ.cell? ⟨Q + 1, 2, none⟩ = some (.int .i64 xt) := by rw [Lib.cell_of_heap hbz]; rfl
      have g3 : WZ.cell? ⟨Q + 1, 3, none⟩ = some (.bool xl) := by rw [Lib.cell_of_heap hbz]; rfl
      have g4 : WZ.cell? ⟨Q + 1, 4, none⟩ = some (.slice xp xo.length xc) := by rw [Lib.cell_of_heap hbz]; rfl
      clear hbz fz hxb
      go_upto_region 4 with fail
      try rw [hX]
      try rw [hW3]
      go_wp2_with fail
      try rw [hWZ]
      exact bodyPost_ret (v := .tuple #[.agg #[.int .i64 xn, .int .u64 xs, .int .i64 xt, .bool xl, .slice xp xo.length xc], .int .i64 0]) (by simp [results, Tryz.results11, go_sem, g0, g1, g2, g3, g4]) rfl HFIN.out

end Go.Proofs.YticfpkodoghnnaaGreat

/-
  The document's answers of the past (stage 14; folioref14): History.
-/
namespace Go.Proofs.YticfpkodoghnnaaGreat
open Go.RowKit

theorem sinceX_ver {l : List Vx} (h : RiseV (l.map Vx.ver)) (t : Int) : (sinceX l t).map Vx.ver = sinceV (l.map Vx.ver) t := by
  rw [sinceX_drop l t h]
  unfold sinceV
  rw [List.map_drop]
theorem take_filter_snoc {α : Type} (l : List α) (p : α → Bool) (i : Nat) (hi : i < l.length) : (l.take (i + 1)).filter p = (l.take i).filter p ++ (if p l[i] then [l[i]] else []) := by
  rw [List.take_succ_eq_append_getElem hi, List.filter_append]
  congr 1
  cases h : p l[i] <;> simp [h]

set_option maxHeartbeats 8000000 in
set_option maxRecDepth 100000 in
theorem rphist_any {n0 : Nat} {W : World} {h : Nat} {R : List Rr} {vs : Value} (x : RefD n0 W h R vs) (hl : R.length ≤ 2400000000000) (fl sn : Int) (k : Ky) (s : Int) :
    Calls Tryz.prog 18 #[.pointer (some ⟨h, 0, none⟩), .int .u64 fl, .int .u64 sn, .agg #[.string k.1, .string k.2], .int .u64 s] W fun e w' => RdVs W (pastHist (R.map Rr.row) fl sn k s) e w' := by
  obtain ⟨i0, hi0, hz0, hz1, hz2⟩ := info_parts Tryz.infoVer
  have HI0 := hid hi0
  clear hi0
  obtain ⟨hb0, h1, hs⟩ := one_box14 W #[.string k.1, .string k.2] 31
  obtain ⟨V, hV⟩ : ∃ V, W.alloc (.cells #[.string k.1, .string k.2] 31) = V := ⟨_, rfl⟩
  obtain ⟨Q, hQ⟩ : ∃ Q, W.heap.size = Q := ⟨_, rfl⟩
  rw [hV] at hb0 h1 hs
  rw [hQ] at h1 hs
  have HV := hid hb0
  have HOF := hid (ofp_any (x.on hb0) hl k)
  have a0 : V.cell? ⟨Q, 0, none⟩ = some (.string k.1) := by rw [Lib.cell_of_heap h1]; rfl
  have a1 : V.cell? ⟨Q, 1, none⟩ = some (.string k.2) := by rw [Lib.cell_of_heap h1]; rfl
  clear x h1 hb0 hs
  obtain ⟨ka, kb⟩ := k
  simp only at *
  by_cases hlow : s < fl
  · have HA : Hid (pastHist (R.map Rr.row) fl sn (ka, kb) s = ([], 8)) := by show _ = _; unfold pastHist; rw [if_pos hlow]
    rw [HA.out]
    clear HOF a0 a1
    go_enter Tryz.func18, Tryz.ntmps18
    go_wp2_with fail
    try rw [hV]
    go_ret2
    exact ⟨none, 0, [], rfl, Kind.is_nil _ _, (fun x hx => by cases hx), rfl, by simp, HV.out⟩
  · have HA : Hid (pastHist (R.map Rr.row) fl sn (ka, kb) s = ((sinceV (ofD (R.map Rr.row) (ka, kb)) s).filter (fun v => decide (v.stamp ≤ sn)), 0)) := by show _ = _; unfold pastHist; rw [if_neg hlow]
    rw [HA.out]
    clear HA
    go_enter Tryz.func18, Tryz.ntmps18
    go_wp2_with fail
    try rw [hV]
    try rw [hQ]
    clear a0 a1 hV
    refine HOF.out.mono ?_
    rintro e w1 ⟨m0, g, d, vs', gone, rfl, hrc, hof, hdg, hb1⟩
    have HSI := hid (rsince_any g gone d vs' s w1 hrc.ref)
    have hrise : RiseV ((d.drop gone).map Vx.ver) := by rw [List.map_drop]; exact (ok_drop hrc.prg.ok gone).rise
    have HSV : Hid ((sinceX (d.drop gone) s).map Vx.ver = sinceV (ofD (R.map Rr.row) (ka, kb)) s) := by show _ = _; rw [sinceX_ver hrise, hof]
    have HRD : Hid (∀ W', Below w1.heap.size w1 W' → ∀ z ∈ sinceX (d.drop gone) s, z.at W' ∧ FitX z.o) := fun W' hW z hz => vat_on (rcx_rd hrc (Or.inl (List.mem_filter.1 hz).1)) hW
    have hSl : (sinceX (d.drop gone) s).length ≤ 2400000000000 := by
      have h1 : (sinceX (d.drop gone) s).length ≤ (d.drop gone).length := List.length_filter_le _ _
      rw [List.length_drop] at h1
      have := hrc.ref.few
      omega
    have HB1 : Hid (Below W.heap.size W w1) := bel_then HV.out HV.out.size hb1
    clear hrc hof hdg hb1 hrise HOF HV
    generalize sinceX (d.drop gone) s = SX at *
    go_wp2_with fail
    refine HSI.out.mono ?_
    rintro e w2 ⟨u, rfl, ho2, hb2⟩
    obtain ⟨up, uc, rfl⟩ := Kind.own_shape ho2
    obtain ⟨up', uc', he', hd'⟩ := Kind.own_is ho2
    injection he' with e1 e2 e3
    subst e1 e3
    have HD := hid hd'
    have HB2 : Hid (Below W.heap.size W w2) := bel_then HB1.out HB1.out.size hb2
    have HRD2 : Hid (∀ W', Below w2.heap.size w2 W' → ∀ z ∈ SX, z.at W' ∧ FitX z.o) := fun W' hW => HRD.out W' (bel_then hb2 hb2.size hW)
    clear ho2 hb2 hd' e2 HSI HRD HB1
    go_wp2_with fail
    go_loopg [13, 14] SX.length (fun gg v13 v14 wr => ∃ (i : Nat) (L : List Vx) (lp : Option Addr) (lc : Nat), v13 = .slice lp L.length lc ∧ v14 = .int .i64 i ∧ i ≤ SX.length ∧ SX.length - i ≤ gg ∧ L.length ≤ i ∧ Hid (RowSt KV w2.heap.size w2 (.slice lp L.length lc) L wr ∧ L = (SX.take i).filter fun z => decide (z.stamp ≤ sn)))
    case atStart => exact ⟨0, [], none, 0, rfl, rfl, by omega, by omega, by simp, RowSt.nil KV (Below.refl _ _) (Nat.le_refl _), by simp⟩
    case round =>
      obtain ⟨i, L, lp, lc, rfl, rfl, hi, hgk, hLi, HS⟩ := hrel
      by_cases hlt : i < SX.length
      · have hltz : (i : Int) < (SX.length : Int) := by omega
        have hiz : (0 : Int) ≤ i := by omega
        obtain ⟨b1, o1, rfl, k1⟩ : ∃ b off, up = some ⟨b, off, none⟩ ∧ KV.At w2 b off SX := by
          rcases HD.out with h | h
          · rw [h] at hlt; simp at hlt
          · exact h
        obtain ⟨c0, c1, c2, c3, c4⟩ := kv_at (Kind.at_kept k1 HS.out.1.bel) i hlt
        have HTF := hid (take_filter_snoc SX (fun z => decide (z.stamp ≤ sn)) i hlt)
        generalize SX[i] = z at *
        obtain ⟨zn, zs, zt, zl, zp, zc, zo⟩ := z
        simp only [Vx.sl] at *
        clear k1
        by_cases hzs : zs ≤ sn
        · have HNX : Hid (L ++ [⟨zn, zs, zt, zl, zp, zc, zo⟩] = (SX.take (i + 1)).filter fun z => decide (z.stamp ≤ sn)) := by
            show _ = _
            rw [HTF.out, ← HS.out.2, decide_eq_true hzs]
            rfl
          clear HTF
          go_wp2_with (at_builtin; refine wpList_push KV rfl _ _ 51 rfl i0 _ 56 Tryz.underlying51 HI0.out hz0 hz1 hz2 rfl w2.heap.size w2 _ L rfl (HS.out.1.on ((Below.refl _ _).alloc (Nat.le_refl _) _)) ⟨zn, zs, zt, zl, zp, zc, zo⟩ _ _ _ rfl rfl _ _ (heap_alloc_new _ _) (by unfold maxLen; omega) (by omega) ?_; intro g8 c8 w8 hst8 hg8 hn8; have HS8 := hid hst8; clear hst8 hg8 hn8)
          go_roundg (SX.length - (i + 1))
          case measure => omega
          exact ⟨i + 1, L ++ [⟨zn, zs, zt, zl, zp, zc, zo⟩], some ⟨g8, 0, none⟩, c8, by rw [List.length_append]; rfl, by go_num, by omega, by omega, by rw [List.length_append, List.length_singleton]; omega, by rw [List.length_append]; exact HS8.out, HNX.out⟩
        · have HNX : Hid (L = (SX.take (i + 1)).filter fun z => decide (z.stamp ≤ sn)) := by
            show _ = _
            rw [HTF.out, ← HS.out.2, decide_eq_false hzs]
            simp
          clear HTF
          go_wp2_with fail
          go_roundg (SX.length - (i + 1))
          case measure => omega
          exact ⟨i + 1, L, lp, lc, rfl, by go_num, by omega, by omega, by omega, HS.out.1, HNX.out⟩
      · have hltz : ¬ (i : Int) < (SX.length : Int) := by omega
        have hti : SX.take i = SX := List.take_of_length_le (by omega)
        rw [hti] at HS
        have HFI : Hid (L.map Vx.ver = (sinceV (ofD (R.map Rr.row) (ka, kb)) s).filter (fun v => decide (v.stamp ≤ sn))) := by
          show _ = _
          rw [HS.out.2, ← HSV.out, List.filter_map]
          rfl
        have HLS : Hid (∀ z ∈ L, z ∈ SX) := fun z hz => by rw [HS.out.2] at hz; exact (List.mem_filter.1 hz).1
        go_wp2_with fail
        go_ret2
        exact ⟨lp, lc, L, rfl, Kind.own_is HS.out.1.own, fun z hz => HRD2.out _ HS.out.1.bel z (HLS.out z hz), HFI.out, by omega, bel_then HB2.out HB2.out.size HS.out.1.bel⟩

end Go.Proofs.YticfpkodoghnnaaGreat

/-
  The document's answers of the past (stage 14): First of its directory, Number.
-/
namespace Go.Proofs.YticfpkodoghnnaaGreat
open Go.RowKit

/-- A version and whether there is one. -/
def RdB (W : World) (r : Option Vr) (e : Ending) (w' : World) : Prop :=
  ∃ (x : Vx) (b : Bool), e = .returned (.tuple #[.agg (encVx x).toArray, .bool b]) ∧ b = r.isSome ∧ x.ver = r.getD zeroV ∧ (x.at w' ∧ FitX x.o) ∧ Below W.heap.size W w'

theorem numV_drop {d : List Vx} {gone : Nat} (hok : OkV (d.map Vx.ver)) (hn : NumsV (d.map Vx.ver)) (n : Int) {x : Vx} {b : Bool} (h : (b = true ∧ ∃ k : Nat, n = (k : Int) + 1 ∧ gone ≤ k ∧ d[k]? = some x) ∨ (b = false ∧ (n ≤ gone ∨ (d.length : Int) < n) ∧ x = zeroVx)) :
    b = (numV ((d.drop gone).map Vx.ver) n).isSome ∧ x.ver = (numV ((d.drop gone).map Vx.ver) n).getD zeroV ∧ (x ∈ d.drop gone ∨ x = zeroVx) := by
  rcases h with ⟨rfl, k, rfl, hk, hx⟩ | ⟨rfl, hno, rfl⟩
  · obtain ⟨hkl, hxe⟩ := List.getElem?_eq_some_iff.1 hx
    have hi : k - gone < ((d.drop gone).map Vx.ver).length := by rw [List.length_map, List.length_drop]; omega
    have hg : ((d.drop gone).map Vx.ver)[k - gone] = x.ver := by
      rw [List.getElem_map, List.getElem_drop]
      have e : gone + (k - gone) = k := by omega
      simp only [e, hxe]
    have hnum : x.ver.num = (k : Int) + 1 := by
      have := hn k (by rw [List.length_map]; exact hkl)
      rw [List.getElem_map, hxe] at this
      exact this
    have hf := ok_find (l := (d.drop gone).map Vx.ver) (by rw [List.map_drop]; exact ok_drop hok gone) (k - gone) hi
    rw [hg, hnum] at hf
    rw [hf]
    refine ⟨rfl, rfl, Or.inl ?_⟩
    have hi2 : k - gone < (d.drop gone).length := by rw [List.length_drop]; omega
    have : (d.drop gone)[k - gone] = x := by
      rw [List.getElem_drop]
      have e : gone + (k - gone) = k := by omega
      simp only [e, hxe]
    rw [← this]
    exact List.getElem_mem hi2
  · have : numV ((d.drop gone).map Vx.ver) n = none := by
      unfold numV
      rw [List.find?_eq_none]
      intro v hv he
      rw [List.map_drop] at hv
      obtain ⟨i, hi, rfl⟩ := List.mem_iff_getElem.1 hv
      rw [List.length_drop, List.length_map] at hi
      have he' := of_decide_eq_true he
      rw [List.getElem_drop, hn (gone + i) (by rw [List.length_map]; omega)] at he'
      omega
    rw [this]
    exact ⟨rfl, rfl, Or.inr rfl⟩

set_option maxHeartbeats 8000000 in
set_option maxRecDepth 100000 in
theorem rfirst_any {n0 : Nat} {W : World} {h : Nat} {R : List Rr} {vs : Value} (x : RefD n0 W h R vs) (hl : R.length ≤ 2400000000000) (k : Ky) :
    Calls Tryz.prog 50 #[.pointer (some ⟨h, 0, none⟩), .agg #[.string k.1, .string k.2]] W fun e w' => RdB W (ofD (R.map Rr.row) k).head? e w' := by
  obtain ⟨hb0, h1, h2, hs⟩ := two_boxes14 W #[.string k.1, .string k.2] #[.int .i64 0, .int .u64 0, .int .i64 0, .bool false, .slice none 0 0] 31 39
  obtain ⟨V, hV⟩ : ∃ V, (W.alloc (.cells #[.string k.1, .string k.2] 31)).alloc (.cells #[.int .i64 0, .int .u64 0, .int .i64 0, .bool false, .slice none 0 0] 39) = V := ⟨_, rfl⟩
  obtain ⟨Q, hQ⟩ : ∃ Q, W.heap.size = Q := ⟨_, rfl⟩
  rw [hV] at hb0 h1 h2 hs
  rw [hQ] at h1 h2 hs
  have HV := hid hb0
  have HOF := hid (ofp_any (x.on hb0) hl k)
  have a0 : V.cell? ⟨Q, 0, none⟩ = some (.string k.1) := by rw [Lib.cell_of_heap h1]; rfl
  have a1 : V.cell? ⟨Q, 1, none⟩ = some (.string k.2) := by rw [Lib.cell_of_heap h1]; rfl
  have HRB := hid h2
  have HSZ : Hid (V.heap.size = Q + 2) := hs
  have HQQ : Hid (W.heap.size = Q) := hQ
  clear x h1 h2 hb0 hs
  obtain ⟨ka, kb⟩ := k
  simp only at *
  obtain ⟨HD0, hHD0⟩ : ∃ HD0, (ofD (R.map Rr.row) (ka, kb)).head? = HD0 := ⟨_, rfl⟩
  rw [hHD0]
  have HH0 := hid hHD0
  clear hHD0
  go_enter Tryz.func50, Tryz.ntmps50
  go_wp2_with fail
  try rw [hV]
  try rw [hQ]
  clear a0 a1 hV
  refine HOF.out.mono ?_
  rintro e w1 ⟨m0, g, d, vs', gone, rfl, hrc, hof, hdg, hb1⟩
  obtain ⟨dp, dc, hvs⟩ := Kind.own_shape hrc.prg.row
  have hcap : d.length ≤ dc ∧ (d = [] → vs' = .slice none 0 0 → dp = none ∧ dc = 0) := by
    refine ⟨?_, fun _ e => ?_⟩
    · rcases (show w1.ownsRow m0 39 5 vs' d.length (KV.cells d) from hrc.prg.row).2 with ⟨_, e0⟩ | ⟨g', c', cur, e1, _, _, e4, _⟩
      · omega
      · rw [hvs] at e1
        injection e1 with _ _ e3
        omega
    · rw [hvs] at e
      injection e with e1 _ e3
      exact ⟨e1, e3⟩
  have hrefc := hrc.ref
  rw [hvs] at hrefc
  have HALL : Hid (Calls Tryz.prog 76 #[.pointer (some ⟨g, 0, none⟩)] w1 fun e w' => ∃ p c, e = .returned (.slice p (d.drop gone).length c) ∧ KV.Is w' (.slice p (d.drop gone).length c) (d.drop gone) ∧ Below w1.heap.size w1 w') := by
    refine (rall_any g gone dc dp d w1 hrefc hcap.1 ?_).mono ?_
    · rcases hdg with ⟨q1, q2, q3⟩ | q
      · obtain ⟨q4, q5⟩ := hcap.2 q1 q3
        exact Or.inl ⟨q1, q4, q5, q2⟩
      · exact Or.inr q
    · rintro e w' ⟨u, rfl, hu, n, rfl⟩
      have hb : Below w1.heap.size w1 (w1.drewN n) := bel_drewN (Below.refl _ _) n
      obtain ⟨p, c, rfl, _⟩ := id hu
      exact ⟨p, c, rfl, Kind.is_kept hu hb, hb⟩
  have HRD : Hid (∀ W', Below w1.heap.size w1 W' → ∀ z ∈ d.drop gone, z.at W' ∧ FitX z.o) := fun W' hW z hz => vat_on (rcx_rd hrc (Or.inl hz)) hW
  have HHD : Hid (HD0 = (d.drop gone).head?.map Vx.ver) := by show _ = _; rw [← HH0.out, ← hof, List.head?_map]
  have hDl : (d.drop gone).length ≤ 2400000000000 := by
    rw [List.length_drop]
    have := hrc.ref.few
    omega
  have HB1 := hid hb1
  clear hrc hof hdg hb1 hrefc hcap hvs HOF
  generalize d.drop gone = SX at *
  go_wp2_with fail
  refine HALL.out.mono ?_
  rintro e w2 ⟨up, uc, rfl, hu, hb2⟩
  have hb3 : Below V.heap.size V w2 := bel_then HB1.out HB1.out.size hb2
  have h2 := (hb3.block (Q + 1) (by have := HSZ.out; omega)).trans HRB.out
  have HB3 : Hid (Below W.heap.size W w2) := bel_then HV.out HV.out.size hb3
  have HRD2 := hid (HRD.out w2 hb2)
  have HU := hid hu
  clear hb3 hb2 hu HALL HRD HB1 HV HRB
  cases SX with
  | nil =>
    have HPA2 : Hid (HD0 = none) := HHD.out
    clear HHD HRD2 HU
    simp only [List.length_nil] at *
    obtain ⟨WZ, hWZ⟩ : ∃ WZ, (((((w2.setCell ⟨Q + 1, 0, none⟩ (.int .i64 0)).setCell ⟨Q + 1, 1, none⟩ (.int .u64 0)).setCell ⟨Q + 1, 2, none⟩ (.int .i64 0)).setCell ⟨Q + 1, 3, none⟩ (.bool false)).setCell ⟨Q + 1, 4, none⟩ (.slice none 0 0)) = WZ := ⟨_, rfl⟩
    have hbz : WZ.heap[Q + 1]? = some (.cells #[.int .i64 0, .int .u64 0, .int .i64 0, .bool false, .slice none 0 0] 39 (0, 0)) := by
      rw [← hWZ]
      exact heap_setCell_same _ (Q + 1) 4 _ _ _ (heap_setCell_same _ (Q + 1) 3 _ _ _ (heap_setCell_same _ (Q + 1) 2 _ _ _ (heap_setCell_same _ (Q + 1) 1 _ _ _ (heap_setCell_same _ (Q + 1) 0 _ _ _ (h2)))))
    have fz : Fr (fun b => b = Q + 1) w2 WZ := by
      rw [← hWZ]
      exact (((((fr_set14 w2 (Q + 1) 0 _).then (fr_set14 _ (Q + 1) 1 _) fun k hk => Or.inl hk).then (fr_set14 _ (Q + 1) 2 _) fun k hk => Or.inl hk).then (fr_set14 _ (Q + 1) 3 _) fun k hk => Or.inl hk).then (fr_set14 _ (Q + 1) 4 _) fun k hk => Or.inl hk)
    have HFIN : Hid (RdB W HD0 (.returned (.tuple #[.agg #[.int .i64 0, .int .u64 0, .int .i64 0, .bool false, .slice none 0 0], .bool false])) WZ) := by
      show RdB W HD0 _ _; rw [HPA2.out]; refine ⟨zeroVx, false, rfl, rfl, rfl, ⟨is_setV (zero_rd w2).1 h2 fz, (zero_rd w2).2⟩, ?_⟩
      have q := HB3.out
      exact q.trans (fz.below q.size fun k hk => by have := HSZ.out; have := HQQ.out; omega)
    have y0 : w2.cell? ⟨Q + 1, 0, none⟩ = some (.int .i64 0) := by rw [Lib.cell_of_heap h2]; rfl
    have z0 : w2.frozen? ⟨Q + 1, 0, none⟩ = false := Lib.frozen_of_heap h2 0
    have y1 : w2.cell? ⟨Q + 1, 1, none⟩ = some (.int .u64 0) := by rw [Lib.cell_of_heap h2]; rfl
    have z1 : w2.frozen? ⟨Q + 1, 1, none⟩ = false := Lib.frozen_of_heap h2 1
    have y2 : w2.cell? ⟨Q + 1, 2, none⟩ = some (.int .i64 0) := by rw [Lib.cell_of_heap h2]; rfl
    have z2 : w2.frozen? ⟨Q + 1, 2, none⟩ = false := Lib.frozen_of_heap h2 2
    have y3 : w2.cell? ⟨Q + 1, 3, none⟩ = some (.bool false) := by rw [Lib.cell_of_heap h2]; rfl
    have z3 : w2.frozen? ⟨Q + 1, 3, none⟩ = false := Lib.frozen_of_heap h2 3
    have y4 : w2.cell? ⟨Q + 1, 4, none⟩ = some (.slice none 0 0) := by rw [Lib.cell_of_heap h2]; rfl
    have z4 : w2.frozen? ⟨Q + 1, 4, none⟩ = false := Lib.frozen_of_heap h2 4
    have g0 : WZ.cell? ⟨Q + 1, 0, none⟩ = some (.int .i64 0) := by rw [Lib.cell_of_heap hbz]; rfl
    have g1 : WZ.cell? ⟨Q + 1, 1, none⟩ = some (.int .u64 0) := by rw [Lib.cell_of_heap hbz]; rfl
    have g2 : WZ.cell? ⟨Q + 1, 2, none⟩ = some (.int .i64 0) := by rw [Lib.cell_of_heap hbz]; rfl
    have g3 : WZ.cell? ⟨Q + 1, 3, none⟩ = some (.bool false) := by rw [Lib.cell_of_heap hbz]; rfl
    have g4 : WZ.cell? ⟨Q + 1, 4, none⟩ = some (.slice none 0 0) := by rw [Lib.cell_of_heap hbz]; rfl
    clear hbz fz
    go_wp2_with fail
    try rw [hWZ]
    exact bodyPost_ret (v := .tuple #[.agg #[.int .i64 0, .int .u64 0, .int .i64 0, .bool false, .slice none 0 0], .bool false]) (by simp [results, Tryz.results50, go_sem, g0, g1, g2, g3, g4]) rfl HFIN.out
  | cons x SX =>
    have HPA2 : Hid (HD0 = some x.ver) := HHD.out
    have HXR := hid (HRD2.out x List.mem_cons_self)
    obtain ⟨up', uc', he, hd⟩ := HU.out
    injection he with e1 e2 e3
    subst e1 e3
    obtain ⟨b1, o1, rfl, k1⟩ : ∃ b off, up = some ⟨b, off, none⟩ ∧ KV.At w2 b off (x :: SX) := by
      rcases hd with h | h
      · cases h
      · exact h
    obtain ⟨c0, c1, c2, c3, c4⟩ := kv_at k1 0 (by simp)
    simp only [List.getElem_cons_zero, Nat.zero_mul, Nat.add_zero, List.length_cons] at *
    clear hd k1 e2 HHD HRD2 HU
    obtain ⟨xn, xs, xt, xl, xp, xc, xo⟩ := x
    simp only [Vx.sl] at *
    have hne : ((((SX.length + 1 : Nat) : Int)) == 0) = false := by rw [beq_eq_false_iff_ne]; omega
    have hne2 : (((SX.length : Int) + 1) == 0) = false := by rw [beq_eq_false_iff_ne]; omega
    have hpos : (0 : Int) < (SX.length : Int) + 1 := by omega
    obtain ⟨WZ, hWZ⟩ : ∃ WZ, (((((w2.setCell ⟨Q + 1, 0, none⟩ (.int .i64 xn)).setCell ⟨Q + 1, 1, none⟩ (.int .u64 xs)).setCell ⟨Q + 1, 2, none⟩ (.int .i64 xt)).setCell ⟨Q + 1, 3, none⟩ (.bool xl)).setCell ⟨Q + 1, 4, none⟩ (.slice xp xo.length xc)) = WZ := ⟨_, rfl⟩
    have hbz : WZ.heap[Q + 1]? = some (.cells #[.int .i64 xn, .int .u64 xs, .int .i64 xt, .bool xl, .slice xp xo.length xc] 39 (0, 0)) := by
      rw [← hWZ]
      exact heap_setCell_same _ (Q + 1) 4 _ _ _ (heap_setCell_same _ (Q + 1) 3 _ _ _ (heap_setCell_same _ (Q + 1) 2 _ _ _ (heap_setCell_same _ (Q + 1) 1 _ _ _ (heap_setCell_same _ (Q + 1) 0 _ _ _ (h2)))))
    have fz : Fr (fun b => b = Q + 1) w2 WZ := by
      rw [← hWZ]
      exact (((((fr_set14 w2 (Q + 1) 0 _).then (fr_set14 _ (Q + 1) 1 _) fun k hk => Or.inl hk).then (fr_set14 _ (Q + 1) 2 _) fun k hk => Or.inl hk).then (fr_set14 _ (Q + 1) 3 _) fun k hk => Or.inl hk).then (fr_set14 _ (Q + 1) 4 _) fun k hk => Or.inl hk)
    have HFIN : Hid (RdB W HD0 (.returned (.tuple #[.agg #[.int .i64 xn, .int .u64 xs, .int .i64 xt, .bool xl, .slice xp xo.length xc], .bool true])) WZ) := by
      show RdB W HD0 _ _; rw [HPA2.out]; refine ⟨⟨xn, xs, xt, xl, xp, xc, xo⟩, true, rfl, rfl, rfl, ⟨is_setV (HXR.out).1 h2 fz, (HXR.out).2⟩, ?_⟩
      have q := HB3.out
      exact q.trans (fz.below q.size fun k hk => by have := HSZ.out; have := HQQ.out; omega)
    have y0 : w2.cell? ⟨Q + 1, 0, none⟩ = some (.int .i64 0) := by rw [Lib.cell_of_heap h2]; rfl
    have z0 : w2.frozen? ⟨Q + 1, 0, none⟩ = false := Lib.frozen_of_heap h2 0
    have y1 : w2.cell? ⟨Q + 1, 1, none⟩ = some (.int .u64 0) := by rw [Lib.cell_of_heap h2]; rfl
    have z1 : w2.frozen? ⟨Q + 1, 1, none⟩ = false := Lib.frozen_of_heap h2 1
    have y2 : w2.cell? ⟨Q + 1, 2, none⟩ = some (.int .i64 0) := by rw [Lib.cell_of_heap h2]; rfl
    have z2 : w2.frozen? ⟨Q + 1, 2, none⟩ = false := Lib.frozen_of_heap h2 2
    have y3 : w2.cell? ⟨Q + 1, 3, none⟩ = some (.bool false) := by rw [Lib.cell_of_heap h2]; rfl
    have z3 : w2.frozen? ⟨Q + 1, 3, none⟩ = false := Lib.frozen_of_heap h2 3
    have y4 : w2.cell? ⟨Q + 1, 4, none⟩ = some (.slice none 0 0) := by rw [Lib.cell_of_heap h2]; rfl
    have z4 : w2.frozen? ⟨Q + 1, 4, none⟩ = false := Lib.frozen_of_heap h2 4
    have g0 : WZ.cell? ⟨Q + 1, 0, none⟩ = some (.int .i64 xn) := by rw [Lib.cell_of_heap hbz]; rfl
    have g1 : WZ.cell? ⟨Q + 1, 1, none⟩ = some (.int .u64 xs) := by rw [Lib.cell_of_heap hbz]; rfl
    have g2 : WZ.cell? ⟨Q + 1, 2, none⟩ = some (.int .i64 xt) := by rw [Lib.cell_of_heap hbz]; rfl
    have g3 : WZ.cell? ⟨Q + 1, 3, none⟩ = some (.bool xl) := by rw [Lib.cell_of_heap hbz]; rfl
    have g4 : WZ.cell? ⟨Q + 1, 4, none⟩ = some (.slice xp xo.length xc) := by rw [Lib.cell_of_heap hbz]; rfl
    clear hbz fz
    go_wp2_with fail
    try rw [hWZ]
    exact bodyPost_ret (v := .tuple #[.agg #[.int .i64 xn, .int .u64 xs, .int .i64 xt, .bool xl, .slice xp xo.length xc], .bool true]) (by simp [results, Tryz.results50, go_sem, g0, g1, g2, g3, g4]) rfl HFIN.out

set_option maxHeartbeats 8000000 in
set_option maxRecDepth 100000 in
theorem rpnum_any {n0 : Nat} {W : World} {h : Nat} {R : List Rr} {vs : Value} (x : RefD n0 W h R vs) (hl : R.length ≤ 2400000000000) (sn : Int) (k : Ky) (n : Int) :
    Calls Tryz.prog 23 #[.pointer (some ⟨h, 0, none⟩), .int .u64 sn, .agg #[.string k.1, .string k.2], .int .i64 n] W fun e w' => RdV W (pastNum (ofD (R.map Rr.row) k) sn n) e w' := by
  obtain ⟨hb0, h1, h2, hs⟩ := two_boxes14 W #[.string k.1, .string k.2] #[.int .i64 0, .int .u64 0, .int .i64 0, .bool false, .slice none 0 0] 31 39
  obtain ⟨V, hV⟩ : ∃ V, (W.alloc (.cells #[.string k.1, .string k.2] 31)).alloc (.cells #[.int .i64 0, .int .u64 0, .int .i64 0, .bool false, .slice none 0 0] 39) = V := ⟨_, rfl⟩
  obtain ⟨Q, hQ⟩ : ∃ Q, W.heap.size = Q := ⟨_, rfl⟩
  rw [hV] at hb0 h1 h2 hs
  rw [hQ] at h1 h2 hs
  have HV := hid hb0
  have HOF := hid (ofp_any (x.on hb0) hl k)
  have HFI : Hid (∀ W', Below W.heap.size W W' → Calls Tryz.prog 50 #[.pointer (some ⟨h, 0, none⟩), .agg #[.string k.1, .string k.2]] W' fun e w' => RdB W' (ofD (R.map Rr.row) k).head? e w') := fun W' hW => rfirst_any (x.on hW) hl k
  have HKB : Hid (∀ W', Below V.heap.size V W' → W'.cell? ⟨Q, 0, none⟩ = some (.string k.1) ∧ W'.cell? ⟨Q, 1, none⟩ = some (.string k.2)) := fun W' hW => by
    have e1 := (hW.block Q (by omega)).trans h1
    exact ⟨by rw [Lib.cell_of_heap e1]; rfl, by rw [Lib.cell_of_heap e1]; rfl⟩
  obtain ⟨a0, a1⟩ := HKB.out V (Below.refl _ _)
  have HRB := hid h2
  have HSZ : Hid (V.heap.size = Q + 2) := hs
  have HQQ : Hid (W.heap.size = Q) := hQ
  clear x h1 hb0 hs
  obtain ⟨ka, kb⟩ := k
  simp only at *
  by_cases hn1 : n < 1
  · have HA : Hid (pastNum (ofD (R.map Rr.row) (ka, kb)) sn n = (none, 1)) := by show _ = _; unfold pastNum; rw [if_pos hn1]
    clear HOF a0 a1 HRB HFI
    rw [HA.out]
    obtain ⟨WZ, hWZ⟩ : ∃ WZ, (((((V.setCell ⟨Q + 1, 0, none⟩ (.int .i64 0)).setCell ⟨Q + 1, 1, none⟩ (.int .u64 0)).setCell ⟨Q + 1, 2, none⟩ (.int .i64 0)).setCell ⟨Q + 1, 3, none⟩ (.bool false)).setCell ⟨Q + 1, 4, none⟩ (.slice none 0 0)) = WZ := ⟨_, rfl⟩
    have hbz : WZ.heap[Q + 1]? = some (.cells #[.int .i64 0, .int .u64 0, .int .i64 0, .bool false, .slice none 0 0] 39 (0, 0)) := by
      rw [← hWZ]
      exact heap_setCell_same _ (Q + 1) 4 _ _ _ (heap_setCell_same _ (Q + 1) 3 _ _ _ (heap_setCell_same _ (Q + 1) 2 _ _ _ (heap_setCell_same _ (Q + 1) 1 _ _ _ (heap_setCell_same _ (Q + 1) 0 _ _ _ (h2)))))
    have fz : Fr (fun b => b = Q + 1) V WZ := by
      rw [← hWZ]
      exact (((((fr_set14 V (Q + 1) 0 _).then (fr_set14 _ (Q + 1) 1 _) fun k hk => Or.inl hk).then (fr_set14 _ (Q + 1) 2 _) fun k hk => Or.inl hk).then (fr_set14 _ (Q + 1) 3 _) fun k hk => Or.inl hk).then (fr_set14 _ (Q + 1) 4 _) fun k hk => Or.inl hk)
    have HFIN : Hid (RdV W (none, 1) (.returned (.tuple #[.agg #[.int .i64 0, .int .u64 0, .int .i64 0, .bool false, .slice none 0 0], .int .i64 1])) WZ) := by
      refine ⟨zeroVx, rfl, rfl, ⟨is_setV (zero_rd V).1 h2 fz, (zero_rd V).2⟩, ?_⟩
      have q := HV.out
      exact q.trans (fz.below q.size fun k hk => by have := HSZ.out; have := HQQ.out; omega)
    have y0 : V.cell? ⟨Q + 1, 0, none⟩ = some (.int .i64 0) := by rw [Lib.cell_of_heap h2]; rfl
    have z0 : V.frozen? ⟨Q + 1, 0, none⟩ = false := Lib.frozen_of_heap h2 0
    have y1 : V.cell? ⟨Q + 1, 1, none⟩ = some (.int .u64 0) := by rw [Lib.cell_of_heap h2]; rfl
    have z1 : V.frozen? ⟨Q + 1, 1, none⟩ = false := Lib.frozen_of_heap h2 1
    have y2 : V.cell? ⟨Q + 1, 2, none⟩ = some (.int .i64 0) := by rw [Lib.cell_of_heap h2]; rfl
    have z2 : V.frozen? ⟨Q + 1, 2, none⟩ = false := Lib.frozen_of_heap h2 2
    have y3 : V.cell? ⟨Q + 1, 3, none⟩ = some (.bool false) := by rw [Lib.cell_of_heap h2]; rfl
    have z3 : V.frozen? ⟨Q + 1, 3, none⟩ = false := Lib.frozen_of_heap h2 3
    have y4 : V.cell? ⟨Q + 1, 4, none⟩ = some (.slice none 0 0) := by rw [Lib.cell_of_heap h2]; rfl
    have z4 : V.frozen? ⟨Q + 1, 4, none⟩ = false := Lib.frozen_of_heap h2 4
    have g0 : WZ.cell? ⟨Q + 1, 0, none⟩ = some (.int .i64 0) := by rw [Lib.cell_of_heap hbz]; rfl
    have g1 : WZ.cell? ⟨Q + 1, 1, none⟩ = some (.int .u64 0) := by rw [Lib.cell_of_heap hbz]; rfl
    have g2 : WZ.cell? ⟨Q + 1, 2, none⟩ = some (.int .i64 0) := by rw [Lib.cell_of_heap hbz]; rfl
    have g3 : WZ.cell? ⟨Q + 1, 3, none⟩ = some (.bool false) := by rw [Lib.cell_of_heap hbz]; rfl
    have g4 : WZ.cell? ⟨Q + 1, 4, none⟩ = some (.slice none 0 0) := by rw [Lib.cell_of_heap hbz]; rfl
    clear hbz fz
    go_enter Tryz.func23, Tryz.ntmps23
    go_upto_region 1 with fail
    try rw [hV]
    try rw [hQ]
    go_wp2_with fail
    try rw [hWZ]
    exact bodyPost_ret (v := .tuple #[.agg #[.int .i64 0, .int .u64 0, .int .i64 0, .bool false, .slice none 0 0], .int .i64 1]) (by simp [results, Tryz.results23, go_sem, g0, g1, g2, g3, g4]) rfl HFIN.out
  · have HA : Hid (∀ o, numV (ofD (R.map Rr.row) (ka, kb)) n = o → pastNum (ofD (R.map Rr.row) (ka, kb)) sn n = match o with | some v => (if v.stamp ≤ sn then (some v, 0) else (none, pastTail (ofD (R.map Rr.row) (ka, kb)) n)) | none => (none, pastTail (ofD (R.map Rr.row) (ka, kb)) n)) := fun o ho => by
      unfold pastNum
      rw [if_neg hn1, ho]
      rfl
    have HTL : Hid (∀ f, (ofD (R.map Rr.row) (ka, kb)).head? = f → pastTail (ofD (R.map Rr.row) (ka, kb)) n = match f with | some f => if n < f.num then 8 else 6 | none => 6) := fun f hf => by
      unfold pastTail
      rw [hf]
      rfl
    generalize pastNum (ofD (R.map Rr.row) (ka, kb)) sn n = PA at *
    clear h2
    go_enter Tryz.func23, Tryz.ntmps23
    go_wp2_with fail
    try rw [hV]
    try rw [hQ]
    clear a0 a1 hV
    refine HOF.out.mono ?_
    rintro e w1 ⟨m0, g, d, vs', gone, rfl, hrc, hof, hdg, hb1⟩
    have HNU : Hid (Calls Tryz.prog 49 #[.pointer (some ⟨g, 0, none⟩), .int .i64 n] w1 fun e w' => ∃ x b, e = .returned (.tuple #[.agg (encVx x).toArray, .bool b]) ∧ b = (numV (ofD (R.map Rr.row) (ka, kb)) n).isSome ∧ x.ver = (numV (ofD (R.map Rr.row) (ka, kb)) n).getD zeroV ∧ (x.at w' ∧ FitX x.o) ∧ Below w1.heap.size w1 w') := by
      refine (rnum_any g gone d vs' n w1 hrc.ref).mono ?_
      rintro e w' ⟨⟨x, b, he, hax⟩, hb⟩
      obtain ⟨q1, q2, q3⟩ := numV_drop hrc.prg.ok hrc.nums n hax
      rw [hof] at q1 q2
      exact ⟨x, b, he, q1, q2, vat_on (rcx_rd hrc q3) hb, hb⟩
    have HB1 := hid hb1
    clear hrc hof hdg hb1 HOF
    generalize numV (ofD (R.map Rr.row) (ka, kb)) n = o at *
    generalize pastTail (ofD (R.map Rr.row) (ka, kb)) n = PT at *
    generalize (ofD (R.map Rr.row) (ka, kb)).head? = F0 at *
    go_wp2_with fail
    refine HNU.out.mono ?_
    rintro e w2 ⟨x, b, rfl, hbo, hxv, hxr, hb2⟩
    obtain ⟨X, hX⟩ : ∃ X, w2.heap.size = X := ⟨_, rfl⟩
    obtain ⟨W3, hW3⟩ : ∃ W3, w2.alloc (.cells (encVx x).toArray 39) = W3 := ⟨_, rfl⟩
    have hal : Below w2.heap.size w2 W3 := by rw [← hW3]; exact (Below.refl _ _).alloc (Nat.le_refl _) _
    have hxb : W3.heap[X]? = some (.cells (encVx x).toArray 39 (0, 0)) := by rw [← hW3, ← hX]; exact heap_alloc_new w2 _
    have hb3 : Below V.heap.size V W3 := bel_then HB1.out HB1.out.size (bel_then hb2 hb2.size hal)
    have h2 := (hb3.block (Q + 1) (by have := HSZ.out; omega)).trans HRB.out
    have HH2 := hid h2
    have HBV3 := hid hb3
    have HB3 : Hid (Below W.heap.size W W3) := bel_then HV.out HV.out.size hb3
    have HXR := hid (vat_on hxr hal)
    have HXV := hid hxv
    have HPA := hid (HA.out o rfl)
    have HPT := hid (HTL.out F0 rfl)
    have HF3 := hid (HFI.out W3 HB3.out)
    obtain ⟨a0, a1⟩ := HKB.out W3 hb3
    clear hxv hxr hb2 hal hb3 HNU HA HB1 HTL HFI
    /- the rest where no version is told -/
    have hcase : (∃ v0, o = some v0 ∧ v0.stamp ≤ sn) ∨ (PA = (none, PT) ∧ (b = false ∨ (b = true ∧ ¬ x.stamp ≤ sn))) := by
      cases o with
      | none => exact Or.inr ⟨HPA.out, Or.inl hbo⟩
      | some v0 =>
        have hxs : x.stamp = v0.stamp := congrArg Vr.stamp HXV.out
        by_cases hv : v0.stamp ≤ sn
        · exact Or.inl ⟨v0, rfl, hv⟩
        · refine Or.inr ⟨?_, Or.inr ⟨hbo, by rw [hxs]; exact hv⟩⟩
          have := HPA.out
          simp only at this
          rw [if_neg hv] at this
          exact this
    obtain ⟨xn, xs, xt, xl, xp, xc, xo⟩ := x
    simp only [encVx, Vx.sl] at *
    have d0 : W3.cell? ⟨X, 0, none⟩ = some (.int .i64 xn) := by rw [Lib.cell_of_heap hxb]; rfl
    have d1 : W3.cell? ⟨X, 1, none⟩ = some (.int .u64 xs) := by rw [Lib.cell_of_heap hxb]; rfl
    have d2 : W3.cell? ⟨X, 2, none⟩ = some (.int .i64 xt) := by rw [Lib.cell_of_heap hxb]; rfl
    have d3 : W3.cell? ⟨X, 3, none⟩ = some (.bool xl) := by rw [Lib.cell_of_heap hxb]; rfl
    have d4 : W3.cell? ⟨X, 4, none⟩ = some (.slice xp xo.length xc) := by rw [Lib.cell_of_heap hxb]; rfl
    rcases hcase with ⟨v0, rfl, hv⟩ | ⟨hpa, hbs⟩
    · obtain rfl : b = true := hbo
      have hxs : xs ≤ sn := by
        have e : xs = v0.stamp := congrArg Vr.stamp HXV.out
        rw [e]; exact hv
      have HPA2 : Hid (PA = (some v0, 0)) := by
        have := HPA.out
        simp only at this
        rw [if_pos hv] at this
        exact this
      clear HPA HPT HF3 hv a0 a1
      obtain ⟨WZ, hWZ⟩ : ∃ WZ, (((((W3.setCell ⟨Q + 1, 0, none⟩ (.int .i64 xn)).setCell ⟨Q + 1, 1, none⟩ (.int .u64 xs)).setCell ⟨Q + 1, 2, none⟩ (.int .i64 xt)).setCell ⟨Q + 1, 3, none⟩ (.bool xl)).setCell ⟨Q + 1, 4, none⟩ (.slice xp xo.length xc)) = WZ := ⟨_, rfl⟩
      have hbz : WZ.heap[Q + 1]? = some (.cells #[.int .i64 xn, .int .u64 xs, .int .i64 xt, .bool xl, .slice xp xo.length xc] 39 (0, 0)) := by
        rw [← hWZ]
        exact heap_setCell_same _ (Q + 1) 4 _ _ _ (heap_setCell_same _ (Q + 1) 3 _ _ _ (heap_setCell_same _ (Q + 1) 2 _ _ _ (heap_setCell_same _ (Q + 1) 1 _ _ _ (heap_setCell_same _ (Q + 1) 0 _ _ _ (h2)))))
      have fz : Fr (fun b => b = Q + 1) W3 WZ := by
        rw [← hWZ]
        exact (((((fr_set14 W3 (Q + 1) 0 _).then (fr_set14 _ (Q + 1) 1 _) fun k hk => Or.inl hk).then (fr_set14 _ (Q + 1) 2 _) fun k hk => Or.inl hk).then (fr_set14 _ (Q + 1) 3 _) fun k hk => Or.inl hk).then (fr_set14 _ (Q + 1) 4 _) fun k hk => Or.inl hk)
      have HFIN : Hid (RdV W PA (.returned (.tuple #[.agg #[.int .i64 xn, .int .u64 xs, .int .i64 xt, .bool xl, .slice xp xo.length xc], .int .i64 0])) WZ) := by
        show RdV W PA _ _; rw [HPA2.out]; refine ⟨⟨xn, xs, xt, xl, xp, xc, xo⟩, rfl, HXV.out, ⟨is_setV (HXR.out).1 h2 fz, (HXR.out).2⟩, ?_⟩
        have q := HB3.out
        exact q.trans (fz.below q.size fun k hk => by have := HSZ.out; have := HQQ.out; omega)
      have y0 : W3.cell? ⟨Q + 1, 0, none⟩ = some (.int .i64 0) := by rw [Lib.cell_of_heap h2]; rfl
      have z0 : W3.frozen? ⟨Q + 1, 0, none⟩ = false := Lib.frozen_of_heap h2 0
      have y1 : W3.cell? ⟨Q + 1, 1, none⟩ = some (.int .u64 0) := by rw [Lib.cell_of_heap h2]; rfl
      have z1 : W3.frozen? ⟨Q + 1, 1, none⟩ = false := Lib.frozen_of_heap h2 1
      have y2 : W3.cell? ⟨Q + 1, 2, none⟩ = some (.int .i64 0) := by rw [Lib.cell_of_heap h2]; rfl
      have z2 : W3.frozen? ⟨Q + 1, 2, none⟩ = false := Lib.frozen_of_heap h2 2
      have y3 : W3.cell? ⟨Q + 1, 3, none⟩ = some (.bool false) := by rw [Lib.cell_of_heap h2]; rfl
      have z3 : W3.frozen? ⟨Q + 1, 3, none⟩ = false := Lib.frozen_of_heap h2 3
      have y4 : W3.cell? ⟨Q + 1, 4, none⟩ = some (.slice none 0 0) := by rw [Lib.cell_of_heap h2]; rfl
      have z4 : W3.frozen? ⟨Q + 1, 4, none⟩ = false := Lib.frozen_of_heap h2 4
      have g0 : WZ.cell? ⟨Q + 1, 0, none⟩ = some (.int .i64 xn) := by rw [Lib.cell_of_heap hbz]; rfl
      have g1 : WZ.cell? ⟨Q + 1, 1, none⟩ = some (.int .u64 xs) := by rw [Lib.cell_of_heap hbz]; rfl
      have g2 : WZ.cell? ⟨Q + 1, 2, none⟩ = some (.int .i64 xt) := by rw [Lib.cell_of_heap hbz]; rfl
      have g3 : WZ.cell? ⟨Q + 1, 3, none⟩ = some (.bool xl) := by rw [Lib.cell_of_heap hbz]; rfl
      have g4 : WZ.cell? ⟨Q + 1, 4, none⟩ = some (.slice xp xo.length xc) := by rw [Lib.cell_of_heap hbz]; rfl
      clear hbz fz hxb
      go_upto_region 4 with fail
      try rw [hX]
      try rw [hW3]
      go_wp2_with fail
      try rw [hWZ]
      exact bodyPost_ret (v := .tuple #[.agg #[.int .i64 xn, .int .u64 xs, .int .i64 xt, .bool xl, .slice xp xo.length xc], .int .i64 0]) (by simp [results, Tryz.results23, go_sem, g0, g1, g2, g3, g4]) rfl HFIN.out
    · have HPN := hid hpa
      have HH9 := hid h2
      clear hpa HPA HXR HXV hbo h2 hxb
      rcases hbs with rfl | ⟨rfl, hxs⟩
      · go_upto_region 4 with fail
        try rw [hX]
        try rw [hW3]
        clear hX hW3
        go_wp2_with fail
        clear HH9 a0 a1 d0 d1 d2 d3 d4
        refine HF3.out.mono ?_
        rintro e w4 ⟨y, b9, rfl, hb9, hyv, hyr, hb4⟩
        obtain ⟨Y, hY⟩ : ∃ Y, w4.heap.size = Y := ⟨_, rfl⟩
        obtain ⟨W5, hW5⟩ : ∃ W5, w4.alloc (.cells (encVx y).toArray 39) = W5 := ⟨_, rfl⟩
        have hal5 : Below w4.heap.size w4 W5 := by rw [← hW5]; exact (Below.refl _ _).alloc (Nat.le_refl _) _
        have hyb : W5.heap[Y]? = some (.cells (encVx y).toArray 39 (0, 0)) := by rw [← hW5, ← hY]; exact heap_alloc_new w4 _
        have hb35 : Below W3.heap.size W3 W5 := bel_then hb4 hb4.size hal5
        have h2 := (hb35.block (Q + 1) (by have := HBV3.out.size; have := HSZ.out; omega)).trans HH2.out
        have HB5 : Hid (Below W.heap.size W W5) := bel_then HB3.out HB3.out.size hb35
        have HYN : Hid (y.num = (F0.getD zeroV).num) := congrArg Vr.num hyv
        clear hyv hyr hb4 hal5 hb35 HF3 HH2 HBV3 HB3
        obtain ⟨yn, ys, yt, yl, yp, yc, yo⟩ := y
        simp only [encVx, Vx.sl] at *
        have t0 : W5.cell? ⟨Y, 0, none⟩ = some (.int .i64 yn) := by rw [Lib.cell_of_heap hyb]; rfl
        clear hyb
        cases F0 with
        | none =>
            have HPA2 : Hid (PA = (none, 6)) := by show _ = _; rw [HPN.out, HPT.out]
            obtain rfl : b9 = false := hb9
            obtain ⟨WZ, hWZ⟩ : ∃ WZ, (((((W5.setCell ⟨Q + 1, 0, none⟩ (.int .i64 0)).setCell ⟨Q + 1, 1, none⟩ (.int .u64 0)).setCell ⟨Q + 1, 2, none⟩ (.int .i64 0)).setCell ⟨Q + 1, 3, none⟩ (.bool false)).setCell ⟨Q + 1, 4, none⟩ (.slice none 0 0)) = WZ := ⟨_, rfl⟩
            have hbz : WZ.heap[Q + 1]? = some (.cells #[.int .i64 0, .int .u64 0, .int .i64 0, .bool false, .slice none 0 0] 39 (0, 0)) := by
              rw [← hWZ]
              exact heap_setCell_same _ (Q + 1) 4 _ _ _ (heap_setCell_same _ (Q + 1) 3 _ _ _ (heap_setCell_same _ (Q + 1) 2 _ _ _ (heap_setCell_same _ (Q + 1) 1 _ _ _ (heap_setCell_same _ (Q + 1) 0 _ _ _ (h2)))))
            have fz : Fr (fun b => b = Q + 1) W5 WZ := by
              rw [← hWZ]
              exact (((((fr_set14 W5 (Q + 1) 0 _).then (fr_set14 _ (Q + 1) 1 _) fun k hk => Or.inl hk).then (fr_set14 _ (Q + 1) 2 _) fun k hk => Or.inl hk).then (fr_set14 _ (Q + 1) 3 _) fun k hk => Or.inl hk).then (fr_set14 _ (Q + 1) 4 _) fun k hk => Or.inl hk)
            have HFIN : Hid (RdV W PA (.returned (.tuple #[.agg #[.int .i64 0, .int .u64 0, .int .i64 0, .bool false, .slice none 0 0], .int .i64 6])) WZ) := by
              show RdV W PA _ _; rw [HPA2.out]; refine ⟨zeroVx, rfl, rfl, ⟨is_setV (zero_rd W5).1 h2 fz, (zero_rd W5).2⟩, ?_⟩
              have q := HB5.out
              exact q.trans (fz.below q.size fun k hk => by have := HSZ.out; have := HQQ.out; omega)
            have y0 : W5.cell? ⟨Q + 1, 0, none⟩ = some (.int .i64 0) := by rw [Lib.cell_of_heap h2]; rfl
            have z0 : W5.frozen? ⟨Q + 1, 0, none⟩ = false := Lib.frozen_of_heap h2 0
            have y1 : W5.cell? ⟨Q + 1, 1, none⟩ = some (.int .u64 0) := by rw [Lib.cell_of_heap h2]; rfl
            have z1 : W5.frozen? ⟨Q + 1, 1, none⟩ = false := Lib.frozen_of_heap h2 1
            have y2 : W5.cell? ⟨Q + 1, 2, none⟩ = some (.int .i64 0) := by rw [Lib.cell_of_heap h2]; rfl
            have z2 : W5.frozen? ⟨Q + 1, 2, none⟩ = false := Lib.frozen_of_heap h2 2
            have y3 : W5.cell? ⟨Q + 1, 3, none⟩ = some (.bool false) := by rw [Lib.cell_of_heap h2]; rfl
            have z3 : W5.frozen? ⟨Q + 1, 3, none⟩ = false := Lib.frozen_of_heap h2 3
            have y4 : W5.cell? ⟨Q + 1, 4, none⟩ = some (.slice none 0 0) := by rw [Lib.cell_of_heap h2]; rfl
            have z4 : W5.frozen? ⟨Q + 1, 4, none⟩ = false := Lib.frozen_of_heap h2 4
            have g0 : WZ.cell? ⟨Q + 1, 0, none⟩ = some (.int .i64 0) := by rw [Lib.cell_of_heap hbz]; rfl
            have g1 : WZ.cell? ⟨Q + 1, 1, none⟩ = some (.int .u64 0) := by rw [Lib.cell_of_heap hbz]; rfl
            have g2 : WZ.cell? ⟨Q + 1, 2, none⟩ = some (.int .i64 0) := by rw [Lib.cell_of_heap hbz]; rfl
            have g3 : WZ.cell? ⟨Q + 1, 3, none⟩ = some (.bool false) := by rw [Lib.cell_of_heap hbz]; rfl
            have g4 : WZ.cell? ⟨Q + 1, 4, none⟩ = some (.slice none 0 0) := by rw [Lib.cell_of_heap hbz]; rfl
            clear hbz fz
            go_upto_region 7 with fail
            try rw [hY]
            try rw [hW5]
            go_wp2_with fail
            try rw [hWZ]
            exact bodyPost_ret (v := .tuple #[.agg #[.int .i64 0, .int .u64 0, .int .i64 0, .bool false, .slice none 0 0], .int .i64 6]) (by simp [results, Tryz.results23, go_sem, g0, g1, g2, g3, g4]) rfl HFIN.out
        | some f0 =>
            have hyf : yn = f0.num := HYN.out
            subst hyf
            obtain rfl : b9 = true := hb9
            by_cases hnf : n < f0.num
            · have HPA2 : Hid (PA = (none, 8)) := by show _ = _; rw [HPN.out, HPT.out]; show ((none : Option Vr), if n < f0.num then (8 : Int) else 6) = _; rw [if_pos hnf]
              have hnf2 : f0.num > n := hnf
              obtain ⟨WZ, hWZ⟩ : ∃ WZ, (((((W5.setCell ⟨Q + 1, 0, none⟩ (.int .i64 0)).setCell ⟨Q + 1, 1, none⟩ (.int .u64 0)).setCell ⟨Q + 1, 2, none⟩ (.int .i64 0)).setCell ⟨Q + 1, 3, none⟩ (.bool false)).setCell ⟨Q + 1, 4, none⟩ (.slice none 0 0)) = WZ := ⟨_, rfl⟩
              have hbz : WZ.heap[Q + 1]? = some (.cells #[.int .i64 0, .int .u64 0, .int .i64 0, .bool false, .slice none 0 0] 39 (0, 0)) := by
                rw [← hWZ]
                exact heap_setCell_same _ (Q + 1) 4 _ _ _ (heap_setCell_same _ (Q + 1) 3 _ _ _ (heap_setCell_same _ (Q + 1) 2 _ _ _ (heap_setCell_same _ (Q + 1) 1 _ _ _ (heap_setCell_same _ (Q + 1) 0 _ _ _ (h2)))))
              have fz : Fr (fun b => b = Q + 1) W5 WZ := by
                rw [← hWZ]
                exact (((((fr_set14 W5 (Q + 1) 0 _).then (fr_set14 _ (Q + 1) 1 _) fun k hk => Or.inl hk).then (fr_set14 _ (Q + 1) 2 _) fun k hk => Or.inl hk).then (fr_set14 _ (Q + 1) 3 _) fun k hk => Or.inl hk).then (fr_set14 _ (Q + 1) 4 _) fun k hk => Or.inl hk)
              have HFIN : Hid (RdV W PA (.returned (.tuple #[.agg #[.int .i64 0, .int .u64 0, .int .i64 0, .bool false, .slice none 0 0], .int .i64 8])) WZ) := by
                show RdV W PA _ _; rw [HPA2.out]; refine ⟨zeroVx, rfl, rfl, ⟨is_setV (zero_rd W5).1 h2 fz, (zero_rd W5).2⟩, ?_⟩
                have q := HB5.out
                exact q.trans (fz.below q.size fun k hk => by have := HSZ.out; have := HQQ.out; omega)
              have y0 : W5.cell? ⟨Q + 1, 0, none⟩ = some (.int .i64 0) := by rw [Lib.cell_of_heap h2]; rfl
              have z0 : W5.frozen? ⟨Q + 1, 0, none⟩ = false := Lib.frozen_of_heap h2 0
              have y1 : W5.cell? ⟨Q + 1, 1, none⟩ = some (.int .u64 0) := by rw [Lib.cell_of_heap h2]; rfl
              have z1 : W5.frozen? ⟨Q + 1, 1, none⟩ = false := Lib.frozen_of_heap h2 1
              have y2 : W5.cell? ⟨Q + 1, 2, none⟩ = some (.int .i64 0) := by rw [Lib.cell_of_heap h2]; rfl
              have z2 : W5.frozen? ⟨Q + 1, 2, none⟩ = false := Lib.frozen_of_heap h2 2
              have y3 : W5.cell? ⟨Q + 1, 3, none⟩ = some (.bool false) := by rw [Lib.cell_of_heap h2]; rfl
              have z3 : W5.frozen? ⟨Q + 1, 3, none⟩ = false := Lib.frozen_of_heap h2 3
              have y4 : W5.cell? ⟨Q + 1, 4, none⟩ = some (.slice none 0 0) := by rw [Lib.cell_of_heap h2]; rfl
              have z4 : W5.frozen? ⟨Q + 1, 4, none⟩ = false := Lib.frozen_of_heap h2 4
              have g0 : WZ.cell? ⟨Q + 1, 0, none⟩ = some (.int .i64 0) := by rw [Lib.cell_of_heap hbz]; rfl
              have g1 : WZ.cell? ⟨Q + 1, 1, none⟩ = some (.int .u64 0) := by rw [Lib.cell_of_heap hbz]; rfl
              have g2 : WZ.cell? ⟨Q + 1, 2, none⟩ = some (.int .i64 0) := by rw [Lib.cell_of_heap hbz]; rfl
              have g3 : WZ.cell? ⟨Q + 1, 3, none⟩ = some (.bool false) := by rw [Lib.cell_of_heap hbz]; rfl
              have g4 : WZ.cell? ⟨Q + 1, 4, none⟩ = some (.slice none 0 0) := by rw [Lib.cell_of_heap hbz]; rfl
              clear hbz fz
              go_upto_region 7 with fail
              try rw [hY]
              try rw [hW5]
              go_wp2_with fail
              try rw [hWZ]
              exact bodyPost_ret (v := .tuple #[.agg #[.int .i64 0, .int .u64 0, .int .i64 0, .bool false, .slice none 0 0], .int .i64 8]) (by simp [results, Tryz.results23, go_sem, g0, g1, g2, g3, g4]) rfl HFIN.out
            · have HPA2 : Hid (PA = (none, 6)) := by show _ = _; rw [HPN.out, HPT.out]; show ((none : Option Vr), if n < f0.num then (8 : Int) else 6) = _; rw [if_neg hnf]
              have hnf2 : ¬ f0.num > n := hnf
              obtain ⟨WZ, hWZ⟩ : ∃ WZ, (((((W5.setCell ⟨Q + 1, 0, none⟩ (.int .i64 0)).setCell ⟨Q + 1, 1, none⟩ (.int .u64 0)).setCell ⟨Q + 1, 2, none⟩ (.int .i64 0)).setCell ⟨Q + 1, 3, none⟩ (.bool false)).setCell ⟨Q + 1, 4, none⟩ (.slice none 0 0)) = WZ := ⟨_, rfl⟩
              have hbz : WZ.heap[Q + 1]? = some (.cells #[.int .i64 0, .int .u64 0, .int .i64 0, .bool false, .slice none 0 0] 39 (0, 0)) := by
                rw [← hWZ]
                exact heap_setCell_same _ (Q + 1) 4 _ _ _ (heap_setCell_same _ (Q + 1) 3 _ _ _ (heap_setCell_same _ (Q + 1) 2 _ _ _ (heap_setCell_same _ (Q + 1) 1 _ _ _ (heap_setCell_same _ (Q + 1) 0 _ _ _ (h2)))))
              have fz : Fr (fun b => b = Q + 1) W5 WZ := by
                rw [← hWZ]
                exact (((((fr_set14 W5 (Q + 1) 0 _).then (fr_set14 _ (Q + 1) 1 _) fun k hk => Or.inl hk).then (fr_set14 _ (Q + 1) 2 _) fun k hk => Or.inl hk).then (fr_set14 _ (Q + 1) 3 _) fun k hk => Or.inl hk).then (fr_set14 _ (Q + 1) 4 _) fun k hk => Or.inl hk)
              have HFIN : Hid (RdV W PA (.returned (.tuple #[.agg #[.int .i64 0, .int .u64 0, .int .i64 0, .bool false, .slice none 0 0], .int .i64 6])) WZ) := by
                show RdV W PA _ _; rw [HPA2.out]; refine ⟨zeroVx, rfl, rfl, ⟨is_setV (zero_rd W5).1 h2 fz, (zero_rd W5).2⟩, ?_⟩
                have q := HB5.out
                exact q.trans (fz.below q.size fun k hk => by have := HSZ.out; have := HQQ.out; omega)
              have y0 : W5.cell? ⟨Q + 1, 0, none⟩ = some (.int .i64 0) := by rw [Lib.cell_of_heap h2]; rfl
              have z0 : W5.frozen? ⟨Q + 1, 0, none⟩ = false := Lib.frozen_of_heap h2 0
              have y1 : W5.cell? ⟨Q + 1, 1, none⟩ = some (.int .u64 0) := by rw [Lib.cell_of_heap h2]; rfl
              have z1 : W5.frozen? ⟨Q + 1, 1, none⟩ = false := Lib.frozen_of_heap h2 1
              have y2 : W5.cell? ⟨Q + 1, 2, none⟩ = some (.int .i64 0) := by rw [Lib.cell_of_heap h2]; rfl
              have z2 : W5.frozen? ⟨Q + 1, 2, none⟩ = false := Lib.frozen_of_heap h2 2
              have y3 : W5.cell? ⟨Q + 1, 3, none⟩ = some (.bool false) := by rw [Lib.cell_of_heap h2]; rfl
              have z3 : W5.frozen? ⟨Q + 1, 3, none⟩ = false := Lib.frozen_of_heap h2 3
              have y4 : W5.cell? ⟨Q + 1, 4, none⟩ = some (.slice none 0 0) := by rw [Lib.cell_of_heap h2]; rfl
              have z4 : W5.frozen? ⟨Q + 1, 4, none⟩ = false := Lib.frozen_of_heap h2 4
              have g0 : WZ.cell? ⟨Q + 1, 0, none⟩ = some (.int .i64 0) := by rw [Lib.cell_of_heap hbz]; rfl
              have g1 : WZ.cell? ⟨Q + 1, 1, none⟩ = some (.int .u64 0) := by rw [Lib.cell_of_heap hbz]; rfl
              have g2 : WZ.cell? ⟨Q + 1, 2, none⟩ = some (.int .i64 0) := by rw [Lib.cell_of_heap hbz]; rfl
              have g3 : WZ.cell? ⟨Q + 1, 3, none⟩ = some (.bool false) := by rw [Lib.cell_of_heap hbz]; rfl
              have g4 : WZ.cell? ⟨Q + 1, 4, none⟩ = some (.slice none 0 0) := by rw [Lib.cell_of_heap hbz]; rfl
              clear hbz fz
              go_upto_region 7 with fail
              try rw [hY]
              try rw [hW5]
              go_wp2_with fail
              try rw [hWZ]
              exact bodyPost_ret (v := .tuple #[.agg #[.int .i64 0, .int .u64 0, .int .i64 0, .bool false, .slice none 0 0], .int .i64 6]) (by simp [results, Tryz.results23, go_sem, g0, g1, g2, g3, g4]) rfl HFIN.out
      · go_upto_region 4 with fail
        try rw [hX]
        try rw [hW3]
        clear hX hW3
        go_wp2_with fail
        clear HH9 a0 a1 d0 d1 d2 d3 d4
        refine HF3.out.mono ?_
        rintro e w4 ⟨y, b9, rfl, hb9, hyv, hyr, hb4⟩
        obtain ⟨Y, hY⟩ : ∃ Y, w4.heap.size = Y := ⟨_, rfl⟩
        obtain ⟨W5, hW5⟩ : ∃ W5, w4.alloc (.cells (encVx y).toArray 39) = W5 := ⟨_, rfl⟩
        have hal5 : Below w4.heap.size w4 W5 := by rw [← hW5]; exact (Below.refl _ _).alloc (Nat.le_refl _) _
        have hyb : W5.heap[Y]? = some (.cells (encVx y).toArray 39 (0, 0)) := by rw [← hW5, ← hY]; exact heap_alloc_new w4 _
        have hb35 : Below W3.heap.size W3 W5 := bel_then hb4 hb4.size hal5
        have h2 := (hb35.block (Q + 1) (by have := HBV3.out.size; have := HSZ.out; omega)).trans HH2.out
        have HB5 : Hid (Below W.heap.size W W5) := bel_then HB3.out HB3.out.size hb35
        have HYN : Hid (y.num = (F0.getD zeroV).num) := congrArg Vr.num hyv
        clear hyv hyr hb4 hal5 hb35 HF3 HH2 HBV3 HB3
        obtain ⟨yn, ys, yt, yl, yp, yc, yo⟩ := y
        simp only [encVx, Vx.sl] at *
        have t0 : W5.cell? ⟨Y, 0, none⟩ = some (.int .i64 yn) := by rw [Lib.cell_of_heap hyb]; rfl
        clear hyb
        cases F0 with
        | none =>
            have HPA2 : Hid (PA = (none, 6)) := by show _ = _; rw [HPN.out, HPT.out]
            obtain rfl : b9 = false := hb9
            obtain ⟨WZ, hWZ⟩ : ∃ WZ, (((((W5.setCell ⟨Q + 1, 0, none⟩ (.int .i64 0)).setCell ⟨Q + 1, 1, none⟩ (.int .u64 0)).setCell ⟨Q + 1, 2, none⟩ (.int .i64 0)).setCell ⟨Q + 1, 3, none⟩ (.bool false)).setCell ⟨Q + 1, 4, none⟩ (.slice none 0 0)) = WZ := ⟨_, rfl⟩
            have hbz : WZ.heap[Q + 1]? = some (.cells #[.int .i64 0, .int .u64 0, .int .i64 0, .bool false, .slice none 0 0] 39 (0, 0)) := by
              rw [← hWZ]
              exact heap_setCell_same _ (Q + 1) 4 _ _ _ (heap_setCell_same _ (Q + 1) 3 _ _ _ (heap_setCell_same _ (Q + 1) 2 _ _ _ (heap_setCell_same _ (Q + 1) 1 _ _ _ (heap_setCell_same _ (Q + 1) 0 _ _ _ (h2)))))
            have fz : Fr (fun b => b = Q + 1) W5 WZ := by
              rw [← hWZ]
              exact (((((fr_set14 W5 (Q + 1) 0 _).then (fr_set14 _ (Q + 1) 1 _) fun k hk => Or.inl hk).then (fr_set14 _ (Q + 1) 2 _) fun k hk => Or.inl hk).then (fr_set14 _ (Q + 1) 3 _) fun k hk => Or.inl hk).then (fr_set14 _ (Q + 1) 4 _) fun k hk => Or.inl hk)
            have HFIN : Hid (RdV W PA (.returned (.tuple #[.agg #[.int .i64 0, .int .u64 0, .int .i64 0, .bool false, .slice none 0 0], .int .i64 6])) WZ) := by
              show RdV W PA _ _; rw [HPA2.out]; refine ⟨zeroVx, rfl, rfl, ⟨is_setV (zero_rd W5).1 h2 fz, (zero_rd W5).2⟩, ?_⟩
              have q := HB5.out
              exact q.trans (fz.below q.size fun k hk => by have := HSZ.out; have := HQQ.out; omega)
            have y0 : W5.cell? ⟨Q + 1, 0, none⟩ = some (.int .i64 0) := by rw [Lib.cell_of_heap h2]; rfl
            have z0 : W5.frozen? ⟨Q + 1, 0, none⟩ = false := Lib.frozen_of_heap h2 0
            have y1 : W5.cell? ⟨Q + 1, 1, none⟩ = some (.int .u64 0) := by rw [Lib.cell_of_heap h2]; rfl
            have z1 : W5.frozen? ⟨Q + 1, 1, none⟩ = false := Lib.frozen_of_heap h2 1
            have y2 : W5.cell? ⟨Q + 1, 2, none⟩ = some (.int .i64 0) := by rw [Lib.cell_of_heap h2]; rfl
            have z2 : W5.frozen? ⟨Q + 1, 2, none⟩ = false := Lib.frozen_of_heap h2 2
            have y3 : W5.cell? ⟨Q + 1, 3, none⟩ = some (.bool false) := by rw [Lib.cell_of_heap h2]; rfl
            have z3 : W5.frozen? ⟨Q + 1, 3, none⟩ = false := Lib.frozen_of_heap h2 3
            have y4 : W5.cell? ⟨Q + 1, 4, none⟩ = some (.slice none 0 0) := by rw [Lib.cell_of_heap h2]; rfl
            have z4 : W5.frozen? ⟨Q + 1, 4, none⟩ = false := Lib.frozen_of_heap h2 4
            have g0 : WZ.cell? ⟨Q + 1, 0, none⟩ = some (.int .i64 0) := by rw [Lib.cell_of_heap hbz]; rfl
            have g1 : WZ.cell? ⟨Q + 1, 1, none⟩ = some (.int .u64 0) := by rw [Lib.cell_of_heap hbz]; rfl
            have g2 : WZ.cell? ⟨Q + 1, 2, none⟩ = some (.int .i64 0) := by rw [Lib.cell_of_heap hbz]; rfl
            have g3 : WZ.cell? ⟨Q + 1, 3, none⟩ = some (.bool false) := by rw [Lib.cell_of_heap hbz]; rfl
            have g4 : WZ.cell? ⟨Q + 1, 4, none⟩ = some (.slice none 0 0) := by rw [Lib.cell_of_heap hbz]; rfl
            clear hbz fz
            go_upto_region 7 with fail
            try rw [hY]
            try rw [hW5]
            go_wp2_with fail
            try rw [hWZ]
            exact bodyPost_ret (v := .tuple #[.agg #[.int .i64 0, .int .u64 0, .int .i64 0, .bool false, .slice none 0 0], .int .i64 6]) (by simp [results, Tryz.results23, go_sem, g0, g1, g2, g3, g4]) rfl HFIN.out
        | some f0 =>
            have hyf : yn = f0.num := HYN.out
            subst hyf
            obtain rfl : b9 = true := hb9
            by_cases hnf : n < f0.num
            · have HPA2 : Hid (PA = (none, 8)) := by show _ = _; rw [HPN.out, HPT.out]; show ((none : Option Vr), if n < f0.num then (8 : Int) else 6) = _; rw [if_pos hnf]
              have hnf2 : f0.num > n := hnf
              obtain ⟨WZ, hWZ⟩ : ∃ WZ, (((((W5.setCell ⟨Q + 1, 0, none⟩ (.int .i64 0)).setCell ⟨Q + 1, 1, none⟩ (.int .u64 0)).setCell ⟨Q + 1, 2, none⟩ (.int .i64 0)).setCell ⟨Q + 1, 3, none⟩ (.bool false)).setCell ⟨Q + 1, 4, none⟩ (.slice none 0 0)) = WZ := ⟨_, rfl⟩
              have hbz : WZ.heap[Q + 1]? = some (.cells #[.int .i64 0, .int .u64 0, .int .i64 0, .bool false, .slice none 0 0] 39 (0, 0)) := by
                rw [← hWZ]
                exact heap_setCell_same _ (Q + 1) 4 _ _ _ (heap_setCell_same _ (Q + 1) 3 _ _ _ (heap_setCell_same _ (Q + 1) 2 _ _ _ (heap_setCell_same _ (Q + 1) 1 _ _ _ (heap_setCell_same _ (Q + 1) 0 _ _ _ (h2)))))
              have fz : Fr (fun b => b = Q + 1) W5 WZ := by
                rw [← hWZ]
                exact (((((fr_set14 W5 (Q + 1) 0 _).then (fr_set14 _ (Q + 1) 1 _) fun k hk => Or.inl hk).then (fr_set14 _ (Q + 1) 2 _) fun k hk => Or.inl hk).then (fr_set14 _ (Q + 1) 3 _) fun k hk => Or.inl hk).then (fr_set14 _ (Q + 1) 4 _) fun k hk => Or.inl hk)
              have HFIN : Hid (RdV W PA (.returned (.tuple #[.agg #[.int .i64 0, .int .u64 0, .int .i64 0, .bool false, .slice none 0 0], .int .i64 8])) WZ) := by
                show RdV W PA _ _; rw [HPA2.out]; refine ⟨zeroVx, rfl, rfl, ⟨is_setV (zero_rd W5).1 h2 fz, (zero_rd W5).2⟩, ?_⟩
                have q := HB5.out
                exact q.trans (fz.below q.size fun k hk => by have := HSZ.out; have := HQQ.out; omega)
              have y0 : W5.cell? ⟨Q + 1, 0, none⟩ = some (.int .i64 0) := by rw [Lib.cell_of_heap h2]; rfl
              have z0 : W5.frozen? ⟨Q + 1, 0, none⟩ = false := Lib.frozen_of_heap h2 0
              have y1 : W5.cell? ⟨Q + 1, 1, none⟩ = some (.int .u64 0) := by rw [Lib.cell_of_heap h2]; rfl
              have z1 : W5.frozen? ⟨Q + 1, 1, none⟩ = false := Lib.frozen_of_heap h2 1
              have y2 : W5.cell? ⟨Q + 1, 2, none⟩ = some (.int .i64 0) := by rw [Lib.cell_of_heap h2]; rfl
              have z2 : W5.frozen? ⟨Q + 1, 2, none⟩ = false := Lib.frozen_of_heap h2 2
              have y3 : W5.cell? ⟨Q + 1, 3, none⟩ = some (.bool false) := by rw [Lib.cell_of_heap h2]; rfl
              have z3 : W5.frozen? ⟨Q + 1, 3, none⟩ = false := Lib.frozen_of_heap h2 3
              have y4 : W5.cell? ⟨Q + 1, 4, none⟩ = some (.slice none 0 0) := by rw [Lib.cell_of_heap h2]; rfl
              have z4 : W5.frozen? ⟨Q + 1, 4, none⟩ = false := Lib.frozen_of_heap h2 4
              have g0 : WZ.cell? ⟨Q + 1, 0, none⟩ = some (.int .i64 0) := by rw [Lib.cell_of_heap hbz]; rfl
              have g1 : WZ.cell? ⟨Q + 1, 1, none⟩ = some (.int .u64 0) := by rw [Lib.cell_of_heap hbz]; rfl
              have g2 : WZ.cell? ⟨Q + 1, 2, none⟩ = some (.int .i64 0) := by rw [Lib.cell_of_heap hbz]; rfl
              have g3 : WZ.cell? ⟨Q + 1, 3, none⟩ = some (.bool false) := by rw [Lib.cell_of_heap hbz]; rfl
              have g4 : WZ.cell? ⟨Q + 1, 4, none⟩ = some (.slice none 0 0) := by rw [Lib.cell_of_heap hbz]; rfl
              clear hbz fz
              go_upto_region 7 with fail
              try rw [hY]
              try rw [hW5]
              go_wp2_with fail
              try rw [hWZ]
              exact bodyPost_ret (v := .tuple #[.agg #[.int .i64 0, .int .u64 0, .int .i64 0, .bool false, .slice none 0 0], .int .i64 8]) (by simp [results, Tryz.results23, go_sem, g0, g1, g2, g3, g4]) rfl HFIN.out
            · have HPA2 : Hid (PA = (none, 6)) := by show _ = _; rw [HPN.out, HPT.out]; show ((none : Option Vr), if n < f0.num then (8 : Int) else 6) = _; rw [if_neg hnf]
              have hnf2 : ¬ f0.num > n := hnf
              obtain ⟨WZ, hWZ⟩ : ∃ WZ, (((((W5.setCell ⟨Q + 1, 0, none⟩ (.int .i64 0)).setCell ⟨Q + 1, 1, none⟩ (.int .u64 0)).setCell ⟨Q + 1, 2, none⟩ (.int .i64 0)).setCell ⟨Q + 1, 3, none⟩ (.bool false)).setCell ⟨Q + 1, 4, none⟩ (.slice none 0 0)) = WZ := ⟨_, rfl⟩
              have hbz : WZ.heap[Q + 1]? = some (.cells #[.int .i64 0, .int .u64 0, .int .i64 0, .bool false, .slice none 0 0] 39 (0, 0)) := by
                rw [← hWZ]
                exact heap_setCell_same _ (Q + 1) 4 _ _ _ (heap_setCell_same _ (Q + 1) 3 _ _ _ (heap_setCell_same _ (Q + 1) 2 _ _ _ (heap_setCell_same _ (Q + 1) 1 _ _ _ (heap_setCell_same _ (Q + 1) 0 _ _ _ (h2)))))
              have fz : Fr (fun b => b = Q + 1) W5 WZ := by
                rw [← hWZ]
                exact (((((fr_set14 W5 (Q + 1) 0 _).then (fr_set14 _ (Q + 1) 1 _) fun k hk => Or.inl hk).then (fr_set14 _ (Q + 1) 2 _) fun k hk => Or.inl hk).then (fr_set14 _ (Q + 1) 3 _) fun k hk => Or.inl hk).then (fr_set14 _ (Q + 1) 4 _) fun k hk => Or.inl hk)
              have HFIN : Hid (RdV W PA (.returned (.tuple #[.agg #[.int .i64 0, .int .u64 0, .int .i64 0, .bool false, .slice none 0 0], .int .i64 6])) WZ) := by
                show RdV W PA _ _; rw [HPA2.out]; refine ⟨zeroVx, rfl, rfl, ⟨is_setV (zero_rd W5).1 h2 fz, (zero_rd W5).2⟩, ?_⟩
                have q := HB5.out
                exact q.trans (fz.below q.size fun k hk => by have := HSZ.out; have := HQQ.out; omega)
              have y0 : W5.cell? ⟨Q + 1, 0, none⟩ = some (.int .i64 0) := by rw [Lib.cell_of_heap h2]; rfl
              have z0 : W5.frozen? ⟨Q + 1, 0, none⟩ = false := Lib.frozen_of_heap h2 0
              have y1 : W5.cell? ⟨Q + 1, 1, none⟩ = some (.int .u64 0) := by rw [Lib.cell_of_heap h2]; rfl
              have z1 : W5.frozen? ⟨Q + 1, 1, none⟩ = false := Lib.frozen_of_heap h2 1
              have y2 : W5.cell? ⟨Q + 1, 2, none⟩ = some (.int .i64 0) := by rw [Lib.cell_of_heap h2]; rfl
              have z2 : W5.frozen? ⟨Q + 1, 2, none⟩ = false := Lib.frozen_of_heap h2 2
              have y3 : W5.cell? ⟨Q + 1, 3, none⟩ = some (.bool false) := by rw [Lib.cell_of_heap h2]; rfl
              have z3 : W5.frozen? ⟨Q + 1, 3, none⟩ = false := Lib.frozen_of_heap h2 3
              have y4 : W5.cell? ⟨Q + 1, 4, none⟩ = some (.slice none 0 0) := by rw [Lib.cell_of_heap h2]; rfl
              have z4 : W5.frozen? ⟨Q + 1, 4, none⟩ = false := Lib.frozen_of_heap h2 4
              have g0 : WZ.cell? ⟨Q + 1, 0, none⟩ = some (.int .i64 0) := by rw [Lib.cell_of_heap hbz]; rfl
              have g1 : WZ.cell? ⟨Q + 1, 1, none⟩ = some (.int .u64 0) := by rw [Lib.cell_of_heap hbz]; rfl
              have g2 : WZ.cell? ⟨Q + 1, 2, none⟩ = some (.int .i64 0) := by rw [Lib.cell_of_heap hbz]; rfl
              have g3 : WZ.cell? ⟨Q + 1, 3, none⟩ = some (.bool false) := by rw [Lib.cell_of_heap hbz]; rfl
              have g4 : WZ.cell? ⟨Q + 1, 4, none⟩ = some (.slice none 0 0) := by rw [Lib.cell_of_heap hbz]; rfl
              clear hbz fz
              go_upto_region 7 with fail
              try rw [hY]
              try rw [hW5]
              go_wp2_with fail
              try rw [hWZ]
              exact bodyPost_ret (v := .tuple #[.agg #[.int .i64 0, .int .u64 0, .int .i64 0, .bool false, .slice none 0 0], .int .i64 6]) (by simp [results, Tryz.results23, go_sem, g0, g1, g2, g3, g4]) rfl HFIN.out

end Go.Proofs.YticfpkodoghnnaaGreat

/-
  One element of a row of one's own written over, whatever its kind. No program.
-/
namespace Go.Proofs.YticfpkodoghnnaaGreat
open Go.RowKit

/-- Cells written one behind the other, from o + k on. -/
def setFrom (w : World) (g o : Nat) : Nat → List Value → World
  | _, [] => w
  | k, u :: r => setFrom (w.setCell ⟨g, o + k, none⟩ u) g o (k + 1) r

def setL (o : Nat) : Nat → List Value → List Value → List Value
  | _, [], xs => xs
  | k, u :: r, xs => setL o (k + 1) r (xs.set (o + k) u)

theorem setL_len (o : Nat) : ∀ (k : Nat) (us xs : List Value), (setL o k us xs).length = xs.length
  | _, [], _ => rfl
  | k, u :: r, xs => by
    unfold setL
    rw [setL_len o (k + 1) r, List.length_set]

theorem setL_get (o : Nat) : ∀ (k : Nat) (us xs : List Value) (j : Nat), o + k + us.length ≤ xs.length → (setL o k us xs)[j]? = if o + k ≤ j ∧ j < o + k + us.length then us[j - (o + k)]? else xs[j]?
  | k, [], xs, j, _ => by
    unfold setL
    rw [if_neg (by simp)]
  | k, u :: r, xs, j, h => by
    unfold setL
    rw [List.length_cons] at h
    rw [setL_get o (k + 1) r _ j (by rw [List.length_set]; omega), List.getElem?_set]
    by_cases h1 : j = o + k
    · subst h1
      rw [if_neg (by omega), if_pos rfl, if_pos (by omega), if_pos (by rw [List.length_cons]; omega)]
      simp
    · by_cases h2 : o + k ≤ j ∧ j < o + k + (u :: r).length
      · rw [if_pos (by rw [List.length_cons] at h2; omega), if_pos h2]
        have : j - (o + k) = (j - (o + (k + 1))) + 1 := by omega
        rw [this, List.getElem?_cons_succ]
      · rw [if_neg (by rw [List.length_cons] at h2; omega), if_neg h2, if_neg (fun e => h1 e.symm)]

theorem Kind.cells_setL {α : Type} (K : Kind α) (d : List α) (i : Nat) (h : i < d.length) (x : α) : K.cells (d.set i x) = setL (i * K.k) 0 (K.enc x) (K.cells d) := by
  apply List.ext_getElem?
  intro j
  have h1 : (i + 1) * K.k ≤ d.length * K.k := Nat.mul_le_mul_right _ h
  rw [Nat.add_mul, Nat.one_mul] at h1
  rw [K.cells_set d i h x j, setL_get _ _ _ _ _ (by rw [K.len, K.cells_len]; omega), K.len, Nat.add_zero]

theorem ownsRow_setFrom {N : Nat} {e : TypeId} {size g n cap o : Nat} : ∀ (k : Nat) (us xs : List Value) (w : World), w.ownsRow N e size (.slice (some ⟨g, 0, none⟩) n cap) n xs → (setFrom w g o k us).ownsRow N e size (.slice (some ⟨g, 0, none⟩) n cap) n (setL o k us xs)
  | _, [], _, _, h => h
  | k, u :: r, xs, w, h => by
    unfold setFrom setL
    exact ownsRow_setFrom (k + 1) r _ _ (World.ownsRow.stored h (o + k) u).1

theorem below_setFrom {N g o : Nat} {W : World} (hg : N ≤ g) : ∀ (k : Nat) (us : List Value) (w : World), Below N W w → Below N W (setFrom w g o k us)
  | _, [], _, h => h
  | k, u :: r, w, h => by
    unfold setFrom
    exact below_setFrom hg (k + 1) r _ (h.setCell hg _)
theorem size_setFrom {g o : Nat} : ∀ (k : Nat) (us : List Value) (w : World), (setFrom w g o k us).heap.size = w.heap.size
  | _, [], _ => rfl
  | k, u :: r, w => by
    unfold setFrom
    rw [size_setFrom (k + 1) r]
    simp
theorem block_setFrom {g o b : Nat} (hb : b ≠ g) : ∀ (k : Nat) (us : List Value) (w : World), (setFrom w g o k us).heap[b]? = w.heap[b]?
  | _, [], _ => rfl
  | k, u :: r, w => by
    unfold setFrom
    rw [block_setFrom hb (k + 1) r, heap_setCell_other w _ b _ hb]

theorem RowSt.put {α : Type} {K : Kind α} {N : Nat} {W : World} {g n cap : Nat} {l : List α} {w : World} (h : RowSt K N W (.slice (some ⟨g, 0, none⟩) n cap) l w) (i : Nat) (hi : i < l.length) (x : α) :
    RowSt K N W (.slice (some ⟨g, 0, none⟩) n cap) (l.set i x) (setFrom w g (i * K.k) 0 (K.enc x)) := by
  have hg : N ≤ g := (World.ownsRow.lt h.own g rfl).1
  obtain ⟨p', c', he⟩ := Kind.own_shape h.own
  injection he with _ hn _
  subst hn
  refine ⟨?_, below_setFrom hg 0 _ w h.bel, by rw [size_setFrom]; exact h.base⟩
  unfold Kind.Own
  rw [K.cells_setL l i hi x, List.length_set]
  exact ownsRow_setFrom 0 _ _ w h.own

end Go.Proofs.YticfpkodoghnnaaGreat

/-
  Rows of one's own out of which elements are taken (slices.DeleteFunc), whatever their kind. No program.
-/
namespace Go.Proofs.YticfpkodoghnnaaGreat
open Go.RowKit Go.Lib

/-- On the way: of the first j those that stay are the first i. -/
structure DelIn {α : Type} (f : α → Bool) (o c : List α) (i j : Nat) : Prop where
  len : c.length = o.length
  lt : i < j
  le : j ≤ o.length
  low : c.take i = (o.take j).filter fun x => !f x
  high : ∀ m, j ≤ m → c[m]? = o[m]?

section
variable {α : Type} {f : α → Bool} {o c : List α} {i j : Nat}
theorem DelIn.start (hi : i < o.length) (hn : ∀ x ∈ o.take i, f x = false) (hy : f o[i] = true) : DelIn f o o i (i + 1) := by
  refine ⟨rfl, by omega, by omega, ?_, fun _ _ => rfl⟩
  rw [List.take_succ_eq_append_getElem hi, List.filter_append, List.filter_cons_of_neg (by simp [hy]), List.filter_nil, List.append_nil]
  exact (List.filter_eq_self.2 fun x hx => by simp [hn x hx]).symm
theorem DelIn.skip (h : DelIn f o c i j) (hj : j < o.length) (hy : f o[j] = true) : DelIn f o c i (j + 1) := by
  have := h.lt
  refine ⟨h.len, by omega, by omega, ?_, fun m hm => h.high m (by omega)⟩
  rw [List.take_succ_eq_append_getElem hj, List.filter_append, List.filter_cons_of_neg (by simp [hy]), List.filter_nil, List.append_nil]
  exact h.low
theorem DelIn.keep (h : DelIn f o c i j) (hj : j < o.length) (hy : f o[j] = false) : DelIn f o (c.set i o[j]) (i + 1) (j + 1) := by
  have h1 := h.lt
  have h2 := h.len
  have hic : i < (c.set i o[j]).length := by rw [List.length_set]; omega
  refine ⟨by rw [List.length_set]; exact h.len, by omega, by omega, ?_, fun m hm => ?_⟩
  · rw [List.take_succ_eq_append_getElem hic, List.take_set_of_le (Nat.le_refl _), List.getElem_set_self, h.low, List.take_succ_eq_append_getElem hj, List.filter_append, List.filter_cons_of_pos (by simp [hy]), List.filter_nil]
  · rw [List.getElem?_set_ne (by omega)]
    exact h.high m (by omega)
theorem DelIn.done (h : DelIn f o c i o.length) : c.take i = o.filter fun x => !f x := by
  have := h.low
  rwa [List.take_length] at this
theorem DelIn.at (h : DelIn f o c i j) (hj : j < o.length) : ∃ hc : j < c.length, c[j] = o[j] := by
  have h2 := h.len
  refine ⟨by omega, ?_⟩
  have := h.high j (Nat.le_refl _)
  rw [List.getElem?_eq_getElem (by omega), List.getElem?_eq_getElem hj] at this
  exact Option.some.inj this
end

theorem zeroCells_one {z : Array Value} {n : Nat} (h1 : ∀ u ∈ z.toList, u.oneCell' = true) : ∀ v ∈ (Builtin.zeroCells z n).toList, v.oneCell' = true := by
  intro v hm
  simp only [Builtin.zeroCells, Array.toList_map, List.mem_map] at hm
  obtain ⟨i, hi, rfl⟩ := hm
  have hi' : i < n * z.size := by simpa using hi
  have hp : 0 < z.size := Nat.pos_of_ne_zero fun e => by rw [e] at hi'; simp at hi'
  have h3 : i % z.size < z.size := Nat.mod_lt _ hp
  rw [getElem!_pos z _ h3]
  exact h1 _ (by simp)

/-- clear of elements of a row. -/
theorem Kind.run_clear {P : Program} {α : Type} (K : Kind α) (tS : TypeId) (z : Value) (hu : P.underlying tS = some (.slice K.T)) (hz : ∀ w, (zeroValue K.T).run P w = .ok z w) (hzs : z.cells.size = K.k) (hz1 : ∀ u ∈ z.cells.toList, u.oneCell' = true) (w : World) (g o n : Nat) (hn : 0 < n)
    (hc : ∀ j, j < n * K.k → (w.cell? ⟨g, o + j, none⟩).isSome = true) (hf : ∀ j, j < n * K.k → w.frozen? ⟨g, o + j, none⟩ = false) :
    ∃ zs : List Value, ∀ ty c, (Builtin.clear_ #[tS] ty #[.slice (some ⟨g, o, none⟩) n c]).run P w = .ok (.tuple #[]) (w.setCells g o zs) := by
  obtain ⟨zs, hzs'⟩ : ∃ zs, (Builtin.zeroCells z.cells n).toList = zs := ⟨_, rfl⟩
  have hl : zs.length = n * K.k := by rw [← hzs', Array.length_toList, size_zeroCells, hzs]
  have h1 : ∀ v ∈ zs, v.oneCell' = true := by rw [← hzs']; exact zeroCells_one hz1
  refine ⟨zs, fun ty c => ?_⟩
  have hst := run_storeCells_cells (P := P) g o zs 0 w (by rw [hl]; simpa using hc) (by rw [hl]; simpa using hf) h1
  simp only [Nat.add_zero] at hst
  obtain ⟨m, rfl⟩ : ∃ m, n = m + 1 := ⟨n - 1, by omega⟩
  simp [Builtin.clear_, run_underlying hu, hz, hzs', hst]

theorem grown_setsK {g : Nat} (vs : List Value) : ∀ (w w0 : World) (p : Nat), w0.grownBy w (some g) → w0.grownBy (w.setCells g p vs) (some g) := by
  induction vs with
  | nil => intro w w0 p h; exact h
  | cons v vs ih => intro w w0 p h; rw [World.setCells]; exact ih _ _ _ (grown_trans h (grown_set w g p v))
theorem grown_setFrom {g o : Nat} : ∀ (k : Nat) (us : List Value) (w w0 : World), w0.grownBy w (some g) → w0.grownBy (setFrom w g o k us) (some g)
  | _, [], _, _, h => h
  | k, u :: r, w, w0, h => by
    unfold setFrom
    exact grown_setFrom (k + 1) r _ _ (grown_trans h (grown_set w g _ u))
theorem grown_belK {w w0 w1 : World} {ob : Option Nat} (h : w0.grownBy w ob) (hb : Below w.heap.size w w1) : w0.grownBy w1 ob :=
  ⟨hb.os.trans h.os, hb.tape.trans h.tape, hb.output.trans h.output, Nat.le_trans h.size hb.size, fun k hk hn => (hb.block k (Nat.lt_of_lt_of_le hk h.size)).trans (h.block k hk hn)⟩
theorem grown_self (w : World) (ob : Option Nat) : w.grownBy w ob := ⟨rfl, rfl, rfl, Nat.le_refl _, fun _ _ _ => rfl⟩

/-- One of the row written over. -/
theorem Kind.own_set {α : Type} {K : Kind α} {N g n cap : Nat} {l : List α} {w : World} (h : K.Own N w (.slice (some ⟨g, 0, none⟩) n cap) l) (i : Nat) (hi : i < l.length) (x : α) : K.Own N (setFrom w g (i * K.k) 0 (K.enc x)) (.slice (some ⟨g, 0, none⟩) n cap) (l.set i x) := by
  obtain ⟨p', c', he⟩ := Kind.own_shape h
  injection he with _ hn _
  subst hn
  unfold Kind.Own
  rw [K.cells_setL l i hi x, List.length_set]
  exact ownsRow_setFrom 0 _ _ w h
/-- Its cells. -/
theorem Kind.own_any {α : Type} {K : Kind α} {N g n cap : Nat} {l : List α} {w : World} (h : K.Own N w (.slice (some ⟨g, 0, none⟩) n cap) l) : (∀ t, t < n * K.k → (w.cell? ⟨g, t, none⟩).isSome = true) ∧ (∀ t, w.frozen? ⟨g, t, none⟩ = false) ∧ N ≤ g ∧ l.length = n ∧ g < w.heap.size := by
  rcases h.2 with ⟨hv, _⟩ | ⟨g', cap', cur, hv, h1, h2, h3, h4, h5, h6⟩
  · cases hv
  · injection hv with e1 e2 e3
    injection e1 with e1
    injection e1 with e1 _ _
    subst e1 e2 e3
    refine ⟨fun t ht => ?_, fun t => Lib.frozen_of_heap h2 t, h1, rfl, (Array.getElem?_eq_some_iff.1 h2).1⟩
    have hlt : t < cur.size := by rw [h5]; exact Nat.lt_of_lt_of_le ht (Nat.mul_le_mul_right _ h3)
    rw [Lib.cell_of_heap h2]
    simp [hlt]

end Go.Proofs.YticfpkodoghnnaaGreat
