/-
  Texts of this claim, one behind the other: Cs2 Rname Rmay Cr3 Cyt Cuw Cyu Cys Cyv Cyx Cyz Cyw.
-/
import Derived.Test.YtipbdpjnabeilaaPc
import Derived.Test.YtipbdpjnabeilaaPb
import Derived.Test.YtipbdpjnabeilaaPa
import Derived.Deep.CutRange
import Derived.Deep.RegionHeld3
/-
  The program's chain (stage 6): what stays beside a Put and a Prune.
-/
namespace Go.Proofs.Ytipbdpjnabeilaa
open Go.RowKit

theorem st_put2 {n0 g : Nat} {l : List Vr} {W0 W : World} (h : ChSt n0 g l W0) (hb : Below W0.heap.size W0 W) (stamp tick : Int) (live : Bool) (v : Value) (e : List Fx) (val : List Fld) (hv : IsXs W v e) (hf : FitX e) (hval : e.map Fx.fld = val) (h0 : 0 ≤ stamp) (htop : (lastV l).num < 2400000000000) :
    Calls Try.prog 24 #[.pointer (some ⟨g, 0, none⟩), .int .u64 stamp, .int .i64 tick, .bool live, v] W fun r w' =>
      r = .returned (.tuple #[.int .i64 (putN l stamp live val), .int .i64 (putC l stamp live val)]) ∧ ChSt n0 g (putL l stamp tick live val) w' ∧ Fr (fun k => n0 ≤ k ∧ k < W0.heap.size) W w' := by
  obtain ⟨d, vs, h1, rfl⟩ := h
  refine (put_any (h1.on hb) stamp tick live v e val hv hf hval h0 htop).mono ?_
  rintro r w' ⟨h2, d', vs', h3, h4, _, h5⟩
  exact ⟨h2, ⟨d', vs', h3, h4⟩, h5.mono fun k hk => h1.blk k hk⟩

theorem st_prune2 {n0 g : Nat} {l : List Vr} {W0 W : World} (h : ChSt n0 g l W0) (hb : Below W0.heap.size W0 W) (f : Int) :
    Calls Try.prog 17 #[.pointer (some ⟨g, 0, none⟩), .int .u64 f] W fun r w' => r = .returned (.int .i64 (pruneN l f : Nat)) ∧ ChSt n0 g (pruneV l f) w' ∧ Fr (fun k => n0 ≤ k ∧ k < W0.heap.size) W w' := by
  obtain ⟨d, vs, h1, rfl⟩ := h
  refine (prune_any (h1.on hb) f).mono ?_
  rintro r w' ⟨h2, d', vs', h3, h4, _, h5⟩
  exact ⟨h2, ⟨d', vs', h3, h4⟩, h5.mono fun k hk => h1.blk k hk⟩

theorem Told.fr {P : Nat → Prop} {N : Nat} {u : Value} {o : List Vx} {l : List Vr} {W W2 : World} (h : Told N u o l W) (f : Fr P W W2) (hP : ∀ k, P k → k < N) : Told N u o l W2 := by
  refine ⟨f.row (show W.ownsRow N 41 5 u o.length (KV.cells o) from h.own) fun k hk hp => ?_, fun x hx => ownJ_fr (h.each x hx) f fun k hk hp => ?_, h.apart, h.ver⟩
  · have h1 := (World.ownsRow.lt (show W.ownsRow N 41 5 u o.length (KV.cells o) from h.own) k hk).1
    have h2 := hP k hp
    omega
  · have h1 := (ownJ_blk (h.each x hx) k hk).1
    have h2 := hP k hp
    omega

theorem VerAt.fr {P : Nat → Prop} {N : Nat} {x : Vx} {W W2 : World} (h : VerAt W N x) (f : Fr P W W2) (hP : ¬ P N) : VerAt W2 N x := (f.block N h.lt hP).trans h

/-- The first ones of a list. -/
theorem take_is {n0 : Nat} {w : World} {p : Option Addr} {cap : Nat} {d : List Vx} (h : KV.Own n0 w (.slice p d.length cap) d) (k : Nat) (hk : k ≤ d.length) : KV.Is w (.slice p k cap) (d.take k) := by
  refine ⟨p, cap, by rw [List.length_take, Nat.min_eq_left hk], ?_⟩
  obtain ⟨p', c', hsl, hI⟩ := Kind.own_is h
  injection hsl with e1 _ _
  subst e1
  rcases hI with hI | ⟨b, off, rfl, hat⟩
  · left; rw [hI]; simp
  · refine Or.inr ⟨b, off, rfl, fun i hi j u hu => ?_⟩
    have hi' : i < d.length := by rw [List.length_take] at hi; omega
    rw [List.getElem_take] at hu
    exact hat i hi' j u hu

theorem put_same {l : List Vr} {stamp tick : Int} {live : Bool} {val : List Fld} (h : putC l stamp live val ≠ 0) : putL l stamp tick live val = l ∧ putN l stamp live val = 0 := by
  unfold putL putN
  rw [if_neg h, if_neg h]
  exact ⟨rfl, rfl⟩

theorem put_new {l : List Vr} {stamp tick : Int} {live : Bool} {val : List Fld} (h : putC l stamp live val = 0) : putL l stamp tick live val = l ++ [⟨putN l stamp live val, stamp, tick, live, if live then val else []⟩] := by
  unfold putL putN
  rw [if_pos h, if_pos h]
  rfl

theorem put_above {l : List Vr} {stamp : Int} {live : Bool} {val : List Fld} (h : putC l stamp live val = 0) : (lastV l).stamp < stamp := by
  unfold putC putCode at h
  split at h
  · simp at h
  · next hs => exact Int.not_le.1 fun e => hs (Or.inr e)

end Go.Proofs.Ytipbdpjnabeilaa

/-
  The contracts of the reference's class and Field.
-/
namespace Go.Proofs.Ytipbdpjnabeilaa
open Go.RowKit

def cls (n : Int) : Int := if bigB n then 1 else if smallB n then 2 else if digB n then 3 else if n = 45 ∨ n = 46 then 4 else 0

theorem cls_cases (n : Int) :
    (cls n = 1 ∧ bigB n = true ∧ smallB n = false ∧ letB n = true ∧ lodB n = true ∧ idB n = true) ∨
    (cls n = 2 ∧ bigB n = false ∧ smallB n = true ∧ letB n = true ∧ lodB n = true ∧ idB n = true) ∨
    (cls n = 3 ∧ bigB n = false ∧ smallB n = false ∧ letB n = false ∧ lodB n = true ∧ idB n = true) ∨
    (cls n = 4 ∧ bigB n = false ∧ smallB n = false ∧ letB n = false ∧ lodB n = false ∧ idB n = true) ∨
    (cls n = 0 ∧ bigB n = false ∧ smallB n = false ∧ letB n = false ∧ lodB n = false ∧ idB n = false) := by
  cases h1 : bigB n
  · cases h2 : smallB n
    · cases h3 : digB n
      · by_cases h4 : n = 45 ∨ n = 46
        · right; right; right; left
          refine ⟨by simp [cls, h1, h2, h3, h4], rfl, rfl, by simp [letB, h1, h2], by simp [lodB, letB, h1, h2, h3], ?_⟩
          rcases h4 with rfl | rfl <;> decide
        · right; right; right; right
          have h45 : (n == 45) = false := beq_eq_false_iff_ne.2 fun e => h4 (.inl e)
          have h46 : (n == 46) = false := beq_eq_false_iff_ne.2 fun e => h4 (.inr e)
          exact ⟨by simp [cls, h1, h2, h3, h4], rfl, rfl, by simp [letB, h1, h2], by simp [lodB, letB, h1, h2, h3], by simp [idB, lodB, letB, h1, h2, h3, h45, h46]⟩
      · right; right; left
        exact ⟨by simp [cls, h1, h2, h3], rfl, rfl, by simp [letB, h1, h2], by simp [lodB, h3], by simp [idB, lodB, h3]⟩
    · right; left
      exact ⟨by simp [cls, h1, h2], rfl, rfl, by simp [letB, h2], by simp [lodB, letB, h2], by simp [idB, lodB, letB, h2]⟩
  · left
    have h2 : smallB n = false := by
      rw [bigB_true] at h1
      rw [Bool.eq_false_iff, Ne, smallB_true]; omega
    exact ⟨by simp [cls, h1], rfl, h2, by simp [letB, h1], by simp [lodB, letB, h1], by simp [idB, lodB, letB, h1]⟩

set_option maxHeartbeats 400000 in
theorem class_any (n : Int) (w : World) : Calls Try.prog 52 #[.int .u8 n] w fun e w' => e = .returned (.int .i64 (cls n)) ∧ w' = w := by
  go_enter Try.func52, Try.ntmps52
  go_wp2
  all_goals go_ret
  all_goals refine ⟨ret_int ?_, rfl⟩
  all_goals (simp_all [cls, bigB, smallB, digB]; try omega)

set_option maxHeartbeats 1000000 in
theorem rfield_any (s : ByteArray) (w : World) (hs : s.size ≤ maxLen) :
    Calls Try.prog 47 #[.string s] w fun e w' => e = .returned (.bool (fieldB s.data.toList)) ∧ w' = w := by
  unfold maxLen at hs
  have HE := hid (spell_empty smallB lodB s)
  have HG := hid (spell_long smallB lodB s)
  have HF := hid (spell_first smallB lodB s)
  have HA := hid (spell_at smallB lodB s)
  have HT := hid (spell_true smallB lodB s)
  have HB : Hid (fieldB s.data.toList = spell smallB lodB s.data.toList) := rfl
  go_enter Try.func47, Try.ntmps47
  go_wp2
  go_loop [3] (fun i => ∃ k : Nat, k ≤ s.size ∧ i = .int .i64 k ∧ (∀ j, j < k → (hj : j < s.size) → (j = 0 → smallB (s[j].toNat : Int) = true) ∧ (1 ≤ j → lodB (s[j].toNat : Int) = true))) (fun i => s.size - (intOf i).toNat)
  case atStart => exact ⟨0, by omega, rfl, fun j h => by omega⟩
  case round =>
    obtain ⟨k, hk, rfl, hall⟩ := hrel
    have HL := hid hall
    clear hall
    by_cases hlt : k < s.size
    · rcases Nat.eq_zero_or_pos k with h0 | h0
      · have HZ := hid h0
        have hz : ((k : Int) == 0) = true := by rw [h0]; rfl
        clear h0
        rcases cls_cases (s[k].toNat : Int) with h | h | h | h | h
        all_goals
          have HC := hid h
          clear h
          go_wp2_with (go_at_call 52; refine (class_any _ _).mono ?_; rintro e w' ⟨rfl, rfl⟩; rw [HC.out.1])
          first
          | (go_ret; exact ⟨ret_bool (by rw [HB.out]; have hz' := HZ.out; subst hz'; exact (HF.out hlt (by first | exact HC.out.2.1 | exact HC.out.2.2.1 | exact HC.out.2.2.2.2.1 | exact HC.out.2.2.2.2.2)).symm), rfl⟩)
          | (go_round
             case rel =>
               refine ⟨k + 1, by omega, by go_num, fun j h1 hj => ?_⟩
               have hz' := HZ.out
               have hj0 : j = k := by omega
               subst hj0
               exact ⟨fun _ => (by first | exact HC.out.2.1 | exact HC.out.2.2.1 | exact HC.out.2.2.2.2.1 | exact HC.out.2.2.2.2.2), fun _ => by omega⟩
             case measure => simp [intOf]; omega)
      · have HZ := hid h0
        have hz : ((k : Int) == 0) = false := by rw [beq_eq_false_iff_ne]; omega
        clear h0
        rcases cls_cases (s[k].toNat : Int) with h | h | h | h | h
        all_goals
          have HC := hid h
          clear h
          go_wp2_with (go_at_call 52; refine (class_any _ _).mono ?_; rintro e w' ⟨rfl, rfl⟩; rw [HC.out.1])
          first
          | (go_ret; exact ⟨ret_bool (by rw [HB.out]; exact (HA.out k HZ.out hlt (by first | exact HC.out.2.2.2.1 | exact HC.out.2.2.2.2.1 | exact HC.out.2.2.2.2.2)).symm), rfl⟩)
          | (go_round
             case rel =>
               refine ⟨k + 1, by omega, by go_num, fun j h1 hj => ?_⟩
               by_cases hjk : j = k
               · subst hjk
                 exact ⟨fun e => by have := HZ.out; omega, fun _ => (by first | exact HC.out.2.2.2.1 | exact HC.out.2.2.2.2.1 | exact HC.out.2.2.2.2.2)⟩
               · exact HL.out j (by omega) hj
             case measure => simp [intOf]; omega)
    · have hks : k = s.size := by omega
      rcases Nat.eq_zero_or_pos s.size with hz | hz
      · have hn : ¬ (0 : Int) < (s.size : Int) := by omega
        have HZ := hid hz
        clear hz hks
        go_wp2_with fail
        go_ret
        exact ⟨ret_bool (by rw [HB.out]; exact (HE.out HZ.out).symm), rfl⟩
      · have hn : (0 : Int) < (s.size : Int) := by omega
        by_cases hm : s.size ≤ 32
        · have hm' : (s.size : Int) ≤ 32 := by omega
          have HK := hid hks
          clear hks
          go_wp2_with fail
          go_ret
          refine ⟨ret_bool (by rw [HB.out]; exact (HT.out hz hm ((HL.out 0 (by have := HK.out; omega) hz).1 rfl) (fun j h1 hj => (HL.out j (by have := HK.out; omega) hj).2 h1)).symm), rfl⟩
        · have hm' : ¬ (s.size : Int) ≤ 32 := by omega
          clear hks
          go_wp2_with fail
          go_ret
          exact ⟨ret_bool (by rw [HB.out]; exact (HG.out (by omega)).symm), rfl⟩

end Go.Proofs.Ytipbdpjnabeilaa

/-
  The contract of the reference's May.
-/
namespace Go.Proofs.Ytipbdpjnabeilaa
open Go.RowKit

theorem step_of {fs : List Fld} {i : Nat} {f : Fld} (h : fs.getD i default = f) (h1 : fieldB f.1.data.toList = true) (h2 : 0 < f.2.length) (h3 : f.2.length ≤ 8) (h4 : ∀ t ∈ f.2, t.size ≤ 128) (h5 : i = 0 ∨ ltN (fs.getD (i - 1) default).1 f.1 = true) : stepOk fs i = true := by
  unfold stepOk fitsB
  rw [h, h1, decide_eq_true h3]
  have e1 : f.2.isEmpty = false := by
    cases hf : f.2 with
    | nil => rw [hf] at h2; simp at h2
    | cons _ _ => rfl
  have e2 : f.2.any longB = false := by
    rw [List.any_eq_false]
    intro t ht
    have := h4 t ht
    unfold longB
    simpa using this
  rw [e1, e2]
  rcases h5 with h5 | h5
  · rw [decide_eq_true h5]; rfl
  · rw [h5]; simp

theorem step_not {fs : List Fld} {i : Nat} {f : Fld} (h : fs.getD i default = f) (hn : fieldB f.1.data.toList = false ∨ f.2.length = 0 ∨ 8 < f.2.length ∨ (∃ t ∈ f.2, 128 < t.size) ∨ (i ≠ 0 ∧ ltN (fs.getD (i - 1) default).1 f.1 = false)) : stepOk fs i = false := by
  unfold stepOk fitsB
  rw [h]
  rcases hn with hn | hn | hn | ⟨t, ht, hn⟩ | ⟨hn, hm⟩
  · rw [hn]; rfl
  · rw [List.length_eq_zero_iff] at hn
    rw [hn]; simp
  · rw [decide_eq_false (by omega)]; simp
  · have : f.2.any longB = true := by
      rw [List.any_eq_true]
      exact ⟨t, ht, by unfold longB; simpa using hn⟩
    rw [this]; simp
  · rw [decide_eq_false hn, hm]; simp

set_option maxHeartbeats 1000000 in
set_option maxRecDepth 100000 in
theorem rmay_any (v : Value) (d : List Fx) (w : World) (hv : IsXs w v d) (hf : FitX d) : Calls Try.prog 40 #[v] w fun e w' => e = .returned (.bool (mayB (d.map Fx.fld))) ∧ Grown w w' := by
  obtain ⟨p, cap, rfl, hd, ht⟩ := hv
  have HT := hid ht
  have HF := hid hf.2
  have hl := hf.1
  unfold maxLen at hl
  have HD := hid hd
  clear ht hf hd
  obtain ⟨r, hr⟩ : ∃ r, mayB (d.map Fx.fld) = r := ⟨_, rfl⟩
  rw [hr]
  have HR := hid hr
  clear hr
  go_enter Try.func40, Try.ntmps40
  go_wp2_with fail
  go_loopg [3] d.length (fun g vi wr => ∃ i : Nat, vi = .int .i64 i ∧ i ≤ d.length ∧ i ≤ 16 ∧ d.length - i ≤ g ∧ Grown w wr ∧ Hid (∀ j, j < i → stepOk (d.map Fx.fld) j = true))
  case atStart => exact ⟨0, rfl, by omega, by omega, by omega, Grown.refl _, fun j h => by omega⟩
  case round =>
    obtain ⟨i, rfl, hi, hi16, hg, hb, HJ⟩ := hrel
    by_cases hlt : i < d.length
    · have hltz : (i : Int) < (d.length : Int) := by omega
      have hiz : (0 : Int) ≤ i := by omega
      obtain ⟨b, off, rfl, hxs⟩ : ∃ b off, p = some ⟨b, off, none⟩ ∧ XsAt w b off d := by
        rcases HD.out with h | h
        · subst h; simp at hlt
        · exact h
      have hxr := hxs.kept hb.below
      obtain ⟨c0, c1⟩ := hxr i hlt
      have hxi : (d[i]).at wr := (HT.out _ (List.getElem_mem hlt)).kept hb.below
      have hfi := HF.out _ (List.getElem_mem hlt)
      have hsx := flds_at hlt
      obtain ⟨x, hx⟩ : ∃ x, d[i] = x := ⟨_, rfl⟩
      rw [hx] at c0 c1 hxi hfi hsx
      have HXR := hid hxr
      have HXI := hid hxi
      have hns : x.name.size ≤ maxLen := hfi.1
      have htl : x.txt.length ≤ maxLen := hfi.2.1
      unfold maxLen at htl
      have HNS := hid hns
      have HFI := hid hfi
      have HSX := hid hsx
      clear hxr hxs hxi hfi hx hsx hns
      unfold Fx.sl at c1
      have mixed := Try.mixed
      have HFX : Hid (∀ W, Calls Try.prog 47 #[.string x.name] W fun e w' => e = .returned (.bool (fieldB x.name.data.toList)) ∧ w' = W) := fun W => rfield_any x.name W HNS.out
      by_cases h16 : i = 16
      · subst h16
        have H0 : Hid (r = false) := HR.out.symm.trans (may_long (by rw [List.length_map]; omega))
        go_wp2_with fail
        go_quiet (fail)
        go_wp2_with fail
        go_ret
        exact ⟨ret_bool H0.out.symm, (hb.alloc _).drewN _⟩
      have h16z : decide ((16 : Int) ≤ (i : Int)) = false := decide_eq_false (by omega)
      cases hfx : fieldB x.name.data.toList with
      | false =>
        rw [hfx] at HFX
        have H0 : Hid (r = false) := HR.out.symm.trans (may_no (i := i) (by rw [List.length_map]; exact hlt) (step_not HSX.out (Or.inl hfx)))
        go_wp2_with fail
        refine wp_region_quiet_lit mixed (by kernel_rfl) ?_
        repeat (go_big_quiet_step (first | (go_at_call 47; refine Calls.quiet_of_same (HFX.out _))))
        refine wpQuiet_nil ?_
        intro _ hw'
        obtain ⟨nq, hw''⟩ := hw'
        subst hw''
        go_wp2_with fail
        go_ret
        exact ⟨ret_bool H0.out.symm, (hb.alloc _).drewN _⟩
      | true =>
        rw [hfx] at HFX
        by_cases h0 : i = 0
        · have h0z : decide ((0 : Int) < (i : Int)) = false := decide_eq_false (by omega)
          have h0y : decide (0 < i) = false := decide_eq_false (by omega)
          have H00 := hid h0
          clear h0
          by_cases ht0 : x.txt.length = 0
          · have ht0z : (x.txt.length : Int) = 0 := by omega
            have H0 : Hid (r = false) := HR.out.symm.trans (may_no (i := i) (by rw [List.length_map]; exact hlt) (step_not HSX.out (Or.inr (Or.inl ht0))))
            go_wp2_with fail
            refine wp_region_quiet_lit mixed (by kernel_rfl) ?_
            repeat (go_big_quiet_step (first | (go_at_call 47; refine Calls.quiet_of_same (HFX.out _))))
            refine wpQuiet_nil ?_
            intro _ hw'
            obtain ⟨nq, hw''⟩ := hw'
            subst hw''
            go_wp2_with fail
            go_ret
            exact ⟨ret_bool H0.out.symm, (hb.alloc _).drewN _⟩
          have ht0z : ¬ (x.txt.length : Int) = 0 := by omega
          have ht0d : ((x.txt.length : Int) == 0) = false := beq_eq_false_iff_ne.2 ht0z
          by_cases ht8 : 8 < x.txt.length
          · have ht8z : (8 : Int) < (x.txt.length : Int) := by omega
            have H0 : Hid (r = false) := HR.out.symm.trans (may_no (i := i) (by rw [List.length_map]; exact hlt) (step_not HSX.out (Or.inr (Or.inr (Or.inl ht8)))))
            go_wp2_with fail
            refine wp_region_quiet_lit mixed (by kernel_rfl) ?_
            repeat (go_big_quiet_step (first | (go_at_call 47; refine Calls.quiet_of_same (HFX.out _))))
            refine wpQuiet_nil ?_
            intro _ hw'
            obtain ⟨nq, hw''⟩ := hw'
            subst hw''
            go_wp2_with fail
            go_ret
            exact ⟨ret_bool H0.out.symm, (hb.alloc _).drewN _⟩
          have ht8z : decide ((8 : Int) < (x.txt.length : Int)) = false := decide_eq_false (by omega)
          have HST : Hid ((∀ t ∈ x.txt, t.size ≤ 128) → stepOk (d.map Fx.fld) (i) = true) := fun h => step_of HSX.out hfx (by show 0 < x.txt.length; omega) (by show x.txt.length ≤ 8; omega) h (Or.inl H00.out)
          obtain ⟨bt, ot, hpt, hct0⟩ : ∃ bt ot, x.p = some ⟨bt, ot, none⟩ ∧ ∀ l, (h : l < x.txt.length) → wr.cell? ⟨bt, ot + l, none⟩ = some (.string x.txt[l]) := by
            rcases HXI.out with h | h
            · exact absurd (by rw [h]; rfl) ht0
            · exact h
          have HCT0 := hid hct0
          rw [hpt] at c1
          clear hpt hct0
          go_wp2_with fail
          refine wp_region_quiet_lit mixed (by kernel_rfl) ?_
          repeat (go_big_quiet_step (first | (go_at_call 47; refine Calls.quiet_of_same (HFX.out _))))
          refine wpQuiet_nil ?_
          intro _ hw'
          obtain ⟨nq, hw''⟩ := hw'
          subst hw''
          go_wp2_with fail
          obtain ⟨W2, hW2⟩ : ∃ W2, (wr.alloc (.cells #[.string x.name, .slice (some ⟨bt, ot, none⟩) x.txt.length x.cap] 61)).drewN nq = W2 := ⟨_, rfl⟩
          have hgW : Grown wr W2 := by rw [← hW2]; exact ((Grown.refl wr).alloc _).drewN _
          have q1 : W2.cell? ⟨wr.heap.size, 1, none⟩ = some (.slice (some ⟨bt, ot, none⟩) x.txt.length x.cap) := by rw [← hW2]; exact (x_new wr ⟨x.name, some ⟨bt, ot, none⟩, x.cap, x.txt⟩ (wr.alloc _) (Below.refl _ _)).2
          have hat : ∀ l, (h : l < x.txt.length) → W2.cell? ⟨bt, ot + l, none⟩ = some (.string x.txt[l]) := fun l h => (hgW.below.cell (p := ⟨bt, ot + l, none⟩) (cell_block (HCT0.out l h))).trans (HCT0.out l h)
          have HGW := hid hgW
          have HAT := hid hat
          rw [hW2]
          clear hgW hat hW2
          go_loopg [5] x.txt.length (fun g vj W => ∃ j : Nat, vj = .int .i64 j ∧ j ≤ x.txt.length ∧ x.txt.length - j ≤ g ∧ W = W2 ∧ Hid (∀ l (h : l < x.txt.length), l < j → (x.txt[l]).size ≤ 128))
          case atStart => exact ⟨0, rfl, by omega, by omega, rfl, fun l _ h => by omega⟩
          case round =>
            obtain ⟨j, rfl, hj, hgj, rfl, HL⟩ := hrel
            by_cases hjl : j < x.txt.length
            · have hjz : (j : Int) < (x.txt.length : Int) := by omega
              have hj0 : (0 : Int) ≤ (j : Int) := by omega
              have ctj := HAT.out j hjl
              obtain ⟨t, htt⟩ : ∃ t, x.txt[j] = t := ⟨_, rfl⟩
              have HTT := hid htt
              rw [htt] at ctj
              clear htt
              by_cases hts : 128 < t.size
              · have htsz : (128 : Int) < (t.size : Int) := by omega
                have H0 : Hid (r = false) := HR.out.symm.trans (may_no (i := i) (by rw [List.length_map]; exact hlt) (step_not HSX.out (Or.inr (Or.inr (Or.inr (Or.inl ⟨t, by rw [← HTT.out]; exact List.getElem_mem hjl, hts⟩))))))
                go_wp2_with fail
                go_ret
                exact ⟨ret_bool H0.out.symm, hb.trans HGW.out⟩
              · have htsz : ¬ (128 : Int) < (t.size : Int) := by omega
                go_wp2_with fail
                go_roundg (x.txt.length - (j + 1))
                case measure => omega
                refine ⟨j + 1, by go_num, by omega, by omega, rfl, fun l hl hlj => ?_⟩
                by_cases e : l = j
                · subst e; rw [HTT.out]; omega
                · exact HL.out l hl (by omega)
            · have hjz : ¬ (j : Int) < (x.txt.length : Int) := by omega
              have H1 := hid (HST.out fun t ht => by
                obtain ⟨l, hl, rfl⟩ := List.mem_iff_getElem.1 ht
                exact HL.out l hl (by omega))
              go_wp2_with fail
              go_roundg (d.length - (i + 1))
              case measure => omega
              refine ⟨i + 1, by go_num, by omega, by omega, by omega, hb.trans HGW.out, fun l hl => ?_⟩
              by_cases e : l = i
              · subst e; exact H1.out
              · exact HJ.out l (by omega)
        · obtain ⟨k, rfl⟩ : ∃ k, i = k + 1 := ⟨i - 1, by omega⟩
          obtain ⟨e0, _⟩ := HXR.out k (by omega)
          have hsy := flds_at (d := d) (i := k) (by omega)
          obtain ⟨y, hy⟩ : ∃ y, d[k] = y := ⟨_, rfl⟩
          rw [hy] at e0 hsy
          have HSY := hid hsy
          clear hy hsy
          have k1 : (0 : Int) < (k : Int) + 1 := by omega
          have hltk : (k : Int) + 1 < (d.length : Int) := by omega
          have h16y : decide ((16 : Int) ≤ (k : Int) + 1) = false := decide_eq_false (by omega)
          have k2 : (0 : Int) ≤ (k : Int) := by omega
          have k3 : (k : Int) < (d.length : Int) := by omega
          have e1 : ∀ o, (wr.alloc o).cell? ⟨b, off + k * 2, none⟩ = some (.string y.name) := fun o => by
            rw [← e0]; exact ((Below.refl wr.heap.size wr).alloc (Nat.le_refl _) _).cell (p := ⟨b, off + k * 2, none⟩) (cell_block e0)
          cases hlt2 : Op.bytesLess y.name.toList x.name.toList with
          | false =>
            have H0 : Hid (r = false) := HR.out.symm.trans (may_no (i := k + 1) (by rw [List.length_map]; exact hlt) (step_not HSX.out (Or.inr (Or.inr (Or.inr (Or.inr ⟨by omega, by rw [Nat.add_sub_cancel, HSY.out]; exact hlt2⟩))))))
            go_wp2_with fail
            refine wp_region_quiet_lit mixed (by kernel_rfl) ?_
            repeat (go_big_quiet_step (first | (go_at_call 47; refine Calls.quiet_of_same (HFX.out _))))
            refine wpQuiet_nil ?_
            intro _ hw'
            obtain ⟨nq, hw''⟩ := hw'
            subst hw''
            go_wp2_with fail
            go_ret
            exact ⟨ret_bool H0.out.symm, (hb.alloc _).drewN _⟩
          | true =>
            by_cases ht0 : x.txt.length = 0
            · have ht0z : (x.txt.length : Int) = 0 := by omega
              have H0 : Hid (r = false) := HR.out.symm.trans (may_no (i := k + 1) (by rw [List.length_map]; exact hlt) (step_not HSX.out (Or.inr (Or.inl ht0))))
              go_wp2_with fail
              refine wp_region_quiet_lit mixed (by kernel_rfl) ?_
              repeat (go_big_quiet_step (first | (go_at_call 47; refine Calls.quiet_of_same (HFX.out _))))
              refine wpQuiet_nil ?_
              intro _ hw'
              obtain ⟨nq, hw''⟩ := hw'
              subst hw''
              go_wp2_with fail
              go_ret
              exact ⟨ret_bool H0.out.symm, (hb.alloc _).drewN _⟩
            have ht0z : ¬ (x.txt.length : Int) = 0 := by omega
            have ht0d : ((x.txt.length : Int) == 0) = false := beq_eq_false_iff_ne.2 ht0z
            by_cases ht8 : 8 < x.txt.length
            · have ht8z : (8 : Int) < (x.txt.length : Int) := by omega
              have H0 : Hid (r = false) := HR.out.symm.trans (may_no (i := k + 1) (by rw [List.length_map]; exact hlt) (step_not HSX.out (Or.inr (Or.inr (Or.inl ht8)))))
              go_wp2_with fail
              refine wp_region_quiet_lit mixed (by kernel_rfl) ?_
              repeat (go_big_quiet_step (first | (go_at_call 47; refine Calls.quiet_of_same (HFX.out _))))
              refine wpQuiet_nil ?_
              intro _ hw'
              obtain ⟨nq, hw''⟩ := hw'
              subst hw''
              go_wp2_with fail
              go_ret
              exact ⟨ret_bool H0.out.symm, (hb.alloc _).drewN _⟩
            have ht8z : decide ((8 : Int) < (x.txt.length : Int)) = false := decide_eq_false (by omega)
            have HST : Hid ((∀ t ∈ x.txt, t.size ≤ 128) → stepOk (d.map Fx.fld) (k + 1) = true) := fun h => step_of HSX.out hfx (by show 0 < x.txt.length; omega) (by show x.txt.length ≤ 8; omega) h (Or.inr (by rw [Nat.add_sub_cancel, HSY.out]; exact hlt2))
            obtain ⟨bt, ot, hpt, hct0⟩ : ∃ bt ot, x.p = some ⟨bt, ot, none⟩ ∧ ∀ l, (h : l < x.txt.length) → wr.cell? ⟨bt, ot + l, none⟩ = some (.string x.txt[l]) := by
              rcases HXI.out with h | h
              · exact absurd (by rw [h]; rfl) ht0
              · exact h
            have HCT0 := hid hct0
            rw [hpt] at c1
            clear hpt hct0
            go_wp2_with fail
            refine wp_region_quiet_lit mixed (by kernel_rfl) ?_
            repeat (go_big_quiet_step (first | (go_at_call 47; refine Calls.quiet_of_same (HFX.out _))))
            refine wpQuiet_nil ?_
            intro _ hw'
            obtain ⟨nq, hw''⟩ := hw'
            subst hw''
            go_wp2_with fail
            obtain ⟨W2, hW2⟩ : ∃ W2, (wr.alloc (.cells #[.string x.name, .slice (some ⟨bt, ot, none⟩) x.txt.length x.cap] 61)).drewN nq = W2 := ⟨_, rfl⟩
            have hgW : Grown wr W2 := by rw [← hW2]; exact ((Grown.refl wr).alloc _).drewN _
            have q1 : W2.cell? ⟨wr.heap.size, 1, none⟩ = some (.slice (some ⟨bt, ot, none⟩) x.txt.length x.cap) := by rw [← hW2]; exact (x_new wr ⟨x.name, some ⟨bt, ot, none⟩, x.cap, x.txt⟩ (wr.alloc _) (Below.refl _ _)).2
            have hat : ∀ l, (h : l < x.txt.length) → W2.cell? ⟨bt, ot + l, none⟩ = some (.string x.txt[l]) := fun l h => (hgW.below.cell (p := ⟨bt, ot + l, none⟩) (cell_block (HCT0.out l h))).trans (HCT0.out l h)
            have HGW := hid hgW
            have HAT := hid hat
            rw [hW2]
            clear hgW hat hW2
            go_loopg [5] x.txt.length (fun g vj W => ∃ j : Nat, vj = .int .i64 j ∧ j ≤ x.txt.length ∧ x.txt.length - j ≤ g ∧ W = W2 ∧ Hid (∀ l (h : l < x.txt.length), l < j → (x.txt[l]).size ≤ 128))
            case atStart => exact ⟨0, rfl, by omega, by omega, rfl, fun l _ h => by omega⟩
            case round =>
              obtain ⟨j, rfl, hj, hgj, rfl, HL⟩ := hrel
              by_cases hjl : j < x.txt.length
              · have hjz : (j : Int) < (x.txt.length : Int) := by omega
                have hj0 : (0 : Int) ≤ (j : Int) := by omega
                have ctj := HAT.out j hjl
                obtain ⟨t, htt⟩ : ∃ t, x.txt[j] = t := ⟨_, rfl⟩
                have HTT := hid htt
                rw [htt] at ctj
                clear htt
                by_cases hts : 128 < t.size
                · have htsz : (128 : Int) < (t.size : Int) := by omega
                  have H0 : Hid (r = false) := HR.out.symm.trans (may_no (i := k + 1) (by rw [List.length_map]; exact hlt) (step_not HSX.out (Or.inr (Or.inr (Or.inr (Or.inl ⟨t, by rw [← HTT.out]; exact List.getElem_mem hjl, hts⟩))))))
                  go_wp2_with fail
                  go_ret
                  exact ⟨ret_bool H0.out.symm, hb.trans HGW.out⟩
                · have htsz : ¬ (128 : Int) < (t.size : Int) := by omega
                  go_wp2_with fail
                  go_roundg (x.txt.length - (j + 1))
                  case measure => omega
                  refine ⟨j + 1, by go_num, by omega, by omega, rfl, fun l hl hlj => ?_⟩
                  by_cases e : l = j
                  · subst e; rw [HTT.out]; omega
                  · exact HL.out l hl (by omega)
              · have hjz : ¬ (j : Int) < (x.txt.length : Int) := by omega
                have H1 := hid (HST.out fun t ht => by
                  obtain ⟨l, hl, rfl⟩ := List.mem_iff_getElem.1 ht
                  exact HL.out l hl (by omega))
                go_wp2_with fail
                go_roundg (d.length - (k + 1 + 1))
                case measure => omega
                refine ⟨k + 1 + 1, by go_num, by omega, by omega, by omega, hb.trans HGW.out, fun l hl => ?_⟩
                by_cases e : l = k + 1
                · subst e; exact H1.out
                · exact HJ.out l (by omega)
    · have hltz : ¬ (i : Int) < (d.length : Int) := by omega
      have H0 : Hid (r = true) := HR.out.symm.trans (may_yes (by rw [List.length_map]; omega) (fun j hj => HJ.out j (by rw [List.length_map] at hj; omega)))
      go_wp2_with fail
      go_ret
      exact ⟨ret_bool H0.out.symm, hb⟩

end Go.Proofs.Ytipbdpjnabeilaa

/-
  The reference's chain (stage 6): Add.
-/
namespace Go.Proofs.Ytipbdpjnabeilaa
open Go.RowKit

/-- The chain's second cell is as it was. -/
def Gn (w w' : World) (g : Nat) : Prop := ∀ u, w.cell? ⟨g, 1, none⟩ = some u → w.frozen? ⟨g, 1, none⟩ = false → w'.cell? ⟨g, 1, none⟩ = some u ∧ w'.frozen? ⟨g, 1, none⟩ = false

theorem Gn.below {w w' : World} {g : Nat} (hb : Below w.heap.size w w') : Gn w w' g := fun _ h1 h2 =>
  ⟨(hb.cell (p := ⟨g, 1, none⟩) (cell_block h1)).trans h1, (World.frozen?_of_block (a := ⟨g, 1, none⟩) (hb.block g (cell_block h1))).trans h2⟩

theorem gn_push {n0 : Nat} {w W w4 : World} {g : Nat} {d : List Vx} {vs : Value} (hC : PrgC n0 w g d vs) (hb : Below w.heap.size w W) (hg : W.grownBy w4 vs.ownBlock) (v : Value) : Gn w (w4.setCell ⟨g, 0, none⟩ v) g := fun u h1 h2 => by
  obtain ⟨h3, h4⟩ := Gn.below (g := g) hb u h1 h2
  have hlt : g < W.heap.size := cell_block h3
  have e : w4.heap[g]? = W.heap[g]? := hg.block g hlt fun e => hC.off g (Or.inl e.symm) rfl
  have c4 : w4.cell? ⟨g, 1, none⟩ = some u := (World.cell?_of_block (a := ⟨g, 1, none⟩) e).trans h3
  have z4 : w4.frozen? ⟨g, 1, none⟩ = false := (World.frozen?_of_block (a := ⟨g, 1, none⟩) e).trans h4
  exact ⟨by simp [go_sem, c4], by simp [go_sem, z4]⟩

set_option maxHeartbeats 4000000 in
set_option maxRecDepth 100000 in
theorem radd_any {n0 : Nat} {w : World} {g : Nat} {d : List Vx} {vs : Value} (hC : PrgC n0 w g d vs) (hnum : (lastV (d.map Vx.ver)).num = (d.length : Int)) (stamp tick : Int) (live : Bool) (v : Value) (e : List Fx) (val : List Fld) (hv : IsXs w v e) (hf : FitX e) (hval : e.map Fx.fld = val) (h0 : 0 ≤ stamp) (htop : (lastV (d.map Vx.ver)).num < 2400000000000) :
    Calls Try.prog 25 #[.pointer (some ⟨g, 0, none⟩), .int .u64 stamp, .int .i64 tick, .bool live, v] w fun r w' =>
      r = .returned (.tuple #[.int .i64 (putN (d.map Vx.ver) stamp live val), .int .i64 (putC (d.map Vx.ver) stamp live val)]) ∧ TurnC n0 w g d vs (putL (d.map Vx.ver) stamp tick live val) w' ∧ Gn w w' g := by
  have HBX : Hid (Below w.heap.size w (w.alloc (.cells #[.int .i64 0, .int .u64 0, .int .i64 0, .bool false, .slice none 0 0] 41))) := (Below.refl _ _).alloc (Nat.le_refl _) _
  have hC1 := hC.on HBX.out
  have HC := hid hC
  have hfew := hC.few
  obtain ⟨p, cap, rfl⟩ := Kind.own_shape hC.row
  have c0 := hC1.cell
  have hge := last_ge hC.ok
  have hls : (lastX d).stamp = (lastV (d.map Vx.ver)).stamp := by rw [← lastX_ver]; rfl
  have hll : (lastX d).live = (lastV (d.map Vx.ver)).live := by rw [← lastX_ver]; rfl
  have hln : (lastX d).num = (d.length : Int) := by rw [← hnum, ← lastX_ver]; rfl
  have HA := hid (last_at hC1)
  have HGE : Hid (0 ≤ (lastX d).stamp) := by show 0 ≤ (lastX d).stamp; rw [hls]; exact hge
  have HCODE : Hid (((lastX d).stamp < stamp ∧ putC (d.map Vx.ver) stamp live val = if live = true ∧ mayB val = false then 3 else if live = false ∧ (lastX d).live = false then 6 else 0) ∨ (stamp ≤ (lastX d).stamp ∧ putC (d.map Vx.ver) stamp live val = 8)) := by
    rcases Int.lt_or_le (lastX d).stamp stamp with h | h
    · left
      refine ⟨h, ?_⟩
      rw [pc_at hge (by rw [← hls]; omega), hll]
    · exact Or.inr ⟨h, pc_old (by rw [← hls]; exact h)⟩
  have HYES : Hid (∀ (W w4 : World) (b c : Nat) (pu : Option Addr) (cu : Nat) (o : List Fx), putC (d.map Vx.ver) stamp live val = 0 → Below w.heap.size w W → OwnJ w.heap.size W (.slice pu o.length cu) o → mayB (o.map Fx.fld) = true → o.map Fx.fld = (if live = true then val else []) → KV.Own n0 w4 (.slice (some ⟨b, 0, none⟩) (d.length + 1) c) (d ++ [⟨(d.length : Int) + 1, stamp, tick, live, pu, cu, o⟩]) → W.grownBy w4 (Value.slice p d.length cap).ownBlock → ((Value.slice p d.length cap).ownBlock = some b ∨ w.heap.size ≤ b) → Value.tuple #[.int .i64 ((d.length : Int) + 1), .int .i64 0] = Value.tuple #[.int .i64 (putN (d.map Vx.ver) stamp live val), .int .i64 (putC (d.map Vx.ver) stamp live val)] ∧ TurnC n0 w g d (.slice p d.length cap) (putL (d.map Vx.ver) stamp tick live val) (w4.setCell ⟨g, 0, none⟩ (.slice (some ⟨b, 0, none⟩) (d.length + 1) c)) ∧ Gn w (w4.setCell ⟨g, 0, none⟩ (.slice (some ⟨b, 0, none⟩) (d.length + 1) c)) g) := fun W w4 b c pu cu o hc hb hj hm hv' ho hg hat => by
    have hgn := gn_push hC hb hg (.slice (some ⟨b, 0, none⟩) (d.length + 1) c)
    rw [← hln] at ho ⊢
    have hpy := put_yes (W := W) (w4 := w4) hC (tick := tick) h0 hc htop hb (pu := pu) (cu := cu) (o := o) hj hm hv' ho hg hat
    exact ⟨hpy.1, hpy.2, hgn⟩
  have HMAY : Hid (∀ W, Below w.heap.size w W → Calls Try.prog 40 #[v] W fun r w' => r = .returned (.bool (mayB val)) ∧ Grown W w') := fun W hW => by
    have := rmay_any v e W (hv.kept hW) hf
    rw [hval] at this
    exact this
  have HCOPY : Hid (mayB val = true → ∀ W, Below w.heap.size w W → Calls Try.prog 23 #[v] W fun r w' => ∃ u o, r = .returned u ∧ OwnJ W.heap.size w' u o ∧ o.map Fx.fld = val ∧ Below W.heap.size W w') := fun hm W hW => by
    have := fields_any v e W (hv.kept hW) hf (may_fit (by rw [hval]; exact hm)).2
    rw [hval] at this
    exact this
  have HPC : Hid (∀ W, Below w.heap.size w W → W.cell? ⟨g, 0, none⟩ = some (.slice p d.length cap) ∧ W.frozen? ⟨g, 0, none⟩ = false) := fun W hW => ⟨(hC.on hW).cell, (hC.on hW).free⟩
  obtain ⟨vp, vc, rfl, _⟩ := hv
  clear hC1 hC hls hll hln hge htop hval hf hnum
  obtain ⟨N, hN⟩ : ∃ N, w.heap.size = N := ⟨_, rfl⟩
  obtain ⟨L, hL⟩ : ∃ L, lastX d = L := ⟨_, rfl⟩
  rw [hL] at HA HCODE HGE
  clear hL
  have HVL : Hid (VerAt (w.alloc (.cells (encVx L).toArray 41)) N L) := by rw [← hN]; exact heap_alloc_new w _
  have HBL : Hid (Below w.heap.size w (w.alloc (.cells (encVx L).toArray 41))) := (Below.refl _ _).alloc (Nat.le_refl _) _
  obtain ⟨xn, xs, xt, xl, xp, xc, xo⟩ := L
  simp only [encVx, Vx.sl] at HBL HVL HCODE HGE
  go_enter Try.func25, Try.ntmps25
  go_upto_if 20 with fail
  try rw [hN]
  go_cut [12] from 20 (fun p12 wx => p12 = .pointer (some ⟨N, 0, none⟩) ∧ Hid (VerAt wx N ⟨xn, xs, xt, xl, xp, xc, xo⟩ ∧ Below w.heap.size w wx))
  case first =>
    rcases HA.out with ⟨rfl, hz⟩ | ⟨b1, k, hk, rfl, y0, y1, y2, y3, y4⟩
    · cases hz
      have e0 : ([] : List Vx).length = 0 := rfl
      go_wp2_with fail
      go_meet
      case rel => exact ⟨rfl, HVL.out, HBL.out⟩
    · simp only [Vx.sl] at y4
      have k0 : (0 : Int) ≤ (k : Int) := by omega
      have k1 : (k : Int) < (d.length : Int) := by omega
      have kp : (0 : Int) < (d.length : Int) := by omega
      have kz : (d.length : Int) - 1 = (k : Int) := by omega
      have kw : wrap64 ((d.length : Int) - 1) = (k : Int) := by simp [wrap64]; omega
      have kw' : wrap64 (k : Int) = (k : Int) := by simp [wrap64]; omega
      have kw2 : IntKind.i64.wrap ((d.length : Int) - 1) = (k : Int) := by rw [IntKind.wrap_i64]; omega
      have kw3 : IntKind.i64.wrap (k : Int) = (k : Int) := by rw [IntKind.wrap_i64]; omega
      clear hk
      clear HYES HMAY HCOPY HPC HCODE
      go_wp2_with fail
      go_region
      all_goals
        go_wp2_with fail
        go_meet
        case rel => exact ⟨rfl, HVL.out, HBL.out.drew⟩
  case rest =>
    obtain ⟨rfl, HR⟩ := hcut
    clear HA HVL HBL HBX c0
    obtain ⟨l0, l1, l2, l3, l4⟩ := HR.out.1.cells
    simp only [Nat.zero_add, Vx.sl] at l1 l2 l3 l4
    obtain ⟨cL, zL⟩ := HPC.out wc HR.out.2
    rcases HCODE.out with ⟨hs, hcode⟩ | ⟨hs, hcode⟩
    · have hs' : ¬ stamp ≤ xs := by omega
      have hs0 : (stamp == 0) = false := by
        rw [beq_eq_false_iff_ne]
        intro e2
        have h2 := HGE.out
        omega
      cases live with
      | true =>
        cases hmay : mayB val with
        | false =>
          have H3 : Hid (putC (d.map Vx.ver) stamp true val = 3) := by
            rw [if_pos ⟨rfl, hmay⟩] at hcode
            exact hcode
          have HM := hid (HMAY.out wc HR.out.2)
          rw [hmay] at HM
          clear HCODE HYES HMAY HCOPY hmay hcode
          go_wp2_with fail
          refine HM.out.mono ?_
          rintro r w2 ⟨rfl, hg2⟩
          have HB2 := hid (bel_then HR.out.2 HR.out.2.size hg2.below)
          clear hg2 HM l0 l1 l2 l3 l4 cL zL
          go_wp2_with fail
          go_ret2
          have := put_no (tick := tick) HC.out H3.out (by decide) HB2.out
          exact ⟨congrArg Ending.returned this.1, this.2, Gn.below HB2.out⟩
        | true =>
          have H3 : Hid (putC (d.map Vx.ver) stamp true val = 0) := by
            rw [if_neg (by rw [hmay]; simp), if_neg (by simp)] at hcode
            exact hcode
          have HMV := hid hmay
          have HM := hid (HMAY.out wc HR.out.2)
          rw [hmay] at HM
          have HCOPY := hid (HCOPY.out hmay)
          clear HCODE HMAY hmay hcode
          go_wp2_with fail
          refine HM.out.mono ?_
          rintro r w2 ⟨rfl, hg2⟩
          have hb2 := hg2.below
          have hBL2 := bel_then HR.out.2 HR.out.2.size hb2
          obtain ⟨l0', l1', l2', l3', l4'⟩ := (HR.out.1.on hb2).cells
          simp only [Nat.zero_add, Vx.sl] at l1' l2' l3' l4'
          obtain ⟨cL', zL'⟩ := HPC.out w2 hBL2
          obtain ⟨M, hM⟩ : ∃ M, w2.heap.size = M := ⟨_, rfl⟩
          have hNM : w.heap.size ≤ M := by have := hBL2.size; omega
          have HB3 : Hid (Below w.heap.size w (w2.alloc (.cells #[.int .i64 ((d.length : Int) + 1), .int .u64 stamp, .int .i64 tick, .bool true, .slice none 0 0] 41))) := hBL2.alloc hBL2.size _
          have HCP := hid (HCOPY.out _ HB3.out)
          have HX3 : Hid (VerAt (w2.alloc (.cells #[.int .i64 ((d.length : Int) + 1), .int .u64 stamp, .int .i64 tick, .bool true, .slice none 0 0] 41)) M ⟨(d.length : Int) + 1, stamp, tick, true, none, 0, []⟩) := by
            rw [← hM]; exact heap_alloc_new w2 _
          have hs3 : (w2.alloc (.cells #[.int .i64 ((d.length : Int) + 1), .int .u64 stamp, .int .i64 tick, .bool true, .slice none 0 0] 41)).heap.size = M + 1 := by simp [hM]
          clear hg2 hb2 hBL2 HM HCOPY l0 l1 l2 l3 l4 cL zL
          go_wp2_with fail
          refine HCP.out.mono ?_
          rintro r w4 ⟨u, o, rfl, hJ, hmo, hb4⟩
          obtain ⟨pu, cu, rfl⟩ := ownJ_slice hJ
          have hX4 := HX3.out.on hb4
          obtain ⟨m0, m1, m2, m3, m4'⟩ := hX4.cells
          have m4 : w4.cell? ⟨M, 4, none⟩ = some (.slice none 0 0) := by simpa [Vx.sl] using m4'
          simp only [Nat.zero_add] at m1 m2 m3
          have f4 := hX4.free 4
          obtain ⟨W5, hW5⟩ : ∃ W5, w4.setCell ⟨M, 4, none⟩ (.slice pu o.length cu) = W5 := ⟨_, rfl⟩
          obtain ⟨S5, hS5⟩ : ∃ S5, W5.heap.size = S5 := ⟨_, rfl⟩
          have hb34 : Below w.heap.size w w4 := bel_then HB3.out HB3.out.size hb4
          have hb5 : Below w.heap.size w W5 := by rw [← hW5]; exact hb34.setCell hNM _
          have hX5 : VerAt W5 M ⟨(d.length : Int) + 1, stamp, tick, true, pu, cu, o⟩ := by
            rw [← hW5]
            exact heap_setCell_same w4 M 4 _ _ _ hX4
          have hJ4 : OwnJ (M + 1) w4 (.slice pu o.length cu) o := own_weakJ hJ (by omega)
          have HJ5 : Hid (OwnJ w.heap.size W5 (.slice pu o.length cu) o) := by
            rw [← hW5]
            exact own_weakJ (ownJ_set hJ4 (by omega) _) (by omega)
          have HMO := hid hmo
          have HP := hid (push_at HC.out hb5 hX5 hNM hS5)
          obtain ⟨q0, q1, q2, q3, q4'⟩ := HP.out.new
          have q4 : W5.cell? ⟨M, 0 + 4, none⟩ = some (.slice pu o.length cu) := q4'
          have c5 := HP.out.cell
          have z5 := HP.out.free
          have a5 := HP.out.next
          have hne := HP.out.ne
          clear hX5 hb5 q4' hX4 hJ hJ4 hmo hb4 hb34 HX3 HCP m4' l0' l1' l2' l3' l4' cL' zL'
          go_upto_region 13 with fail
          try rw [hW5]
          clear hW5 m0 m1 m2 m3 m4 f4
          go_region_law (first
            | (refine step_putV _ (by rfl) (.tmp 75) (.tmp 77) (by rfl) n0 (.slice p d.length cap) d (by rfl) (by exact HP.out.own _) _ ⟨(d.length : Int) + 1, stamp, tick, true, pu, cu, o⟩ (by rfl) (by exact HP.out.lies) hfew (HP.out.big _) ?_; intro b6 cap6 w6 hown6 hg6 hat6; obtain ⟨g61, g62, g63⟩ := HP.out.then_ _ _ hg6))
          all_goals
            have HH := hid (HYES.out _ w6 b6 cap6 pu cu o H3.out (HP.out.bel _) (HJ5.out.on (bel_drewN ((Below.refl _ _).alloc (Nat.le_refl _) _) 1)) (by rw [HMO.out]; exact HMV.out) HMO.out hown6 hg6 (hat6.imp id (HP.out.high _ _)))
            clear hown6 hg6 hat6
            go_wp2_with fail
            go_ret2
            exact ⟨congrArg Ending.returned HH.out.1, HH.out.2.1, HH.out.2.2⟩
      | false =>
        cases xl with
        | false =>
          have H6 : Hid (putC (d.map Vx.ver) stamp false val = 6) := by
            rw [if_neg (by simp), if_pos ⟨rfl, rfl⟩] at hcode
            exact hcode
          clear HCODE HYES HMAY HCOPY hcode
          go_wp2_with fail
          go_ret2
          have := put_no (tick := tick) HC.out H6.out (by decide) HR.out.2
          exact ⟨congrArg Ending.returned this.1, this.2, Gn.below HR.out.2⟩
        | true =>
          have H6 : Hid (putC (d.map Vx.ver) stamp false val = 0) := by
            rw [if_neg (by simp), if_neg (by simp)] at hcode
            exact hcode
          clear HCODE HMAY HCOPY hcode
          go_wp2_with fail
          obtain ⟨M, hM⟩ : ∃ M, wc.heap.size = M := ⟨_, rfl⟩
          have hNM : w.heap.size ≤ M := by have := HR.out.2.size; omega
          obtain ⟨W5, hW5⟩ : ∃ W5, wc.alloc (.cells #[.int .i64 ((d.length : Int) + 1), .int .u64 stamp, .int .i64 tick, .bool false, .slice none 0 0] 41) = W5 := ⟨_, rfl⟩
          have hb5 : Below w.heap.size w W5 := by rw [← hW5]; exact HR.out.2.alloc HR.out.2.size _
          have hs5 : W5.heap.size = M + 1 := by rw [← hW5, ← hM]; simp
          have hX5 : VerAt W5 M ⟨(d.length : Int) + 1, stamp, tick, false, none, 0, []⟩ := by
            rw [← hW5, ← hM]
            exact heap_alloc_new wc _
          have HP := hid (push_at HC.out hb5 hX5 hNM hs5)
          obtain ⟨q0, q1, q2, q3, q4'⟩ := HP.out.new
          have q4 : W5.cell? ⟨M, 0 + 4, none⟩ = some (.slice none 0 0) := q4'
          have c5 := HP.out.cell
          have z5 := HP.out.free
          have a5 := HP.out.next
          have hne := HP.out.ne
          have HW0 := hid (own_noneX w.heap.size)
          clear hX5 hb5 q4'
          try rw [hW5]
          try rw [hM]
          clear l0 l1 l2 l3 l4 cL zL
          go_region_law (first
            | (refine step_putV _ (by rfl) (.tmp 75) (.tmp 77) (by rfl) n0 (.slice p d.length cap) d (by rfl) (by exact HP.out.own _) _ ⟨(d.length : Int) + 1, stamp, tick, false, none, 0, []⟩ (by rfl) (by exact HP.out.lies) hfew (HP.out.big _) ?_; intro b6 cap6 w6 hown6 hg6 hat6; obtain ⟨g61, g62, g63⟩ := HP.out.then_ _ _ hg6))
          all_goals
            have HH := hid (HYES.out _ w6 b6 cap6 none 0 [] H6.out (HP.out.bel _) (HW0.out _) may_nil rfl hown6 hg6 (hat6.imp id (HP.out.high _ _)))
            clear hown6 hg6 hat6
            go_wp2_with fail
            go_ret2
            exact ⟨congrArg Ending.returned HH.out.1, HH.out.2.1, HH.out.2.2⟩
    · have H8 := hid hcode
      clear hcode
      by_cases hz : stamp = 0
      · have hz' : (stamp == 0) = true := by simpa using hz
        clear HCODE HYES HMAY HCOPY hz
        go_wp2_with fail
        go_ret2
        have := put_no (tick := tick) HC.out H8.out (by decide) HR.out.2
        exact ⟨congrArg Ending.returned this.1, this.2, Gn.below HR.out.2⟩
      · have hz' : (stamp == 0) = false := by simpa using hz
        clear HCODE HYES HMAY HCOPY hz
        go_wp2_with fail
        go_ret2
        have := put_no (tick := tick) HC.out H8.out (by decide) HR.out.2
        exact ⟨congrArg Ending.returned this.1, this.2, Gn.below HR.out.2⟩

end Go.Proofs.Ytipbdpjnabeilaa

/-
  The program's chain and the reference's, side by side (stage 6).
-/
namespace Go.Proofs.Ytipbdpjnabeilaa
open Go.RowKit

theorem refC_of {n0 : Nat} {w : World} {g gone : Nat} {d : List Vx} {vs : Value} (h : PrgC n0 w g d vs) (gn : w.cell? ⟨g, 1, none⟩ = some (.int .i64 gone)) (gf : w.frozen? ⟨g, 1, none⟩ = false) (hle : gone ≤ d.length) : RefC w g d gone vs := by
  refine ⟨h.cell, gn, h.free, gf, Kind.own_is h.row, fun x hx => ⟨(h.fits x hx).1, (h.fits x hx).2.1⟩, hle, h.few, fun W hg => ?_⟩
  have f : Fr (fun k => k = g) w W := Fr.of_grown hg fun k hk => by simpa using hk.symm
  refine ⟨Kind.own_is (show KV.Own n0 W vs d from f.row (show w.ownsRow n0 41 5 vs d.length (KV.cells d) from h.row) fun k hk => h.off k (Or.inl hk)), fun x hx => ?_⟩
  exact (ownJ_fr (h.each x hx).1 f fun k hk => h.off k (Or.inr ⟨x, hx, hk⟩)).1.is

/-- Both chains: the program's versions are L, the reference's R, of which the first ones are gone. -/
def TwoG (n0 gc gr : Nat) (L R : List Vr) (gone : Nat) (W : World) : Prop :=
  ∃ dc vc dr vr, PrgC n0 W gc dc vc ∧ PrgC n0 W gr dr vr ∧ dc.map Vx.ver = L ∧ dr.map Vx.ver = R ∧ W.cell? ⟨gr, 1, none⟩ = some (.int .i64 gone) ∧ W.frozen? ⟨gr, 1, none⟩ = false ∧ gone ≤ R.length ∧ ∀ k, BlkC gc dc vc k → ¬ BlkC gr dr vr k

theorem frozen_fr {P : Nat → Prop} {w W : World} {a : Addr} (f : Fr P w W) (hlt : a.block < w.heap.size) (h : w.frozen? a = false) (hP : ¬ P a.block) : W.frozen? a = false := (World.frozen?_of_block (f.block a.block hlt hP)).trans h

theorem TwoG.on {n0 gc gr : Nat} {L R : List Vr} {gone : Nat} {W W2 : World} (h : TwoG n0 gc gr L R gone W) (hb : Below W.heap.size W W2) : TwoG n0 gc gr L R gone W2 := by
  obtain ⟨dc, vc, dr, vr, h1, h2, h3, h4, h5, h6, h7, h9⟩ := h
  have f : Fr (fun _ => False) W W2 := Fr.of_below hb
  exact ⟨dc, vc, dr, vr, h1.on hb, h2.on hb, h3, h4, f.cell h5 (fun h => h), frozen_fr f (cell_block h5) h6 (fun h => h), h7, h9⟩

theorem TwoG.base {n0 gc gr : Nat} {L R : List Vr} {gone : Nat} {W : World} (h : TwoG n0 gc gr L R gone W) : n0 ≤ W.heap.size := by
  obtain ⟨dc, vc, dr, vr, h1, _⟩ := h
  have h5 : gc < W.heap.size := cell_block h1.cell
  have h6 := h1.base
  omega

theorem TwoG.gr {n0 gc gr : Nat} {L R : List Vr} {gone : Nat} {W : World} (h : TwoG n0 gc gr L R gone W) : gr < W.heap.size := by
  obtain ⟨dc, vc, dr, vr, _, h2, _⟩ := h
  exact cell_block h2.cell

theorem TwoG.ch {n0 gc gr : Nat} {L R : List Vr} {gone : Nat} {W : World} (h : TwoG n0 gc gr L R gone W) : ChSt n0 gc L W := by
  obtain ⟨dc, vc, dr, vr, h1, _, h3, _⟩ := h
  exact ⟨dc, vc, h1, h3⟩

theorem TwoG.ok {n0 gc gr : Nat} {L R : List Vr} {gone : Nat} {W : World} (h : TwoG n0 gc gr L R gone W) : OkV R ∧ ∀ v ∈ R, mayB v.val = true := by
  obtain ⟨dc, vc, dr, vr, _, h2, _, h4, _⟩ := h
  subst h4
  exact ⟨h2.ok, fun v hv => by
    obtain ⟨x, hx, rfl⟩ := List.mem_map.1 hv
    exact (h2.each x hx).2⟩

theorem TwoG.ref {n0 gc gr : Nat} {L R : List Vr} {gone : Nat} {W : World} (h : TwoG n0 gc gr L R gone W) : ∃ dr vr, RefC W gr dr gone vr ∧ dr.map Vx.ver = R ∧ (∀ x ∈ dr, mayB (x.o.map Fx.fld) = true) ∧ KV.Own n0 W vr dr := by
  obtain ⟨dc, vc, dr, vr, _, h2, _, h4, h5, h6, h7, _⟩ := h
  exact ⟨dr, vr, refC_of h2 h5 h6 (by rw [← h4, List.length_map] at h7; exact h7), h4, fun x hx => (h2.each x hx).2, h2.row⟩

theorem g_put {n0 gc gr : Nat} {L R : List Vr} {gone : Nat} {W0 W : World} (h : TwoG n0 gc gr L R gone W0) (hb : Below W0.heap.size W0 W) (stamp tick : Int) (live : Bool) (v : Value) (e : List Fx) (val : List Fld) (hv : IsXs W v e) (hf : FitX e) (hval : e.map Fx.fld = val) (h0 : 0 ≤ stamp) (htop : (lastV L).num < 2400000000000) :
    Calls Try.prog 24 #[.pointer (some ⟨gc, 0, none⟩), .int .u64 stamp, .int .i64 tick, .bool live, v] W fun r w' =>
      r = .returned (.tuple #[.int .i64 (putN L stamp live val), .int .i64 (putC L stamp live val)]) ∧ TwoG n0 gc gr (putL L stamp tick live val) R gone w' ∧ Below n0 W w' ∧ Fr (fun k => n0 ≤ k ∧ k < W0.heap.size) W w' := by
  have hbase : n0 ≤ W.heap.size := (h.on hb).base
  have hlt0 : ∀ {g : Nat} {d : List Vx} {vs : Value}, PrgC n0 W0 g d vs → ∀ k, BlkC g d vs k → n0 ≤ k ∧ k < W0.heap.size := fun h => h.blk
  have hon := h.on hb
  obtain ⟨dc, vc, dr, vr, b1, b2, rfl, h4, b5, b6, h7, h9⟩ := h
  have h1 := b1.on hb
  have h2 := b2.on hb
  have f0 : Fr (fun _ => False) W0 W := Fr.of_below hb
  have h5 := f0.cell b5 (fun h => h)
  have h6 := frozen_fr f0 (cell_block b5) b6 (fun h => h)
  clear hon f0
  refine (put_any h1 stamp tick live v e val hv hf hval h0 htop).mono ?_
  rintro r w' ⟨e1, d', vs', a1, a2, a3, a4⟩
  refine ⟨e1, ⟨d', vs', dr, vr, a1, h2.fr a4 fun k hk hn => h9 k hn hk, a2, h4, a4.cell h5 fun hn => h9 gr hn (Or.inl rfl), frozen_fr a4 (cell_block h5) h6 fun hn => h9 gr hn (Or.inl rfl), h7, fun k hk hn => ?_⟩, a4.below hbase fun k hk => (h1.blk k hk).1, a4.mono fun k hk => hlt0 b1 k hk⟩
  rcases a3 k hk with h | h
  · exact h9 k h hn
  · have := (h2.blk k hn).2
    omega

theorem g_add {n0 gc gr : Nat} {L R : List Vr} {gone : Nat} {W0 W : World} (h : TwoG n0 gc gr L R gone W0) (hb : Below W0.heap.size W0 W) (hnum : (lastV R).num = (R.length : Int)) (stamp tick : Int) (live : Bool) (v : Value) (e : List Fx) (val : List Fld) (hv : IsXs W v e) (hf : FitX e) (hval : e.map Fx.fld = val) (h0 : 0 ≤ stamp) (htop : (lastV R).num < 2400000000000) :
    Calls Try.prog 25 #[.pointer (some ⟨gr, 0, none⟩), .int .u64 stamp, .int .i64 tick, .bool live, v] W fun r w' =>
      r = .returned (.tuple #[.int .i64 (putN R stamp live val), .int .i64 (putC R stamp live val)]) ∧ TwoG n0 gc gr L (putL R stamp tick live val) gone w' ∧ Below n0 W w' ∧ Fr (fun k => n0 ≤ k ∧ k < W0.heap.size) W w' := by
  have hbase : n0 ≤ W.heap.size := (h.on hb).base
  have hlt0 : ∀ {g : Nat} {d : List Vx} {vs : Value}, PrgC n0 W0 g d vs → ∀ k, BlkC g d vs k → n0 ≤ k ∧ k < W0.heap.size := fun h => h.blk
  have hon := h.on hb
  obtain ⟨dc, vc, dr, vr, b1, b2, h3, rfl, b5, b6, h7, h9⟩ := h
  have h1 := b1.on hb
  have h2 := b2.on hb
  have f0 : Fr (fun _ => False) W0 W := Fr.of_below hb
  have h5 := f0.cell b5 (fun h => h)
  have h6 := frozen_fr f0 (cell_block b5) b6 (fun h => h)
  clear hon f0
  rw [List.length_map] at hnum
  refine (radd_any h2 hnum stamp tick live v e val hv hf hval h0 htop).mono ?_
  rintro r w' ⟨e1, ⟨d', vs', a1, a2, a3, a4⟩, a5⟩
  have hlen : (dr.map Vx.ver).length ≤ (putL (dr.map Vx.ver) stamp tick live val).length := by
    unfold putL
    split
    · unfold putV; simp
    · omega
  obtain ⟨g1, g2⟩ := a5 _ h5 h6
  refine ⟨e1, ⟨dc, vc, d', vs', h1.fr a4 fun k hk hn => h9 k hk hn, a1, h3, a2, g1, g2, by omega, fun k hk hn => ?_⟩, a4.below hbase fun k hk => (h2.blk k hk).1, a4.mono fun k hk => hlt0 b2 k hk⟩
  rcases a3 k hn with h | h
  · exact h9 k hk h
  · have := (h1.blk k hk).2
    omega

theorem g_prune {n0 gc gr : Nat} {L R : List Vr} {gone : Nat} {W0 W : World} (h : TwoG n0 gc gr L R gone W0) (hb : Below W0.heap.size W0 W) (f : Int) :
    Calls Try.prog 17 #[.pointer (some ⟨gc, 0, none⟩), .int .u64 f] W fun r w' => r = .returned (.int .i64 (pruneN L f : Nat)) ∧ TwoG n0 gc gr (pruneV L f) R gone w' ∧ Below n0 W w' ∧ Fr (fun k => n0 ≤ k ∧ k < W0.heap.size) W w' := by
  have hbase : n0 ≤ W.heap.size := (h.on hb).base
  have hlt0 : ∀ {g : Nat} {d : List Vx} {vs : Value}, PrgC n0 W0 g d vs → ∀ k, BlkC g d vs k → n0 ≤ k ∧ k < W0.heap.size := fun h => h.blk
  have hon := h.on hb
  obtain ⟨dc, vc, dr, vr, b1, b2, rfl, h4, b5, b6, h7, h9⟩ := h
  have h1 := b1.on hb
  have h2 := b2.on hb
  have f0 : Fr (fun _ => False) W0 W := Fr.of_below hb
  have h5 := f0.cell b5 (fun h => h)
  have h6 := frozen_fr f0 (cell_block b5) b6 (fun h => h)
  clear hon f0
  refine (prune_any h1 f).mono ?_
  rintro r w' ⟨e1, d', vs', a1, a2, a3, a4⟩
  refine ⟨e1, ⟨d', vs', dr, vr, a1, h2.fr a4 fun k hk hn => h9 k hn hk, a2, h4, a4.cell h5 fun hn => h9 gr hn (Or.inl rfl), frozen_fr a4 (cell_block h5) h6 fun hn => h9 gr hn (Or.inl rfl), h7, fun k hk hn => ?_⟩, a4.below hbase fun k hk => (h1.blk k hk).1, a4.mono fun k hk => hlt0 b1 k hk⟩
  rcases a3 k hk with h | h
  · exact h9 k h hn
  · have := (h2.blk k hn).2
    omega

theorem g_rprune {n0 gc gr : Nat} {L R : List Vr} {gone : Nat} {W0 W : World} (h : TwoG n0 gc gr L R gone W0) (hb : Below W0.heap.size W0 W) (hnum : ∀ k, (hk : k < R.length) → (R[k]).num = (k : Int) + 1) (f : Int) :
    Calls Try.prog 32 #[.pointer (some ⟨gr, 0, none⟩), .int .u64 f] W fun r w' => r = .returned (.int .i64 (pruneN (R.drop gone) f : Nat)) ∧ TwoG n0 gc gr L R (gone + pruneN (R.drop gone) f) w' ∧ Below n0 W w' ∧ Fr (fun k => k = gr) W w' := by
  have hbase : n0 ≤ W.heap.size := (h.on hb).base
  have hon := h.on hb
  obtain ⟨dc, vc, dr, vr, b1, b2, h3, rfl, b5, b6, h7, h9⟩ := h
  have h1 := b1.on hb
  have h2 := b2.on hb
  have f0 : Fr (fun _ => False) W0 W := Fr.of_below hb
  have h5 := f0.cell b5 (fun h => h)
  have h6 := frozen_fr f0 (cell_block b5) b6 (fun h => h)
  clear hon f0
  rw [List.length_map] at h7
  refine (rprune_any gr gone dr vr f W (refC_of h2 h5 h6 h7) h2.ok.rise (fun k hk => ?_)).mono ?_
  · have := hnum k (by rw [List.length_map]; exact hk)
    rw [List.getElem_map] at this
    exact this
  · rintro r w' ⟨n, e1, hn, hR, hg⟩
    have fr : Fr (fun k => k = gr) W w' := Fr.of_grown hg fun k hk => by simpa using hk.symm
    rw [← List.map_drop, ← hn]
    refine ⟨e1, ⟨dc, vc, dr, vr, h1.fr fr fun k hk e => h9 k hk (Or.inl e), ⟨hR.put, hR.f0, h2.base, ?_, fun x hx => ⟨ownJ_fr (h2.each x hx).1 fr fun k hk => h2.off k (Or.inr ⟨x, hx, hk⟩), (h2.each x hx).2⟩, h2.off, h2.ok, h2.top⟩, h3, rfl, hR.gn, hR.f1, by rw [List.length_map]; exact hR.le, h9⟩, fr.below hbase fun k hk => by rw [hk]; exact h2.base, fr⟩
    exact fr.row (show W.ownsRow n0 41 5 vr dr.length (KV.cells dr) from h2.row) fun k hk => h2.off k (Or.inl hk)

/-- A version that the reference tells: it lies in the chain's own memory. -/
def RAns (W0 W : World) (o : Option Vr) (e : Ending) (w' : World) : Prop := ∃ x : Vx, e = .returned (.tuple #[.agg (encVx x).toArray, .bool o.isSome]) ∧ x.ver = o.getD zeroV ∧ x.at W0 ∧ Below W.heap.size W w'

theorem zero_at (W : World) : zeroVx.at W := ⟨none, 0, rfl, Or.inl rfl, fun x hx => by simp [zeroVx] at hx⟩

theorem g_rat {n0 gc gr : Nat} {L R : List Vr} {gone : Nat} {W0 W : World} (h : TwoG n0 gc gr L R gone W0) (hb0 : Below W0.heap.size W0 W) (t : Int) : Calls Try.prog 28 #[.pointer (some ⟨gr, 0, none⟩), .int .u64 t] W fun e w' => RAns W0 W (atV (R.drop gone) t) e w' := by
  have hok := h.ok.1
  obtain ⟨dr, vr, hR, rfl, _, _⟩ := h.ref
  refine (rat_any gr gone dr vr t W (hR.on hb0) hok.rise).mono ?_
  rintro e w' ⟨⟨x, b, rfl, hx⟩, hb⟩
  rw [← List.map_drop]
  rcases hx with ⟨rfl, h1, h2⟩ | ⟨rfl, h1, rfl⟩
  · have h3 : atV ((dr.drop gone).map Vx.ver) t = some x.ver := by
      unfold atV
      rw [if_neg h1, List.getElem?_map, h2]; rfl
    rw [h3]
    exact ⟨x, rfl, rfl, (hR.each x (List.mem_of_mem_drop (List.mem_of_getElem? h2))).1, hb⟩
  · have h3 : atV ((dr.drop gone).map Vx.ver) t = none := by unfold atV; rw [if_pos h1]
    rw [h3]
    exact ⟨zeroVx, rfl, rfl, zero_at W0, hb⟩

/-- What the reference's Number tells is what the program's tells. -/
theorem num_post {R : List Vr} {gone : Nat} {W0 W : World} {gr : Nat} {dr : List Vx} {vr : Value} {n : Int} {e : Ending} {w' : World} (hR : RefC W0 gr dr gone vr) (h4 : dr.map Vx.ver = R) (hok : OkV R) (hnum : ∀ k, (hk : k < R.length) → (R[k]).num = (k : Int) + 1) (h : NumPost W dr gone n e w') : RAns W0 W (numV (R.drop gone) n) e w' := by
  subst h4
  obtain ⟨⟨x, b, rfl, hx⟩, hb⟩ := h
  rcases hx with ⟨rfl, k, hk1, hk2, hk3⟩ | ⟨rfl, hn, rfl⟩
  · obtain ⟨hk4, hk5⟩ := List.getElem?_eq_some_iff.1 hk3
    have h3 : numV (((dr.map Vx.ver)).drop gone) n = some x.ver := by
      have ho := ok_drop hok gone
      have hlt : k - gone < ((dr.map Vx.ver).drop gone).length := by rw [List.length_drop, List.length_map]; omega
      have h5 := ok_find ho (k - gone) hlt
      have e1 : ((dr.map Vx.ver).drop gone)[k - gone] = x.ver := by
        rw [List.getElem_drop, List.getElem_map]
        have : gone + (k - gone) = k := by omega
        simp only [this, hk5]
      have e2 : x.ver.num = n := by
        have := hnum k (by rw [List.length_map]; exact hk4)
        rw [List.getElem_map, hk5] at this
        rw [this, hk1]
      rw [e1, e2] at h5
      exact h5
    rw [h3]
    exact ⟨x, rfl, rfl, (hR.each x (List.mem_of_getElem? hk3)).1, hb⟩
  · have h3 : numV ((dr.map Vx.ver).drop gone) n = none := by
      unfold numV
      rw [List.find?_eq_none]
      intro v hv
      obtain ⟨i, hi, rfl⟩ := List.mem_iff_getElem.1 hv
      rw [List.length_drop, List.length_map] at hi
      rw [List.getElem_drop]
      have := hnum (gone + i) (by rw [List.length_map]; omega)
      simp only [decide_eq_true_eq]
      omega
    rw [h3]
    exact ⟨zeroVx, rfl, rfl, zero_at W0, hb⟩

theorem g_rnum {n0 gc gr : Nat} {L R : List Vr} {gone : Nat} {W0 W : World} (h : TwoG n0 gc gr L R gone W0) (hb0 : Below W0.heap.size W0 W) (hnum : ∀ k, (hk : k < R.length) → (R[k]).num = (k : Int) + 1) (n : Int) : Calls Try.prog 29 #[.pointer (some ⟨gr, 0, none⟩), .int .i64 n] W fun e w' => RAns W0 W (numV (R.drop gone) n) e w' := by
  have hok := h.ok.1
  obtain ⟨dr, vr, hR, h4, _, _⟩ := h.ref
  exact (rnum_any gr gone dr vr n W (hR.on hb0)).mono fun e w' hp => num_post hR h4 hok hnum hp

theorem g_rlast {n0 gc gr : Nat} {L R : List Vr} {gone : Nat} {W0 W : World} (h : TwoG n0 gc gr L R gone W0) (hb0 : Below W0.heap.size W0 W) (hnum : ∀ k, (hk : k < R.length) → (R[k]).num = (k : Int) + 1) : Calls Try.prog 30 #[.pointer (some ⟨gr, 0, none⟩)] W fun e w' => RAns W0 W (R.drop gone).getLast? e w' := by
  have hok := h.ok.1
  obtain ⟨dr, vr, hR, h4, _, _⟩ := h.ref
  have e1 : numV (R.drop gone) (dr.length : Int) = (R.drop gone).getLast? := by
    have hl : dr.length = R.length := by rw [← h4, List.length_map]
    rw [hl]
    have ho := ok_drop hok gone
    rcases Nat.eq_zero_or_pos (R.drop gone).length with e | e
    · rw [List.length_eq_zero_iff.1 e]; rfl
    · have h5 := ok_find ho ((R.drop gone).length - 1) (by omega)
      have h6 := hnum (R.length - 1) (by rw [List.length_drop] at e; omega)
      have e2 : (R.drop gone)[(R.drop gone).length - 1] = R[R.length - 1]'(by rw [List.length_drop] at e; omega) := by
        rw [List.getElem_drop]
        congr 1
        rw [List.length_drop] at e ⊢
        omega
      rw [e2, h6] at h5
      rw [List.getLast?_eq_getElem?, List.getElem?_eq_getElem (by omega), e2]
      rw [← h5]
      congr 1
      rw [List.length_drop] at e
      omega
  rw [← e1]
  exact (rlast_any gr gone dr vr W (hR.on hb0)).mono fun e w' hp => num_post hR h4 hok hnum hp

end Go.Proofs.Ytipbdpjnabeilaa

/-
  The walk of ChainRefuses (stage 6).
-/
namespace Go.Proofs.Ytipbdpjnabeilaa
open Go.RowKit

/-- An operation in a block of its own. -/
def OpBox (w : World) (N : Nat) (x : Ox) : Prop := w.heap[N]? = some (.cells (encO x).toArray 33 (0, 0))

theorem OpBox.cells {w : World} {N : Nat} {x : Ox} (h : OpBox w N x) : w.cell? ⟨N, 1, none⟩ = some (.int .u64 x.stamp) ∧ w.cell? ⟨N, 2, none⟩ = some (.int .i64 x.tick) ∧ w.cell? ⟨N, 3, none⟩ = some (.bool x.live) ∧ w.cell? ⟨N, 4, none⟩ = some x.sl ∧ w.cell? ⟨N, 0, none⟩ = some (.int .i64 x.kind) ∧ w.cell? ⟨N, 5, none⟩ = some (.int .i64 x.n) := by
  unfold OpBox at h
  refine ⟨?_, ?_, ?_, ?_, ?_, ?_⟩ <;> (rw [Lib.cell_of_heap h]; rfl)

theorem OpBox.lt {w : World} {N : Nat} {x : Ox} (h : OpBox w N x) : N < w.heap.size := by
  unfold OpBox at h
  rcases Nat.lt_or_ge N w.heap.size with h' | h'
  · exact h'
  · rw [Array.getElem?_eq_none h'] at h; cases h

theorem OpBox.on {w W : World} {N : Nat} {x : Ox} (h : OpBox w N x) (hb : Below w.heap.size w W) : OpBox W N x := (hb.block N h.lt).trans h
theorem OpBox.fr {P : Nat → Prop} {N : Nat} {x : Ox} {W W2 : World} (h : OpBox W N x) (f : Fr P W W2) (hP : ¬ P N) : OpBox W2 N x := (f.block N h.lt hP).trans h

theorem sameVs_told {N M : Nat} {u v : Value} {o q : List Vx} {l m : List Vr} {W : World} (h : Told N u o l W) (k : Told M v q m W) (hl : ∀ v ∈ l, mayB v.val = true) (hm : ∀ v ∈ m, mayB v.val = true) (hf : l.length ≤ 2400000000000) :
    Calls Try.prog 12 #[u, v] W fun r w' => r = .returned (.bool (decide (l = m))) ∧ Below W.heap.size W w' := by
  have := sameVs_any u v o q W (Kind.own_is h.own) (Kind.own_is k.own) (h.fits hl) (k.fits hm) (by rw [h.len]; unfold maxLen; omega)
  rw [h.ver, k.ver] at this
  exact this

set_option maxHeartbeats 1500000 in
set_option maxRecDepth 100000 in
theorem refuses_any (v : Value) (ops : List Ox) (x : Ox) (w : World) (hv : KO.Is w v ops) (hx : ∀ x ∈ ops, OpAt w x) (hl : ops.length ≤ 2199023255552) (hxo : OpAt w x) :
    Calls Try.prog 8 #[v, .agg (encO x).toArray] w fun e w' => e = .returned (.bool true) ∧ Below w.heap.size w w' := by
  have hb0 : Below w.heap.size w (w.alloc (.cells (encO x).toArray 33)) := (Below.refl _ _).alloc (Nat.le_refl _) _
  have HF := hid (fixed_any (w.alloc (.cells (encO x).toArray 33)))
  have HLD : Hid (∀ W, Below w.heap.size w W → Calls Try.prog 15 #[v] W fun e w' => ∃ g, e = .returned (.pointer (some ⟨g, 0, none⟩)) ∧ ChSt W.heap.size g (laidV ops) w' ∧ (lastV (laidV ops)).num ≤ 2199023255552 ∧ Below W.heap.size W w') := fun W hW => st_laid v ops W (Kind.is_kept hv hW) (fun x hx' => (hx x hx').on hW) hl
  obtain ⟨p, cap, rfl, _⟩ := hv
  obtain ⟨N, hN⟩ : ∃ N, w.heap.size = N := ⟨_, rfl⟩
  have HO0 : Hid (OpBox (w.alloc (.cells (encO x).toArray 33)) N x) := by rw [← hN]; exact heap_alloc_new w _
  have HB0 := hid hb0
  have HXO := hid hxo
  obtain ⟨W0, hW0⟩ : ∃ W0, w.alloc (.cells (encO x).toArray 33) = W0 := ⟨_, rfl⟩
  have hs0 : W0.heap.size = N + 1 := by rw [← hW0, ← hN]; simp
  rw [hW0] at HF HO0 HB0
  have HPUT : Hid (∀ (n0 g : Nat) (l : List Vr) (V W : World), ChSt n0 g l V → Below V.heap.size V W → Below w.heap.size w W → (lastV l).num ≤ 2199023255552 → Calls Try.prog 24 #[.pointer (some ⟨g, 0, none⟩), .int .u64 x.stamp, .int .i64 x.tick, .bool x.live, x.sl] W fun r w' => r = .returned (.tuple #[.int .i64 (putN l x.stamp x.live x.val), .int .i64 (putC l x.stamp x.live x.val)]) ∧ ChSt n0 g (putL l x.stamp x.tick x.live x.val) w' ∧ Fr (fun k => n0 ≤ k ∧ k < V.heap.size) W w') := fun n0 g l V W h1 h2 h3 h4 => st_put2 h1 h2 x.stamp x.tick x.live x.sl x.o x.val (hxo.is.kept h3) hxo.fit rfl hxo.lo (by omega)
  clear hx hl hxo hb0
  obtain ⟨XV, hXV⟩ : ∃ XV, x.val = XV := ⟨_, rfl⟩
  rw [hXV] at HPUT
  clear hXV HXO
  obtain ⟨xk, xs, xt, xl, xp, xc, xo, xn⟩ := x
  simp only [encO, Ox.sl] at hW0 HPUT ⊢
  go_enter Try.func8, Try.ntmps8
  go_wp2_with fail
  try rw [hW0]
  try rw [hN]
  clear hW0
  refine HF.out.mono ?_
  rintro e w1 ⟨rfl, hb1⟩
  have HB1 := hid (bel_then HB0.out HB0.out.size hb1)
  have HO1 := hid (HO0.out.on hb1)
  have HL1 := hid (HLD.out w1 HB1.out)
  have hs1 : N + 1 ≤ w1.heap.size := by have := hb1.size; omega
  clear hb1 HF HLD HO0 HB0
  go_wp2_with fail
  refine HL1.out.mono ?_
  rintro e w2 ⟨g, rfl, hC2, hnum, hb2⟩
  generalize laidV ops = l at hC2 hnum
  have HB2 := hid (bel_then HB1.out HB1.out.size hb2)
  have HO2 := hid (HO1.out.on hb2)
  have HC2 := hid hC2
  have HAL := hid (st_all hC2)
  have HNUM := hid hnum
  have hs2 := hb2.size
  clear hC2 hb2 HL1 HB1 HO1 hnum
  go_wp2_with fail
  refine HAL.out.mono ?_
  intro e w3 hp3
  obtain ⟨u, o, rfl, ht3, hb3⟩ := all_told hp3
  have HOL := hid ht3.len
  have hfew := HC2.out.few
  obtain ⟨pu, cu, rfl⟩ := Kind.own_shape ht3.own
  have HT3 := hid ht3
  have HO3 := hid (HO2.out.on hb3)
  have HB3 := hid hb3
  have HLA := hid (st_last (HC2.out.on hb3))
  have hs3 := hb3.size
  clear hp3 ht3 hb3 HAL HO2
  go_wp2_with fail
  refine HLA.out.mono ?_
  rintro e w4 ⟨x4, rfl, hx4, _, hb4⟩
  have hba : Below w3.heap.size w3 (w4.alloc (.cells (encVx x4).toArray 41)) := hb4.alloc hb4.size _
  have HV4 : Hid (VerAt (w4.alloc (.cells (encVx x4).toArray 41)) w4.heap.size x4) := heap_alloc_new w4 _
  have hs4 := hb4.size
  obtain ⟨A4, hA4⟩ : ∃ A4, w4.heap.size = A4 := ⟨_, rfl⟩
  rw [hA4] at HV4 hs4
  have HB4 := hid (bel_then HB3.out HB3.out.size hba)
  have HT4 := hid (HT3.out.on hba)
  have HO4 := hid (HO3.out.on hba)
  have HBW4 := hid (bel_then HB2.out HB2.out.size HB4.out)
  have HPC := hid (HPUT.out _ g l w2 _ HC2.out HB4.out HBW4.out HNUM.out)
  have H4S : Hid (x4.stamp = (lastV l).stamp) := by
    show x4.ver.stamp = (lastV l).stamp
    rw [hx4]; rfl
  clear hx4 hb4 hba HLA HT3 HO3 HB3 HPUT
  obtain ⟨xn4, xs4, xt4, xl4, xp4, xc4, xo4⟩ := x4
  simp only [encVx, Vx.sl] at HV4 HB4 HT4 HO4 HBW4 HPC H4S ⊢
  obtain ⟨m1, m2, m3, m4, _, _⟩ := HO4.out.cells
  simp only [Ox.sl] at m1 m2 m3 m4
  go_wp2_with fail
  try rw [hA4]
  clear m1 m2 m3 m4
  refine HPC.out.mono ?_
  rintro e w5 ⟨rfl, hC5, hf5⟩
  have hT5 := HT4.out.fr hf5 fun k hk => hk.2
  have HT5 := hid hT5
  have hV5 := HV4.out.fr hf5 (by omega)
  have hO5 := HO4.out.fr hf5 (by omega)
  have hb5 : Below w.heap.size w w5 := HBW4.out.trans (hf5.below HBW4.out.size fun k hk => by omega)
  have HB5 := hid hb5
  have HC5 := hid hC5
  have HV5 := hid hV5
  have HO5 := hid hO5
  have HMAY := hid HC2.out.may
  clear hb5 hT5 hC5 hf5 hV5 hO5 HPC HT4 HV4 HO4 HBW4 HB4 HC2 HB2
  by_cases hcode : putC l xs xl XV = 0
  · rw [put_new hcode] at HC5
    have HAB := hid (put_above hcode)
    have hpl : 0 ≤ putN l xs xl XV ∨ True := Or.inr trivial
    rw [hcode]
    obtain ⟨PN, hPN⟩ : ∃ PN, putN l xs xl XV = PN := ⟨_, rfl⟩
    rw [hPN] at HC5 ⊢
    clear hcode hPN hpl
    have HLA := hid (st_last HC5.out)
    rw [List.getLast?_concat] at HLA
    go_wp2_with fail
    refine HLA.out.mono ?_
    rintro e w6 ⟨x6, rfl, hx6, _, hb6⟩
    have hba : Below w5.heap.size w5 (w6.alloc (.cells (encVx x6).toArray 41)) := hb6.alloc hb6.size _
    have HV6 : Hid (VerAt (w6.alloc (.cells (encVx x6).toArray 41)) w6.heap.size x6) := heap_alloc_new w6 _
    obtain ⟨A6, hA6⟩ : ∃ A6, w6.heap.size = A6 := ⟨_, rfl⟩
    rw [hA6] at HV6
    have HB6 := hid (bel_then HB5.out HB5.out.size hba)
    have HT6 := hid (HT5.out.on hba)
    have HC6 := hid (HC5.out.on hba)
    have hO6 := HO5.out.on hba
    have hV46 := HV5.out.on hba
    have HAL := hid (st_all HC6.out)
    obtain ⟨xn6, xs6, xt6, xl6, xp6, xc6, xo6⟩ := x6
    obtain ⟨rfl, rfl, rfl, rfl, -⟩ := ver_parts (show Vx.ver _ = ⟨_, _, _, _, _⟩ from hx6)
    obtain ⟨m1, m2, m3, m4, _, _⟩ := hO6.cells
    have n1 := hV46.cells.2.1
    simp only [Ox.sl, encVx, Vx.sl, Nat.zero_add] at m1 m2 m3 m4 n1 HV6 HB6 HT6 HC6 HAL ⊢
    have hab := HAB.out
    rw [← H4S.out] at hab
    have hab' : xs4 < xs6 := hab
    clear hx6 hb6 hba HLA HT5 HO5 HB5 HC5 HV5 hO6 hV46 hab HAB H4S
    go_wp2_with fail
    try rw [hA6]
    clear hA6 m1 m2 m3 m4 n1
    refine HAL.out.mono ?_
    intro e w7 hp7
    obtain ⟨u7, o7, rfl, ht7, hb7⟩ := all_told hp7
    have hol7 := ht7.len
    rw [List.length_append, List.length_singleton] at hol7
    have HT7 := hid (HT6.out.on hb7)
    have HC7 := hid (HC6.out.on hb7)
    have HB7 := hid (bel_then HB6.out HB6.out.size hb7)
    obtain ⟨p7, c7, rfl⟩ := Kind.own_shape ht7.own
    have hcap := (own_caps ht7.own).1
    have hol := HOL.out
    have hcm : c7 ≤ maxLen := by
      rcases ht7.own.2 with ⟨h1, _⟩ | ⟨_, c, _, h1, _, _, _, h2, _⟩
      · injection h1 with _ _ e; rw [e]; exact Nat.zero_le _
      · injection h1 with _ _ e; rw [e]; exact h2
    unfold maxLen at hcm
    have HSV : Hid (Calls Try.prog 12 #[.slice p7 o.length c7, .slice pu o.length cu] w7 fun r w' => r = .returned (.bool true) ∧ Below w7.heap.size w7 w') := by
      have hmay7 := HC7.out.may
      have h1 := take_is ht7.own o.length (by omega)
      have h2 := sameVs_any _ _ (o7.take o.length) o w7 h1 (Kind.own_is HT7.out.own) (fun x hx => ht7.fits hmay7 x (List.mem_of_mem_take hx)) (HT7.out.fits HMAY.out) (by rw [List.length_take]; unfold maxLen; omega)
      rw [List.map_take, ht7.ver, HT7.out.ver, hol, List.take_left, decide_eq_true rfl] at h2
      rw [hol]
      exact h2
    have hlen7 : o7.length = o.length + 1 := by omega
    have i1 : (o.length : Int) ≤ (c7 : Int) := by omega
    have i2 : (0 : Int) ≤ (o.length : Int) := by omega
    have HLE := hid (st_len HC7.out)
    rw [List.length_append, List.length_singleton, ← hol] at HLE
    have hof : o.length ≤ 2400000000000 := by omega
    have HE7 := hid hlen7
    clear hp7 ht7 hb7 hol7 HAL HT6 HC6 HB6 hcap hol hfew hlen7
    go_wp2_with fail
    refine HSV.out.mono ?_
    rintro e w8 ⟨rfl, hb8⟩
    have HLE8 := hid (st_len (HC7.out.on hb8))
    rw [List.length_append, List.length_singleton, ← HOL.out] at HLE8
    have HB8 := hid (bel_then HB7.out HB7.out.size hb8)
    clear hb8 HSV HLE HB7
    go_wp2_with fail
    refine HLE8.out.mono ?_
    rintro e w9 ⟨rfl, rfl⟩
    clear HLE8
    go_wp2_with fail
    go_ret
    first
    | exact ⟨rfl, HB8.out⟩
    | exact ⟨by simp, HB8.out⟩
  · obtain ⟨hsame, hn0⟩ := put_same (tick := xt) hcode
    rw [hsame] at HC5
    rw [hn0]
    obtain ⟨PC, hPC⟩ : ∃ PC, putC l xs xl XV = PC := ⟨_, rfl⟩
    rw [hPC] at hcode ⊢
    have hne : (PC != 0) = true := by simpa using hcode
    have HAL := hid (st_all HC5.out)
    clear hsame hn0 hPC hcode
    go_wp2_with fail
    refine HAL.out.mono ?_
    intro e w6 hp6
    obtain ⟨u6, o6, rfl, ht6, hb6⟩ := all_told hp6
    have HSV := hid (sameVs_told ht6 (HT5.out.on hb6) HMAY.out HMAY.out hfew)
    rw [decide_eq_true rfl] at HSV
    have HB6 := hid (bel_then HB5.out HB5.out.size hb6)
    obtain ⟨p6, c6, rfl⟩ := Kind.own_shape ht6.own
    clear hp6 ht6 hb6 HAL
    go_wp2_with fail
    refine HSV.out.mono ?_
    rintro e w7 ⟨rfl, hb7⟩
    have HB7 := hid (bel_then HB6.out HB6.out.size hb7)
    clear hb7 HSV HB6
    go_wp2_with fail
    go_ret
    exact ⟨rfl, HB7.out⟩

end Go.Proofs.Ytipbdpjnabeilaa

/-
  The program's chain and the reference's (stage 6): how their versions hang together; the reference's lists.
-/
namespace Go.Proofs.Ytipbdpjnabeilaa
open Go.RowKit

/-- What is there, of all that was put. -/
structure Rel (L R : List Vr) (gone : Nat) : Prop where
  drop : L = R.drop gone
  le : gone < R.length ∨ (R = [] ∧ gone = 0)
  nums : ∀ k, (hk : k < R.length) → (R[k]).num = (k : Int) + 1

theorem rel_nil : Rel [] [] 0 := ⟨rfl, Or.inr ⟨rfl, rfl⟩, fun k hk => by simp at hk⟩

theorem Rel.num {L R : List Vr} {gone : Nat} (h : Rel L R gone) : (lastV R).num = (R.length : Int) := by
  rcases Nat.eq_zero_or_pos R.length with e | e
  · obtain rfl := List.length_eq_zero_iff.1 e
    rfl
  · rw [lastV_get e, h.nums _ (by omega)]
    omega

theorem Rel.last {L R : List Vr} {gone : Nat} (h : Rel L R gone) : lastV L = lastV R := by
  rw [h.drop]
  rcases h.le with h1 | ⟨rfl, rfl⟩
  · exact lastV_drop h1
  · rfl

theorem Rel.code {L R : List Vr} {gone : Nat} (h : Rel L R gone) (stamp : Int) (live : Bool) (val : List Fld) : putC L stamp live val = putC R stamp live val ∧ putN L stamp live val = putN R stamp live val := by
  have e : putC L stamp live val = putC R stamp live val := by
    unfold putC putCode
    rw [h.last]
  refine ⟨e, ?_⟩
  unfold putN
  rw [e, h.last]

theorem Rel.put {L R : List Vr} {gone : Nat} (h : Rel L R gone) (stamp tick : Int) (live : Bool) (val : List Fld) : Rel (putL L stamp tick live val) (putL R stamp tick live val) gone ∧ (putL R stamp tick live val).length ≤ R.length + 1 := by
  have e := (h.code stamp live val).1
  unfold putL
  rw [e]
  split
  · unfold putV
    have hle : gone ≤ R.length := by
      rcases h.le with h1 | ⟨rfl, rfl⟩
      · omega
      · exact Nat.le_refl _
    refine ⟨⟨?_, Or.inl (by simp; omega), fun k hk => ?_⟩, by simp⟩
    · rw [h.last, h.drop, List.drop_append_of_le_length hle]
    · rw [List.length_append, List.length_singleton] at hk
      rcases Nat.lt_or_ge k R.length with h1 | h1
      · rw [List.getElem_append_left h1]
        exact h.nums k h1
      · have e2 : k = R.length := by omega
        subst e2
        rw [List.getElem_append_right (Nat.le_refl _)]
        simp only [Nat.sub_self, List.getElem_singleton]
        rw [h.num]
  · exact ⟨h, Nat.le_succ _⟩

theorem Rel.prune {L R : List Vr} {gone : Nat} (h : Rel L R gone) (f : Int) : Rel (pruneV L f) R (gone + pruneN (R.drop gone) f) ∧ pruneN L f = pruneN (R.drop gone) f := by
  have hd := h.drop
  refine ⟨⟨?_, ?_, h.nums⟩, by rw [hd]⟩
  · unfold pruneV
    rw [hd, List.drop_drop]
  · rcases h.le with h1 | ⟨rfl, rfl⟩
    · left
      have h2 := cutV_le (R.drop gone) f
      rw [List.length_drop] at h2
      unfold pruneN
      omega
    · right
      exact ⟨rfl, rfl⟩

/-- A list that the reference tells. -/
def RLst (W0 W : World) (l : List Vr) (e : Ending) (w' : World) : Prop := ∃ p c q, e = .returned (.slice p q.length c) ∧ KV.Is w' (.slice p q.length c) q ∧ q.map Vx.ver = l ∧ (∀ x ∈ q, x.at W0 ∧ FitX x.o) ∧ Below W.heap.size W w'

theorem g_rsince {n0 gc gr : Nat} {L R : List Vr} {gone : Nat} {W0 W : World} (h : TwoG n0 gc gr L R gone W0) (hb0 : Below W0.heap.size W0 W) (t : Int) : Calls Try.prog 31 #[.pointer (some ⟨gr, 0, none⟩), .int .u64 t] W fun e w' => RLst W0 W (sinceV (R.drop gone) t) e w' := by
  have hok := h.ok.1
  obtain ⟨dr, vr, hR, rfl, _, _⟩ := h.ref
  refine (rsince_any gr gone dr vr t W (hR.on hb0)).mono ?_
  rintro e w' ⟨u, rfl, ho, hb⟩
  obtain ⟨p, c, rfl⟩ := Kind.own_shape ho
  have hr : RiseV ((dr.drop gone).map Vx.ver) := by rw [List.map_drop]; exact rise_drop hok.rise _
  have e1 := sinceX_drop (dr.drop gone) t hr
  refine ⟨p, c, _, rfl, Kind.own_is ho, ?_, fun x hx => ?_, hb⟩
  · rw [e1]
    unfold sinceV
    rw [List.map_drop, List.map_drop]
  · rw [e1] at hx
    exact hR.each x (List.mem_of_mem_drop (List.mem_of_mem_drop hx))

set_option maxHeartbeats 1000000 in
set_option maxRecDepth 100000 in
theorem rall_none (g cap : Nat) (p : Option Addr) (w : World) (hC : RefC w g [] 0 (.slice p 0 cap)) (hp : p = none → cap = 0) :
    Calls Try.prog 14 #[.pointer (some ⟨g, 0, none⟩)] w fun e w' => ∃ u c, e = .returned (.slice u 0 c) ∧ ∃ n, w' = w.drewN n := by
  have c0 := hC.put
  have c1 := hC.gn
  have h3 : (0 : Int) ≤ (cap : Int) := by omega
  clear hC
  cases p with
  | none =>
    obtain rfl := hp rfl
    go_enter Try.func14, Try.ntmps14
    go_wp2_with fail
    go_quiet (fail)
    go_wp2_with fail
    go_ret
    exact ⟨_, _, rfl, _, rfl⟩
  | some a =>
    clear hp
    obtain ⟨ps, hps⟩ : ∃ ps, (if cap = 0 then some a else some (a.add (0 * 5))) = ps := ⟨_, rfl⟩
    by_cases hc : cap = 0
    · subst hc
      go_enter Try.func14, Try.ntmps14
      go_wp2_with fail
      go_quiet (fail)
      go_wp2_with fail
      go_ret
      exact ⟨_, _, rfl, _, rfl⟩
    · go_enter Try.func14, Try.ntmps14
      go_wp2_with fail
      go_quiet (fail)
      go_wp2_with fail
      go_ret
      exact ⟨_, _, rfl, _, rfl⟩

theorem g_rall {n0 gc gr : Nat} {L R : List Vr} {gone : Nat} {W0 W : World} (h : TwoG n0 gc gr L R gone W0) (hb0 : Below W0.heap.size W0 W) (hrel : Rel L R gone) : Calls Try.prog 14 #[.pointer (some ⟨gr, 0, none⟩)] W fun e w' => RLst W0 W (R.drop gone) e w' := by
  obtain ⟨dr, vr, hR, h4, _, ho⟩ := h.ref
  obtain ⟨p, cap, rfl⟩ := Kind.own_shape ho
  have hcap := own_caps ho
  rcases hrel.le with h1 | ⟨h1, rfl⟩
  · have hl : gone < dr.length := by rw [← h4, List.length_map] at h1; exact h1
    refine (rall_any gr gone cap p dr W (hR.on hb0) hcap.1 (Or.inr hl)).mono ?_
    rintro e w' ⟨u, rfl, hI, n, rfl⟩
    have hI' := hI
    obtain ⟨p', c', rfl, _⟩ := hI'
    refine ⟨p', c', dr.drop gone, rfl, Kind.is_kept hI (bel_drewN (Below.refl _ _) n), by rw [List.map_drop, h4], fun x hx => hR.each x (List.mem_of_mem_drop hx), bel_drewN (Below.refl _ _) n⟩
  · have hd : dr = [] := by rw [h1, List.map_eq_nil_iff] at h4; exact h4
    subst hd
    refine (rall_none gr cap p W (hR.on hb0) (fun e => (hcap.2 e).2)).mono ?_
    rintro e w' ⟨u, c, rfl, n, rfl⟩
    exact ⟨u, c, [], rfl, ⟨u, c, rfl, Or.inl rfl⟩, by rw [h1]; rfl, fun x hx => by simp at hx, bel_drewN (Below.refl _ _) n⟩

end Go.Proofs.Ytipbdpjnabeilaa

/-
  The walk of step (stage 6): what is shared.
-/
namespace Go.Proofs.Ytipbdpjnabeilaa
open Go.RowKit

/-- What one operation leaves. -/
def StepPost (n0 gc gr : Nat) (R : List Vr) (w : World) (e : Ending) (w' : World) : Prop := e = .returned (.bool true) ∧ ∃ L' R' gone', TwoG n0 gc gr L' R' gone' w' ∧ Rel L' R' gone' ∧ R'.length ≤ R.length + 1 ∧ Below n0 w w'

theorem StepPost.same {n0 gc gr : Nat} {L R : List Vr} {gone : Nat} {w w' : World} (h : TwoG n0 gc gr L R gone w) (hr : Rel L R gone) (hb : Below w.heap.size w w') : StepPost n0 gc gr R w (.returned (.bool true)) w' :=
  ⟨rfl, L, R, gone, h.on hb, hr, Nat.le_succ _, hb.mono h.base⟩

/-- The world in which step begins: the operation, and two zero versions, in blocks of their own. -/
def stepW (w : World) (x : Ox) : World := ((w.alloc (.cells (encO x).toArray 33)).alloc (.cells #[.int .i64 0, .int .u64 0, .int .i64 0, .bool false, .slice none 0 0] 41)).alloc (.cells #[.int .i64 0, .int .u64 0, .int .i64 0, .bool false, .slice none 0 0] 41)

theorem stepW_all (w : World) (x : Ox) : Below w.heap.size w (stepW w x) ∧ OpBox (stepW w x) w.heap.size x ∧ ZeroAt (stepW w x) (w.heap.size + 1) ∧ ZeroAt (stepW w x) (w.heap.size + 2) ∧ (stepW w x).heap.size = w.heap.size + 3 := by
  unfold stepW
  have b1 : Below w.heap.size w (w.alloc (.cells (encO x).toArray 33)) := (Below.refl _ _).alloc (Nat.le_refl _) _
  have s1 : (w.alloc (.cells (encO x).toArray 33)).heap.size = w.heap.size + 1 := by simp
  generalize hw1 : w.alloc (.cells (encO x).toArray 33) = w1 at *
  have o1 : OpBox w1 w.heap.size x := by rw [← hw1]; exact heap_alloc_new w _
  have b2 : Below w1.heap.size w1 (w1.alloc (.cells #[.int .i64 0, .int .u64 0, .int .i64 0, .bool false, .slice none 0 0] 41)) := (Below.refl _ _).alloc (Nat.le_refl _) _
  have s2 : (w1.alloc (.cells #[.int .i64 0, .int .u64 0, .int .i64 0, .bool false, .slice none 0 0] 41)).heap.size = w.heap.size + 2 := by simp [s1]
  have z1 : ZeroAt (w1.alloc (.cells #[.int .i64 0, .int .u64 0, .int .i64 0, .bool false, .slice none 0 0] 41)) (w.heap.size + 1) := by rw [← s1]; exact zero_new w1
  generalize hw2 : w1.alloc (.cells #[.int .i64 0, .int .u64 0, .int .i64 0, .bool false, .slice none 0 0] 41) = w2 at *
  have b3 : Below w2.heap.size w2 (w2.alloc (.cells #[.int .i64 0, .int .u64 0, .int .i64 0, .bool false, .slice none 0 0] 41)) := (Below.refl _ _).alloc (Nat.le_refl _) _
  have z2 : ZeroAt (w2.alloc (.cells #[.int .i64 0, .int .u64 0, .int .i64 0, .bool false, .slice none 0 0] 41)) (w.heap.size + 2) := by rw [← s2]; exact zero_new w2
  exact ⟨bel_then (bel_then b1 (by omega) b2) (by omega) b3, (o1.on b2).on b3, z1.on b3, z2, by simp [s2]⟩

/-- A version is stored into a block of its own. -/
def storeV (w : World) (M : Nat) (x : Vx) : World := ((((w.setCell ⟨M, 0, none⟩ (.int .i64 x.num)).setCell ⟨M, 1, none⟩ (.int .u64 x.stamp)).setCell ⟨M, 2, none⟩ (.int .i64 x.tick)).setCell ⟨M, 3, none⟩ (.bool x.live)).setCell ⟨M, 4, none⟩ x.sl

theorem storeV_ver {w : World} {M : Nat} (h : ZeroAt w M) (x : Vx) : VerAt (storeV w M x) M x :=
  heap_setCell_same _ M 4 _ _ _ (heap_setCell_same _ M 3 _ _ _ (heap_setCell_same _ M 2 _ _ _ (heap_setCell_same _ M 1 _ _ _ (heap_setCell_same w M 0 _ _ _ h))))

theorem storeV_fr (w : World) (M : Nat) (x : Vx) : Fr (fun k => k = M) w (storeV w M x) := by
  have f : ∀ (W : World) (j : Nat) (v : Value), Fr (fun k => k = M) W (W.setCell ⟨M, j, none⟩ v) := fun W j v => Fr.of_grown (grown_set W M j v) fun k hk => by simpa using hk.symm
  unfold storeV
  exact ((((f w 0 _).then (f _ 1 _) fun k hk => Or.inl hk).then (f _ 2 _) fun k hk => Or.inl hk).then (f _ 3 _) fun k hk => Or.inl hk).then (f _ 4 _) fun k hk => Or.inl hk

theorem ZeroAt.fr {P : Nat → Prop} {N : Nat} {W W2 : World} (h : ZeroAt W N) (hlt : N < W.heap.size) (f : Fr P W W2) (hP : ¬ P N) : ZeroAt W2 N := (f.block N hlt hP).trans h

theorem bool_eq_self (b : Bool) : (b == b) = true := by simp

end Go.Proofs.Ytipbdpjnabeilaa

/-
  The walk of step (stage 6): At, Number, Last.
-/
namespace Go.Proofs.Ytipbdpjnabeilaa
open Go.RowKit

set_option maxHeartbeats 1500000 in
set_option maxRecDepth 100000 in
theorem step_at {n0 gc gr : Nat} {L R : List Vr} {gone : Nat} {w : World} (h : TwoG n0 gc gr L R gone w) (hrel : Rel L R gone) (_hlen : R.length < 2400000000000) (x : Ox) (_hx : OpAt w x) (hk : x.kind = 2) :
    Calls Try.prog 11 #[.pointer (some ⟨gc, 0, none⟩), .pointer (some ⟨gr, 0, none⟩), .agg (encO x).toArray] w fun e w' => StepPost n0 gc gr R w e w' := by
  obtain ⟨hb0, hO0, hZ1, hZ2, hs0⟩ := stepW_all w x
  have HT := hid h
  have HR := hid hrel
  obtain ⟨N, hN⟩ : ∃ N, w.heap.size = N := ⟨_, rfl⟩
  obtain ⟨W0, hW0⟩ : ∃ W0, stepW w x = W0 := ⟨_, rfl⟩
  rw [hN, hW0] at hO0 hZ1 hZ2 hs0
  rw [hW0] at hb0
  have HB0 := hid hb0
  have HO0 := hid hO0
  have HZ1 := hid hZ1
  have HZ2 := hid hZ2
  obtain ⟨HO, hHO⟩ : ∃ HO, atV L x.stamp = HO := ⟨_, rfl⟩
  have HPC := hid (st_at (h.on hb0).ch x.stamp)
  rw [hHO] at HPC
  have HRC : Hid (∀ W, Below w.heap.size w W → Calls Try.prog 28 #[.pointer (some ⟨gr, 0, none⟩), .int .u64 x.stamp] W fun e w' => RAns w W HO e w') := fun W hW => by
    have := g_rat HT.out hW x.stamp
    rw [← HR.out.drop, hHO] at this
    exact this
  have HOPT : Hid (∀ v, HO = some v → mayB v.val = true) := fun v hv => (h.on hb0).ch.may v (by rw [← hHO] at hv; exact at_mem hv)
  clear hHO
  have HMAY := hid h.ok.2
  unfold stepW at hW0
  obtain ⟨o1, o2, o3, o4, o0, o5⟩ := hO0.cells
  clear h hrel hb0 hO0 hZ1 hZ2 _hx
  obtain ⟨xk, xs, xt, xl, xp, xc, xo, xn⟩ := x
  have hk' : xk = 2 := hk
  subst hk'
  clear hk
  simp only [encO, Ox.sl] at hW0 o0 o1 o2 o3 o4 o5 HPC HRC HOPT ⊢
  go_enter Try.func11, Try.ntmps11
  go_wp2_with fail
  try rw [hW0]
  try rw [hN]
  clear hW0 o0 o1 o2 o3 o4 o5
  refine HPC.out.mono ?_
  rintro e w1 ⟨xa, rfl, hxa, hJa, hb1⟩
  have hz1 := HZ1.out.on hb1
  obtain ⟨p0, p1, p2, p3, p4⟩ := hz1.cells
  have q0 := hz1.free 0
  have q1 := hz1.free 1
  have q2 := hz1.free 2
  have q3 := hz1.free 3
  have q4 := hz1.free 4
  obtain ⟨o1, o2, o3, o4, o0, o5⟩ := (HO0.out.on hb1).cells
  simp only [Ox.sl] at o4
  have hs1 := hb1.size
  rw [hs0] at hs1 hJa
  have f1 := storeV_fr w1 (N + 1) xa
  have HV1 := hid (storeV_ver hz1 xa)
  have hO1 := (HO0.out.on hb1).fr f1 (by omega)
  have HZ2' : Hid (ZeroAt (storeV w1 (N + 1) xa) (N + 2)) := (HZ2.out.on hb1).fr (by omega) f1 (by omega)
  have HJ1 := hid (ownJ_fr hJa f1 fun k hk e => by have := (ownJ_blk hJa k hk).1; omega)
  have HB1 : Hid (Below w.heap.size w (storeV w1 (N + 1) xa)) := (bel_then HB0.out HB0.out.size hb1).trans (f1.below (by omega) fun k hk => by omega)
  have hs1' : N + 3 ≤ (storeV w1 (N + 1) xa).heap.size := Nat.le_trans hs1 f1.size
  have HXA : Hid (xa.ver = HO.getD zeroV) := hxa
  have HRC1 := hid (HRC.out _ HB1.out)
  clear hxa hJa hb1 hz1 f1 HPC HRC HZ1 HZ2 HO0 hs1
  obtain ⟨W1, hW1⟩ : ∃ W1, storeV w1 (N + 1) xa = W1 := ⟨_, rfl⟩
  rw [hW1] at HV1 HZ2' HJ1 HB1 HRC1 hs1' hO1
  obtain ⟨v1, v2, v3, v4, v0, v5⟩ := hO1.cells
  simp only [Ox.sl] at v4
  unfold storeV at hW1
  obtain ⟨an, as_, at_, al, ap, ac, ao⟩ := xa
  simp only [Vx.sl, encVx] at hW1 ⊢
  obtain ⟨B, hB⟩ : ∃ B, HO.isSome = B := ⟨_, rfl⟩
  have HBB := hid hB
  try rw [hB]
  go_wp2_with fail
  try rw [hW1]
  clear hW1 p0 p1 p2 p3 p4 q0 q1 q2 q3 q4 o0 o1 o2 o3 o4 o5 v0 v1 v2 v3 v4 v5 hO1
  refine HRC1.out.mono ?_
  rintro e w2 ⟨xb, rfl, hxb, hab, hb2⟩
  have hz2 := HZ2'.out.on hb2
  obtain ⟨p0, p1, p2, p3, p4⟩ := hz2.cells
  have q0 := hz2.free 0
  have q1 := hz2.free 1
  have q2 := hz2.free 2
  have q3 := hz2.free 3
  have q4 := hz2.free 4
  have hs2 := hb2.size
  have f2 := storeV_fr w2 (N + 2) xb
  have hV2 := storeV_ver hz2 xb
  have hV1 := (HV1.out.on hb2).fr f2 (by omega)
  obtain ⟨a0, a1, a2, a3, a4⟩ := hV1.cells
  obtain ⟨b0, b1, b2, b3, b4⟩ := hV2.cells
  have hJ2 := ownJ_fr (HJ1.out.on hb2) f2 fun k hk e => by have := (ownJ_blk HJ1.out k hk).1; omega
  have hB2 : Below w.heap.size w (storeV w2 (N + 2) xb) := (bel_then HB1.out HB1.out.size hb2).trans (f2.below (by omega) fun k hk => by omega)
  have hfa : FitX _ := vans_fit HXA.out HOPT.out
  have hfb : FitX xb.o := vans_fit hxb HOPT.out
  have hSV := sameV_any _ xb (storeV w2 (N + 2) xb) hJ2.1.is (hab.kept hB2) hfa hfb
  rw [decide_eq_true (HXA.out.trans hxb.symm)] at hSV
  have HSV := hid hSV
  have HB2 := hid hB2
  clear hxb hab hb2 hz2 f2 hV2 hV1 hJ2 hB2 hfa hfb hSV HRC1 HV1 HJ1 HZ2' HB1 HXA
  obtain ⟨W2, hW2⟩ : ∃ W2, storeV w2 (N + 2) xb = W2 := ⟨_, rfl⟩
  rw [hW2] at HSV HB2 a0 a1 a2 a3 a4 b0 b1 b2 b3 b4
  unfold storeV at hW2
  obtain ⟨bn, bs_, bt_, bl, bp, bc, bo⟩ := xb
  simp only [Vx.sl, encVx, Nat.zero_add] at hW2 HSV a0 a1 a2 a3 a4 b0 b1 b2 b3 b4 ⊢
  try rw [hB]
  have hbb := bool_eq_self B
  go_wp2_with fail
  try rw [hW2]
  refine HSV.out.mono ?_
  rintro e w3 ⟨rfl, hb3⟩
  have HB3 := hid (bel_then HB2.out HB2.out.size hb3)
  clear hb3 HSV HB2 hW2 a0 a1 a2 a3 a4 b0 b1 b2 b3 b4 p0 p1 p2 p3 p4 q0 q1 q2 q3 q4
  go_wp2_with fail
  go_ret
  exact StepPost.same HT.out HR.out HB3.out

set_option maxHeartbeats 1500000 in
set_option maxRecDepth 100000 in
theorem step_number {n0 gc gr : Nat} {L R : List Vr} {gone : Nat} {w : World} (h : TwoG n0 gc gr L R gone w) (hrel : Rel L R gone) (_hlen : R.length < 2400000000000) (x : Ox) (_hx : OpAt w x) (hk : x.kind = 3) :
    Calls Try.prog 11 #[.pointer (some ⟨gc, 0, none⟩), .pointer (some ⟨gr, 0, none⟩), .agg (encO x).toArray] w fun e w' => StepPost n0 gc gr R w e w' := by
  obtain ⟨hb0, hO0, hZ1, hZ2, hs0⟩ := stepW_all w x
  have HT := hid h
  have HR := hid hrel
  obtain ⟨N, hN⟩ : ∃ N, w.heap.size = N := ⟨_, rfl⟩
  obtain ⟨W0, hW0⟩ : ∃ W0, stepW w x = W0 := ⟨_, rfl⟩
  rw [hN, hW0] at hO0 hZ1 hZ2 hs0
  rw [hW0] at hb0
  have HB0 := hid hb0
  have HO0 := hid hO0
  have HZ1 := hid hZ1
  have HZ2 := hid hZ2
  obtain ⟨HO, hHO⟩ : ∃ HO, numV L x.n = HO := ⟨_, rfl⟩
  have HPC := hid (st_number (h.on hb0).ch x.n _hx.n63)
  rw [hHO] at HPC
  have HRC : Hid (∀ W, Below w.heap.size w W → Calls Try.prog 29 #[.pointer (some ⟨gr, 0, none⟩), .int .i64 x.n] W fun e w' => RAns w W HO e w') := fun W hW => by
    have := g_rnum HT.out hW HR.out.nums x.n
    rw [← HR.out.drop, hHO] at this
    exact this
  have HOPT : Hid (∀ v, HO = some v → mayB v.val = true) := fun v hv => (h.on hb0).ch.may v (by rw [← hHO] at hv; exact num_mem hv)
  clear hHO
  have HMAY := hid h.ok.2
  unfold stepW at hW0
  obtain ⟨o1, o2, o3, o4, o0, o5⟩ := hO0.cells
  clear h hrel hb0 hO0 hZ1 hZ2 _hx
  obtain ⟨xk, xs, xt, xl, xp, xc, xo, xn⟩ := x
  have hk' : xk = 3 := hk
  subst hk'
  clear hk
  simp only [encO, Ox.sl] at hW0 o0 o1 o2 o3 o4 o5 HPC HRC HOPT ⊢
  go_enter Try.func11, Try.ntmps11
  go_wp2_with fail
  try rw [hW0]
  try rw [hN]
  clear hW0 o0 o1 o2 o3 o4 o5
  refine HPC.out.mono ?_
  rintro e w1 ⟨xa, rfl, hxa, hJa, hb1⟩
  have hz1 := HZ1.out.on hb1
  obtain ⟨p0, p1, p2, p3, p4⟩ := hz1.cells
  have q0 := hz1.free 0
  have q1 := hz1.free 1
  have q2 := hz1.free 2
  have q3 := hz1.free 3
  have q4 := hz1.free 4
  obtain ⟨o1, o2, o3, o4, o0, o5⟩ := (HO0.out.on hb1).cells
  simp only [Ox.sl] at o4
  have hs1 := hb1.size
  rw [hs0] at hs1 hJa
  have f1 := storeV_fr w1 (N + 1) xa
  have HV1 := hid (storeV_ver hz1 xa)
  have hO1 := (HO0.out.on hb1).fr f1 (by omega)
  have HZ2' : Hid (ZeroAt (storeV w1 (N + 1) xa) (N + 2)) := (HZ2.out.on hb1).fr (by omega) f1 (by omega)
  have HJ1 := hid (ownJ_fr hJa f1 fun k hk e => by have := (ownJ_blk hJa k hk).1; omega)
  have HB1 : Hid (Below w.heap.size w (storeV w1 (N + 1) xa)) := (bel_then HB0.out HB0.out.size hb1).trans (f1.below (by omega) fun k hk => by omega)
  have hs1' : N + 3 ≤ (storeV w1 (N + 1) xa).heap.size := Nat.le_trans hs1 f1.size
  have HXA : Hid (xa.ver = HO.getD zeroV) := hxa
  have HRC1 := hid (HRC.out _ HB1.out)
  clear hxa hJa hb1 hz1 f1 HPC HRC HZ1 HZ2 HO0 hs1
  obtain ⟨W1, hW1⟩ : ∃ W1, storeV w1 (N + 1) xa = W1 := ⟨_, rfl⟩
  rw [hW1] at HV1 HZ2' HJ1 HB1 HRC1 hs1' hO1
  obtain ⟨v1, v2, v3, v4, v0, v5⟩ := hO1.cells
  simp only [Ox.sl] at v4
  unfold storeV at hW1
  obtain ⟨an, as_, at_, al, ap, ac, ao⟩ := xa
  simp only [Vx.sl, encVx] at hW1 ⊢
  obtain ⟨B, hB⟩ : ∃ B, HO.isSome = B := ⟨_, rfl⟩
  have HBB := hid hB
  try rw [hB]
  go_wp2_with fail
  try rw [hW1]
  clear hW1 p0 p1 p2 p3 p4 q0 q1 q2 q3 q4 o0 o1 o2 o3 o4 o5 v0 v1 v2 v3 v4 v5 hO1
  refine HRC1.out.mono ?_
  rintro e w2 ⟨xb, rfl, hxb, hab, hb2⟩
  have hz2 := HZ2'.out.on hb2
  obtain ⟨p0, p1, p2, p3, p4⟩ := hz2.cells
  have q0 := hz2.free 0
  have q1 := hz2.free 1
  have q2 := hz2.free 2
  have q3 := hz2.free 3
  have q4 := hz2.free 4
  have hs2 := hb2.size
  have f2 := storeV_fr w2 (N + 2) xb
  have hV2 := storeV_ver hz2 xb
  have hV1 := (HV1.out.on hb2).fr f2 (by omega)
  obtain ⟨a0, a1, a2, a3, a4⟩ := hV1.cells
  obtain ⟨b0, b1, b2, b3, b4⟩ := hV2.cells
  have hJ2 := ownJ_fr (HJ1.out.on hb2) f2 fun k hk e => by have := (ownJ_blk HJ1.out k hk).1; omega
  have hB2 : Below w.heap.size w (storeV w2 (N + 2) xb) := (bel_then HB1.out HB1.out.size hb2).trans (f2.below (by omega) fun k hk => by omega)
  have hfa : FitX _ := vans_fit HXA.out HOPT.out
  have hfb : FitX xb.o := vans_fit hxb HOPT.out
  have hSV := sameV_any _ xb (storeV w2 (N + 2) xb) hJ2.1.is (hab.kept hB2) hfa hfb
  rw [decide_eq_true (HXA.out.trans hxb.symm)] at hSV
  have HSV := hid hSV
  have HB2 := hid hB2
  clear hxb hab hb2 hz2 f2 hV2 hV1 hJ2 hB2 hfa hfb hSV HRC1 HV1 HJ1 HZ2' HB1 HXA
  obtain ⟨W2, hW2⟩ : ∃ W2, storeV w2 (N + 2) xb = W2 := ⟨_, rfl⟩
  rw [hW2] at HSV HB2 a0 a1 a2 a3 a4 b0 b1 b2 b3 b4
  unfold storeV at hW2
  obtain ⟨bn, bs_, bt_, bl, bp, bc, bo⟩ := xb
  simp only [Vx.sl, encVx, Nat.zero_add] at hW2 HSV a0 a1 a2 a3 a4 b0 b1 b2 b3 b4 ⊢
  try rw [hB]
  have hbb := bool_eq_self B
  go_wp2_with fail
  try rw [hW2]
  refine HSV.out.mono ?_
  rintro e w3 ⟨rfl, hb3⟩
  have HB3 := hid (bel_then HB2.out HB2.out.size hb3)
  clear hb3 HSV HB2 hW2 a0 a1 a2 a3 a4 b0 b1 b2 b3 b4 p0 p1 p2 p3 p4 q0 q1 q2 q3 q4
  go_wp2_with fail
  go_ret
  exact StepPost.same HT.out HR.out HB3.out

set_option maxHeartbeats 1500000 in
set_option maxRecDepth 100000 in
theorem step_last {n0 gc gr : Nat} {L R : List Vr} {gone : Nat} {w : World} (h : TwoG n0 gc gr L R gone w) (hrel : Rel L R gone) (_hlen : R.length < 2400000000000) (x : Ox) (_hx : OpAt w x) (hk : x.kind = 4) :
    Calls Try.prog 11 #[.pointer (some ⟨gc, 0, none⟩), .pointer (some ⟨gr, 0, none⟩), .agg (encO x).toArray] w fun e w' => StepPost n0 gc gr R w e w' := by
  obtain ⟨hb0, hO0, hZ1, hZ2, hs0⟩ := stepW_all w x
  have HT := hid h
  have HR := hid hrel
  obtain ⟨N, hN⟩ : ∃ N, w.heap.size = N := ⟨_, rfl⟩
  obtain ⟨W0, hW0⟩ : ∃ W0, stepW w x = W0 := ⟨_, rfl⟩
  rw [hN, hW0] at hO0 hZ1 hZ2 hs0
  rw [hW0] at hb0
  have HB0 := hid hb0
  have HO0 := hid hO0
  have HZ1 := hid hZ1
  have HZ2 := hid hZ2
  obtain ⟨HO, hHO⟩ : ∃ HO, L.getLast? = HO := ⟨_, rfl⟩
  have HPC := hid (st_last (h.on hb0).ch)
  rw [hHO] at HPC
  have HRC : Hid (∀ W, Below w.heap.size w W → Calls Try.prog 30 #[.pointer (some ⟨gr, 0, none⟩)] W fun e w' => RAns w W HO e w') := fun W hW => by
    have := g_rlast HT.out hW HR.out.nums
    rw [← HR.out.drop, hHO] at this
    exact this
  have HOPT : Hid (∀ v, HO = some v → mayB v.val = true) := fun v hv => (h.on hb0).ch.may v (by rw [← hHO] at hv; exact List.mem_of_getLast? hv)
  clear hHO
  have HMAY := hid h.ok.2
  unfold stepW at hW0
  obtain ⟨o1, o2, o3, o4, o0, o5⟩ := hO0.cells
  clear h hrel hb0 hO0 hZ1 hZ2 _hx
  obtain ⟨xk, xs, xt, xl, xp, xc, xo, xn⟩ := x
  have hk' : xk = 4 := hk
  subst hk'
  clear hk
  simp only [encO, Ox.sl] at hW0 o0 o1 o2 o3 o4 o5 HPC HRC HOPT ⊢
  go_enter Try.func11, Try.ntmps11
  go_wp2_with fail
  try rw [hW0]
  try rw [hN]
  clear hW0 o0 o1 o2 o3 o4 o5
  refine HPC.out.mono ?_
  rintro e w1 ⟨xa, rfl, hxa, hJa, hb1⟩
  have hz1 := HZ1.out.on hb1
  obtain ⟨p0, p1, p2, p3, p4⟩ := hz1.cells
  have q0 := hz1.free 0
  have q1 := hz1.free 1
  have q2 := hz1.free 2
  have q3 := hz1.free 3
  have q4 := hz1.free 4
  obtain ⟨o1, o2, o3, o4, o0, o5⟩ := (HO0.out.on hb1).cells
  simp only [Ox.sl] at o4
  have hs1 := hb1.size
  rw [hs0] at hs1 hJa
  have f1 := storeV_fr w1 (N + 1) xa
  have HV1 := hid (storeV_ver hz1 xa)
  have hO1 := (HO0.out.on hb1).fr f1 (by omega)
  have HZ2' : Hid (ZeroAt (storeV w1 (N + 1) xa) (N + 2)) := (HZ2.out.on hb1).fr (by omega) f1 (by omega)
  have HJ1 := hid (ownJ_fr hJa f1 fun k hk e => by have := (ownJ_blk hJa k hk).1; omega)
  have HB1 : Hid (Below w.heap.size w (storeV w1 (N + 1) xa)) := (bel_then HB0.out HB0.out.size hb1).trans (f1.below (by omega) fun k hk => by omega)
  have hs1' : N + 3 ≤ (storeV w1 (N + 1) xa).heap.size := Nat.le_trans hs1 f1.size
  have HXA : Hid (xa.ver = HO.getD zeroV) := hxa
  have HRC1 := hid (HRC.out _ HB1.out)
  clear hxa hJa hb1 hz1 f1 HPC HRC HZ1 HZ2 HO0 hs1
  obtain ⟨W1, hW1⟩ : ∃ W1, storeV w1 (N + 1) xa = W1 := ⟨_, rfl⟩
  rw [hW1] at HV1 HZ2' HJ1 HB1 HRC1 hs1' hO1
  obtain ⟨v1, v2, v3, v4, v0, v5⟩ := hO1.cells
  simp only [Ox.sl] at v4
  unfold storeV at hW1
  obtain ⟨an, as_, at_, al, ap, ac, ao⟩ := xa
  simp only [Vx.sl, encVx] at hW1 ⊢
  obtain ⟨B, hB⟩ : ∃ B, HO.isSome = B := ⟨_, rfl⟩
  have HBB := hid hB
  try rw [hB]
  go_wp2_with fail
  try rw [hW1]
  clear hW1 p0 p1 p2 p3 p4 q0 q1 q2 q3 q4 o0 o1 o2 o3 o4 o5 v0 v1 v2 v3 v4 v5 hO1
  refine HRC1.out.mono ?_
  rintro e w2 ⟨xb, rfl, hxb, hab, hb2⟩
  have hz2 := HZ2'.out.on hb2
  obtain ⟨p0, p1, p2, p3, p4⟩ := hz2.cells
  have q0 := hz2.free 0
  have q1 := hz2.free 1
  have q2 := hz2.free 2
  have q3 := hz2.free 3
  have q4 := hz2.free 4
  have hs2 := hb2.size
  have f2 := storeV_fr w2 (N + 2) xb
  have hV2 := storeV_ver hz2 xb
  have hV1 := (HV1.out.on hb2).fr f2 (by omega)
  obtain ⟨a0, a1, a2, a3, a4⟩ := hV1.cells
  obtain ⟨b0, b1, b2, b3, b4⟩ := hV2.cells
  have hJ2 := ownJ_fr (HJ1.out.on hb2) f2 fun k hk e => by have := (ownJ_blk HJ1.out k hk).1; omega
  have hB2 : Below w.heap.size w (storeV w2 (N + 2) xb) := (bel_then HB1.out HB1.out.size hb2).trans (f2.below (by omega) fun k hk => by omega)
  have hfa : FitX _ := vans_fit HXA.out HOPT.out
  have hfb : FitX xb.o := vans_fit hxb HOPT.out
  have hSV := sameV_any _ xb (storeV w2 (N + 2) xb) hJ2.1.is (hab.kept hB2) hfa hfb
  rw [decide_eq_true (HXA.out.trans hxb.symm)] at hSV
  have HSV := hid hSV
  have HB2 := hid hB2
  clear hxb hab hb2 hz2 f2 hV2 hV1 hJ2 hB2 hfa hfb hSV HRC1 HV1 HJ1 HZ2' HB1 HXA
  obtain ⟨W2, hW2⟩ : ∃ W2, storeV w2 (N + 2) xb = W2 := ⟨_, rfl⟩
  rw [hW2] at HSV HB2 a0 a1 a2 a3 a4 b0 b1 b2 b3 b4
  unfold storeV at hW2
  obtain ⟨bn, bs_, bt_, bl, bp, bc, bo⟩ := xb
  simp only [Vx.sl, encVx, Nat.zero_add] at hW2 HSV a0 a1 a2 a3 a4 b0 b1 b2 b3 b4 ⊢
  try rw [hB]
  have hbb := bool_eq_self B
  go_wp2_with fail
  try rw [hW2]
  refine HSV.out.mono ?_
  rintro e w3 ⟨rfl, hb3⟩
  have HB3 := hid (bel_then HB2.out HB2.out.size hb3)
  clear hb3 HSV HB2 hW2 a0 a1 a2 a3 a4 b0 b1 b2 b3 b4 p0 p1 p2 p3 p4 q0 q1 q2 q3 q4
  go_wp2_with fail
  go_ret
  exact StepPost.same HT.out HR.out HB3.out

end Go.Proofs.Ytipbdpjnabeilaa

/-
  The walk of step (stage 6): Since, All, Len, Prune, and nothing.
-/
namespace Go.Proofs.Ytipbdpjnabeilaa
open Go.RowKit

theorem sameVs_ref {N : Nat} {u : Value} {o q : List Vx} {l : List Vr} {p : Option Addr} {c : Nat} {W : World} (h : Told N u o l W) (hq : KV.Is W (.slice p q.length c) q) (hv : q.map Vx.ver = l) (ha : ∀ x ∈ q, x.at W ∧ FitX x.o) (hl : ∀ v ∈ l, mayB v.val = true) (hf : l.length ≤ 2400000000000) :
    Calls Try.prog 12 #[u, .slice p q.length c] W fun r w' => r = .returned (.bool true) ∧ Below W.heap.size W w' := by
  have := sameVs_any u (.slice p q.length c) o q W (Kind.own_is h.own) hq (h.fits hl) ha (by rw [h.len]; unfold maxLen; omega)
  rw [h.ver, hv, decide_eq_true rfl] at this
  exact this

set_option maxHeartbeats 1500000 in
set_option maxRecDepth 100000 in
theorem step_all {n0 gc gr : Nat} {L R : List Vr} {gone : Nat} {w : World} (h : TwoG n0 gc gr L R gone w) (hrel : Rel L R gone) (_hlen : R.length < 2400000000000) (x : Ox) (_hx : OpAt w x) (hk : x.kind = 6) :
    Calls Try.prog 11 #[.pointer (some ⟨gc, 0, none⟩), .pointer (some ⟨gr, 0, none⟩), .agg (encO x).toArray] w fun e w' => StepPost n0 gc gr R w e w' := by
  obtain ⟨hb0, hO0, hZ1, hZ2, hs0⟩ := stepW_all w x
  have HT := hid h
  have HR := hid hrel
  obtain ⟨N, hN⟩ : ∃ N, w.heap.size = N := ⟨_, rfl⟩
  obtain ⟨W0, hW0⟩ : ∃ W0, stepW w x = W0 := ⟨_, rfl⟩
  rw [hN, hW0] at hO0 hZ1 hZ2 hs0
  rw [hW0] at hb0
  have HB0 := hid hb0
  have HO0 := hid hO0
  have HZ1 := hid hZ1
  have HZ2 := hid hZ2
  have HPC := hid (st_all (h.on hb0).ch)
  have HRC : Hid (∀ W, Below w.heap.size w W → Calls Try.prog 14 #[.pointer (some ⟨gr, 0, none⟩)] W fun e w' => RLst w W L e w') := fun W hW => by
    have := g_rall HT.out hW HR.out
    rw [← HR.out.drop] at this
    exact this
  have HMAY := hid (h.on hb0).ch.may
  have HFEW := hid (h.on hb0).ch.few
  unfold stepW at hW0
  obtain ⟨o1, o2, o3, o4, o0, o5⟩ := hO0.cells
  clear h hrel hb0 hO0 hZ1 hZ2 _hx
  obtain ⟨xk, xs, xt, xl, xp, xc, xo, xn⟩ := x
  have hk' : xk = 6 := hk
  subst hk'
  clear hk
  simp only [encO, Ox.sl] at hW0 o0 o1 o2 o3 o4 o5 ⊢
  go_enter Try.func11, Try.ntmps11
  go_wp2_with fail
  try rw [hW0]
  try rw [hN]
  clear hW0 o0 o1 o2 o3 o4 o5
  refine HPC.out.mono ?_
  intro e w1 hp1
  obtain ⟨u1, q1, rfl, ht1, hb1⟩ := all_told hp1
  obtain ⟨pp1, cc1, rfl⟩ := Kind.own_shape ht1.own
  have hB1 := bel_then HB0.out HB0.out.size hb1
  have HRC1 := hid (HRC.out w1 hB1)
  have HB1 := hid hB1
  have HT1 := hid ht1
  clear hp1 ht1 hb1 hB1 HPC HRC
  go_wp2_with fail
  refine HRC1.out.mono ?_
  rintro e w2 ⟨pp2, cc2, q2, rfl, hI2, hv2, ha2, hb2⟩
  have hB2 := bel_then HB1.out HB1.out.size hb2
  have HSV := hid (sameVs_ref (HT1.out.on hb2) hI2 hv2 (fun x hx => ⟨(ha2 x hx).1.kept hB2, (ha2 x hx).2⟩) HMAY.out HFEW.out)
  have HB2 := hid hB2
  clear hI2 hv2 ha2 hb2 hB2 HRC1 HB1 HT1
  go_wp2_with fail
  refine HSV.out.mono ?_
  rintro e w3 ⟨rfl, hb3⟩
  have HB3 := hid (bel_then HB2.out HB2.out.size hb3)
  clear hb3 HSV HB2
  go_wp2_with fail
  go_ret
  exact StepPost.same HT.out HR.out HB3.out

set_option maxHeartbeats 1500000 in
set_option maxRecDepth 100000 in
theorem step_len {n0 gc gr : Nat} {L R : List Vr} {gone : Nat} {w : World} (h : TwoG n0 gc gr L R gone w) (hrel : Rel L R gone) (_hlen : R.length < 2400000000000) (x : Ox) (_hx : OpAt w x) (hk : x.kind = 7) :
    Calls Try.prog 11 #[.pointer (some ⟨gc, 0, none⟩), .pointer (some ⟨gr, 0, none⟩), .agg (encO x).toArray] w fun e w' => StepPost n0 gc gr R w e w' := by
  obtain ⟨hb0, hO0, hZ1, hZ2, hs0⟩ := stepW_all w x
  have HT := hid h
  have HR := hid hrel
  obtain ⟨N, hN⟩ : ∃ N, w.heap.size = N := ⟨_, rfl⟩
  obtain ⟨W0, hW0⟩ : ∃ W0, stepW w x = W0 := ⟨_, rfl⟩
  rw [hN, hW0] at hO0 hZ1 hZ2 hs0
  rw [hW0] at hb0
  have HB0 := hid hb0
  have HO0 := hid hO0
  have HZ1 := hid hZ1
  have HZ2 := hid hZ2
  have HPC := hid (st_len (h.on hb0).ch)
  have HRC : Hid (∀ W, Below w.heap.size w W → Calls Try.prog 14 #[.pointer (some ⟨gr, 0, none⟩)] W fun e w' => RLst w W L e w') := fun W hW => by
    have := g_rall HT.out hW HR.out
    rw [← HR.out.drop] at this
    exact this
  unfold stepW at hW0
  obtain ⟨o1, o2, o3, o4, o0, o5⟩ := hO0.cells
  clear h hrel hb0 hO0 hZ1 hZ2 _hx
  obtain ⟨xk, xs, xt, xl, xp, xc, xo, xn⟩ := x
  have hk' : xk = 7 := hk
  subst hk'
  clear hk
  simp only [encO, Ox.sl] at hW0 o0 o1 o2 o3 o4 o5 ⊢
  go_enter Try.func11, Try.ntmps11
  go_wp2_with fail
  try rw [hW0]
  try rw [hN]
  clear hW0 o0 o1 o2 o3 o4 o5
  refine HPC.out.mono ?_
  rintro e w1 ⟨rfl, rfl⟩
  have HRC1 := hid (HRC.out w1 HB0.out)
  clear HPC HRC
  go_wp2_with fail
  refine HRC1.out.mono ?_
  rintro e w2 ⟨pp2, cc2, q2, rfl, hI2, hv2, ha2, hb2⟩
  have HB2 := hid (bel_then HB0.out HB0.out.size hb2)
  have hlen2 : ((L.length : Int) == (q2.length : Int)) = true := by
    rw [← hv2, List.length_map]
    simp
  clear hI2 hv2 ha2 hb2 HRC1
  go_wp2_with fail
  go_ret
  exact StepPost.same HT.out HR.out HB2.out

set_option maxHeartbeats 1500000 in
set_option maxRecDepth 100000 in
theorem step_else {n0 gc gr : Nat} {L R : List Vr} {gone : Nat} {w : World} (h : TwoG n0 gc gr L R gone w) (hrel : Rel L R gone) (_hlen : R.length < 2400000000000) (x : Ox) (_hx : OpAt w x) (hk : ∀ j : Int, 1 ≤ j → j ≤ 8 → x.kind ≠ j) :
    Calls Try.prog 11 #[.pointer (some ⟨gc, 0, none⟩), .pointer (some ⟨gr, 0, none⟩), .agg (encO x).toArray] w fun e w' => StepPost n0 gc gr R w e w' := by
  obtain ⟨hb0, hO0, hZ1, hZ2, hs0⟩ := stepW_all w x
  have HT := hid h
  have HR := hid hrel
  obtain ⟨N, hN⟩ : ∃ N, w.heap.size = N := ⟨_, rfl⟩
  obtain ⟨W0, hW0⟩ : ∃ W0, stepW w x = W0 := ⟨_, rfl⟩
  rw [hN, hW0] at hO0 hZ1 hZ2 hs0
  rw [hW0] at hb0
  have HB0 := hid hb0
  have HO0 := hid hO0
  have HZ1 := hid hZ1
  have HZ2 := hid hZ2
  have hV1 : VerAt W0 (N + 1) zeroVx := hZ1
  have hV2 : VerAt W0 (N + 2) zeroVx := hZ2
  obtain ⟨a0, a1, a2, a3, a4⟩ := hV1.cells
  obtain ⟨b0, b1, b2, b3, b4⟩ := hV2.cells
  simp only [zeroVx, Vx.sl, Nat.zero_add, List.length_nil] at a0 a1 a2 a3 a4 b0 b1 b2 b3 b4
  have hSV := sameV_any zeroVx zeroVx W0 (zero_at W0) (zero_at W0) (may_fit (o := []) may_nil).1 (may_fit (o := []) may_nil).1
  rw [decide_eq_true rfl] at hSV
  have HSV := hid hSV
  simp only [encVx, zeroVx, Vx.sl, List.length_nil] at HSV
  have k1 : (x.kind == 1) = false := by rw [beq_eq_false_iff_ne]; exact hk 1 (by decide) (by decide)
  have k2 : (x.kind == 2) = false := by rw [beq_eq_false_iff_ne]; exact hk 2 (by decide) (by decide)
  have k3 : (x.kind == 3) = false := by rw [beq_eq_false_iff_ne]; exact hk 3 (by decide) (by decide)
  have k4 : (x.kind == 4) = false := by rw [beq_eq_false_iff_ne]; exact hk 4 (by decide) (by decide)
  have k5 : (x.kind == 5) = false := by rw [beq_eq_false_iff_ne]; exact hk 5 (by decide) (by decide)
  have k6 : (x.kind == 6) = false := by rw [beq_eq_false_iff_ne]; exact hk 6 (by decide) (by decide)
  have k7 : (x.kind == 7) = false := by rw [beq_eq_false_iff_ne]; exact hk 7 (by decide) (by decide)
  have k8 : (x.kind == 8) = false := by rw [beq_eq_false_iff_ne]; exact hk 8 (by decide) (by decide)
  unfold stepW at hW0
  obtain ⟨o1, o2, o3, o4, o0, o5⟩ := hO0.cells
  clear h hrel hb0 hO0 hZ1 hZ2 _hx hk hV1 hV2 hSV
  obtain ⟨xk, xs, xt, xl, xp, xc, xo, xn⟩ := x
  simp only [encO, Ox.sl] at hW0 o0 o1 o2 o3 o4 o5 k1 k2 k3 k4 k5 k6 k7 k8 ⊢
  go_enter Try.func11, Try.ntmps11
  go_wp2_with fail
  try rw [hW0]
  refine HSV.out.mono ?_
  rintro e w3 ⟨rfl, hb3⟩
  have HB3 := hid (bel_then HB0.out HB0.out.size hb3)
  clear hb3 HSV
  go_wp2_with fail
  go_ret
  exact StepPost.same HT.out HR.out HB3.out

set_option maxHeartbeats 1500000 in
set_option maxRecDepth 100000 in
theorem step_since {n0 gc gr : Nat} {L R : List Vr} {gone : Nat} {w : World} (h : TwoG n0 gc gr L R gone w) (hrel : Rel L R gone) (_hlen : R.length < 2400000000000) (x : Ox) (_hx : OpAt w x) (hk : x.kind = 5) :
    Calls Try.prog 11 #[.pointer (some ⟨gc, 0, none⟩), .pointer (some ⟨gr, 0, none⟩), .agg (encO x).toArray] w fun e w' => StepPost n0 gc gr R w e w' := by
  obtain ⟨hb0, hO0, hZ1, hZ2, hs0⟩ := stepW_all w x
  have HT := hid h
  have HR := hid hrel
  obtain ⟨N, hN⟩ : ∃ N, w.heap.size = N := ⟨_, rfl⟩
  obtain ⟨W0, hW0⟩ : ∃ W0, stepW w x = W0 := ⟨_, rfl⟩
  rw [hN, hW0] at hO0 hZ1 hZ2 hs0
  rw [hW0] at hb0
  have HB0 := hid hb0
  have HO0 := hid hO0
  have HZ1 := hid hZ1
  have HZ2 := hid hZ2
  have HPC : Hid (∀ W, Below W0.heap.size W0 W → Calls Try.prog 19 #[.pointer (some ⟨gc, 0, none⟩), .int .u64 x.stamp] W fun e w' => AllPost W (sinceV L x.stamp) e w') := fun W hW => st_since ((HT.out.on HB0.out).on hW).ch x.stamp
  have HRC : Hid (∀ W, Below w.heap.size w W → Calls Try.prog 31 #[.pointer (some ⟨gr, 0, none⟩), .int .u64 x.stamp] W fun e w' => RLst w W (sinceV L x.stamp) e w') := fun W hW => by
    have := g_rsince HT.out hW x.stamp
    rw [← HR.out.drop] at this
    exact this
  have HMAY : Hid (∀ v ∈ sinceV L x.stamp, mayB v.val = true) := fun v hv => (h.on hb0).ch.may v (since_mem hv)
  have HFEW : Hid ((sinceV L x.stamp).length ≤ 2400000000000) := by
    have := (h.on hb0).ch.few
    show _ ≤ _
    unfold sinceV
    rw [List.length_drop]; omega
  have HBW : Hid (∀ W, Below W0.heap.size W0 W → Below w.heap.size w W) := fun W hW => bel_then HB0.out HB0.out.size hW
  have HOC : Hid (∀ W, Below W0.heap.size W0 W → W.cell? ⟨N, 1, none⟩ = some (.int .u64 x.stamp)) := fun W hW => (HO0.out.on hW).cells.1
  have hw0d : Below W0.heap.size W0 W0.drew := (Below.refl _ _).drew
  have s0 := HOC.out _ hw0d
  generalize sinceV L x.stamp = SL at HPC HRC HMAY HFEW
  unfold stepW at hW0
  obtain ⟨o1, o2, o3, o4, o0, o5⟩ := hO0.cells
  clear h hrel hb0 hO0 hZ1 hZ2 _hx
  obtain ⟨xk, xs, xt, xl, xp, xc, xo, xn⟩ := x
  have hk' : xk = 5 := hk
  subst hk'
  clear hk
  simp only [encO, Ox.sl] at hW0 o0 o1 o2 o3 o4 o5 HPC HRC HOC s0 ⊢
  go_enter Try.func11, Try.ntmps11
  go_wp2_with fail
  try rw [hW0]
  try rw [hN]
  clear hW0 o0 o1 o2 o3 o4 o5 HO0 HZ1 HZ2
  go_region_held3 (fun w' => w'.cell? ⟨N, 1, none⟩ = some (.int .u64 xs))
    (first | exact s0 | exact s1 | exact s2 | exact s3)
    (first
      | (go_at_call 19; refine (HPC.out _ hw0d).mono ?_; intro e w1 hp1; obtain ⟨u1, q1, rfl, ht1, hb1⟩ := all_told hp1; have HT1 := hid ht1; obtain ⟨pp1, cc1, rfl⟩ := Kind.own_shape ht1.own; have hb1' := bel_then hw0d (Nat.le_refl _) hb1; have s1 := HOC.out w1 hb1'; clear hp1 ht1 hb1)
      | (go_at_call 31; refine (HRC.out _ (HBW.out _ hb1')).mono ?_; rintro e w2 ⟨pp2, cc2, q2, rfl, hI2, hv2, ha2, hb2⟩; have hb2' := bel_then hb1' hb1'.size hb2; have HSV := hid (sameVs_ref (HT1.out.on hb2) hI2 hv2 (fun x hx => ⟨(ha2 x hx).1.kept (HBW.out _ hb2'), (ha2 x hx).2⟩) HMAY.out HFEW.out); have s2 := HOC.out w2 hb2'; clear hI2 hv2 ha2 hb2)
      | (go_at_call 12; refine HSV.out.mono ?_; rintro e w3 ⟨rfl, hb3⟩; have hb3' := bel_then hb2' hb2'.size hb3; have s3 := HOC.out w3 hb3'; clear hb3))
  have HB3 := hid (HBW.out _ hb3')
  go_wp2_with fail
  go_ret
  exact StepPost.same HT.out HR.out HB3.out

set_option maxHeartbeats 1500000 in
set_option maxRecDepth 100000 in
theorem step_prune {n0 gc gr : Nat} {L R : List Vr} {gone : Nat} {w : World} (h : TwoG n0 gc gr L R gone w) (hrel : Rel L R gone) (_hlen : R.length < 2400000000000) (x : Ox) (_hx : OpAt w x) (hk : x.kind = 8) :
    Calls Try.prog 11 #[.pointer (some ⟨gc, 0, none⟩), .pointer (some ⟨gr, 0, none⟩), .agg (encO x).toArray] w fun e w' => StepPost n0 gc gr R w e w' := by
  obtain ⟨hb0, hO0, hZ1, hZ2, hs0⟩ := stepW_all w x
  have HT := hid h
  have HR := hid hrel
  obtain ⟨N, hN⟩ : ∃ N, w.heap.size = N := ⟨_, rfl⟩
  obtain ⟨W0, hW0⟩ : ∃ W0, stepW w x = W0 := ⟨_, rfl⟩
  rw [hN, hW0] at hO0 hZ1 hZ2 hs0
  rw [hW0] at hb0
  have HB0 := hid hb0
  have HO0 := hid hO0
  have HZ1 := hid hZ1
  have HZ2 := hid hZ2
  have hw0d : Below W0.heap.size W0 W0.drew := (Below.refl _ _).drew
  have HPC := hid (g_prune HT.out (bel_then HB0.out HB0.out.size hw0d) x.stamp)
  have hpe := (HR.out.prune x.stamp).2
  have HRL := hid (HR.out.prune x.stamp).1
  rw [hpe] at HPC
  have HRC : Hid (∀ W, TwoG n0 gc gr (pruneV L x.stamp) R gone W → Calls Try.prog 32 #[.pointer (some ⟨gr, 0, none⟩), .int .u64 x.stamp] W fun r w' => r = .returned (.int .i64 (pruneN (R.drop gone) x.stamp : Nat)) ∧ TwoG n0 gc gr (pruneV L x.stamp) R (gone + pruneN (R.drop gone) x.stamp) w' ∧ Below n0 W w' ∧ Fr (fun k => k = gr) W w') := fun W hW => g_rprune hW (Below.refl _ _) HR.out.nums x.stamp
  have HBN : Hid (Below n0 w W0.drew) := (bel_then HB0.out HB0.out.size hw0d).mono h.base
  have HOF : Hid (∀ W, Fr (fun k => n0 ≤ k ∧ k < w.heap.size) W0.drew W → W.cell? ⟨N, 1, none⟩ = some (.int .u64 x.stamp)) := fun W hf => ((HO0.out.on hw0d).fr hf (by omega)).cells.1
  have hgrN : gr < N := by rw [← hN]; exact h.gr
  have HOB : Hid (∀ W, Fr (fun k => n0 ≤ k ∧ k < w.heap.size) W0.drew W → OpBox W N x) := fun W hf => (HO0.out.on hw0d).fr hf (by omega)
  have HOG : Hid (∀ W W2, OpBox W N x → Fr (fun k => k = gr) W W2 → W2.cell? ⟨N, 1, none⟩ = some (.int .u64 x.stamp)) := fun W W2 h1 h2 => (h1.fr h2 (by omega)).cells.1
  have s0 := ((HO0.out.on hw0d)).cells.1
  generalize pruneV L x.stamp = PL at HPC HRC HRL
  obtain ⟨n, hn⟩ : ∃ n, pruneN (R.drop gone) x.stamp = n := ⟨_, rfl⟩
  rw [hn] at HPC HRC HRL
  have hnn : ((n : Int) == (n : Int)) = true := by simp
  clear hn hpe
  unfold stepW at hW0
  obtain ⟨o1, o2, o3, o4, o0, o5⟩ := hO0.cells
  clear h hrel hb0 hO0 hZ1 hZ2 _hx
  obtain ⟨xk, xs, xt, xl, xp, xc, xo, xn⟩ := x
  have hk' : xk = 8 := hk
  subst hk'
  clear hk
  simp only [encO, Ox.sl] at hW0 o0 o1 o2 o3 o4 o5 HPC HRC HOF HOB HOG s0 ⊢
  go_enter Try.func11, Try.ntmps11
  go_wp2_with fail
  try rw [hW0]
  try rw [hN]
  clear hW0 o0 o1 o2 o3 o4 o5 HO0 HZ1 HZ2
  go_region_held3 (fun w' => w'.cell? ⟨N, 1, none⟩ = some (.int .u64 xs))
    (first | exact s0 | exact s1 | exact s2)
    (first
      | (go_at_call 17; refine HPC.out.mono ?_; rintro e w1 ⟨rfl, hT1, hB1, hF1⟩; have s1 := HOF.out w1 hF1; have hO1 := HOB.out w1 hF1; have HRC1 := hid (HRC.out w1 hT1); have HB1 := hid (HBN.out.trans hB1); clear hT1 hB1 hF1)
      | (go_at_call 32; refine HRC1.out.mono ?_; rintro e w2 ⟨rfl, hT2, hB2, hF2⟩; have s2 := HOG.out w1 w2 hO1 hF2; have HT2 := hid hT2; have HB2 := hid (HB1.out.trans hB2); clear hT2 hB2 hF2))
  go_wp2_with fail
  go_ret
  exact ⟨rfl, PL, R, gone + n, HT2.out, HRL.out, Nat.le_succ _, HB2.out⟩

end Go.Proofs.Ytipbdpjnabeilaa

/-
  The walk of step (stage 6): Put.
-/
namespace Go.Proofs.Ytipbdpjnabeilaa
open Go.RowKit

set_option maxHeartbeats 1500000 in
set_option maxRecDepth 100000 in
theorem step_put {n0 gc gr : Nat} {L R : List Vr} {gone : Nat} {w : World} (h : TwoG n0 gc gr L R gone w) (hrel : Rel L R gone) (hlen : R.length < 2400000000000) (x : Ox) (hx : OpAt w x) (hxb : ∀ W, Below n0 w W → IsXs W x.sl x.o) (hk : x.kind = 1) :
    Calls Try.prog 11 #[.pointer (some ⟨gc, 0, none⟩), .pointer (some ⟨gr, 0, none⟩), .agg (encO x).toArray] w fun e w' => StepPost n0 gc gr R w e w' := by
  obtain ⟨hb0, hO0, hZ1, hZ2, hs0⟩ := stepW_all w x
  have HT := hid h
  have HR := hid hrel
  obtain ⟨N, hN⟩ : ∃ N, w.heap.size = N := ⟨_, rfl⟩
  obtain ⟨W0, hW0⟩ : ∃ W0, stepW w x = W0 := ⟨_, rfl⟩
  rw [hN, hW0] at hO0 hZ1 hZ2 hs0
  rw [hW0] at hb0
  have HB0 := hid hb0
  have HO0 := hid hO0
  have HZ1 := hid hZ1
  have HZ2 := hid hZ2
  have hw0d : Below W0.heap.size W0 W0.drew := (Below.refl _ _).drew
  have HW0D := hid (bel_then HB0.out HB0.out.size hw0d)
  have hlast : (lastV L).num < 2400000000000 := by rw [hrel.last, hrel.num]; omega
  have hlastR : (lastV R).num < 2400000000000 := by rw [hrel.num]; omega
  have HFI := hid (fields_any x.sl x.o W0.drew ((hx.is.kept HB0.out).kept hw0d) hx.fit hx.copy)
  have HPC : Hid (∀ (W : World) (u : Value) (o : List Fx), Below W0.drew.heap.size W0.drew W → OwnJ W0.drew.heap.size W u o → o.map Fx.fld = x.o.map Fx.fld → Calls Try.prog 24 #[.pointer (some ⟨gc, 0, none⟩), .int .u64 x.stamp, .int .i64 x.tick, .bool x.live, u] W fun r w' => r = .returned (.tuple #[.int .i64 (putN R x.stamp x.live x.val), .int .i64 (putC R x.stamp x.live x.val)]) ∧ TwoG n0 gc gr (putL L x.stamp x.tick x.live x.val) R gone w' ∧ Below n0 W w' ∧ Fr (fun k => n0 ≤ k ∧ k < w.heap.size) W w') := fun W u o h1 h2 h3 => by
    have hfo : FitX o := fitX_of h3 (by have := congrArg List.length h3; simp at this; have h4 := hx.fit.1; omega) fun f hf => by
      obtain ⟨y, hy, rfl⟩ := List.mem_map.1 hf
      exact hx.fit.2 y hy
    have := g_put HT.out (bel_then HW0D.out HW0D.out.size h1) x.stamp x.tick x.live u o x.val h2.1.is hfo h3 hx.lo hlast
    rw [(HR.out.code x.stamp x.live x.val).1, (HR.out.code x.stamp x.live x.val).2] at this
    exact this
  have HAD : Hid (∀ W, TwoG n0 gc gr (putL L x.stamp x.tick x.live x.val) R gone W → Below n0 w W → Calls Try.prog 25 #[.pointer (some ⟨gr, 0, none⟩), .int .u64 x.stamp, .int .i64 x.tick, .bool x.live, x.sl] W fun r w' => r = .returned (.tuple #[.int .i64 (putN R x.stamp x.live x.val), .int .i64 (putC R x.stamp x.live x.val)]) ∧ TwoG n0 gc gr (putL L x.stamp x.tick x.live x.val) (putL R x.stamp x.tick x.live x.val) gone w' ∧ Below n0 W w') := fun W h1 h2 => by
    refine (g_add h1 (Below.refl _ _) HR.out.num x.stamp x.tick x.live x.sl x.o x.val (hxb W h2) hx.fit rfl hx.lo hlastR).mono ?_
    rintro r w' ⟨e1, e2, e3, _⟩
    exact ⟨e1, e2, e3⟩
  have HREL := hid (HR.out.put x.stamp x.tick x.live x.val)
  have HBN : Hid (Below n0 w W0.drew) := HW0D.out.mono h.base
  have HNB := hid h.base
  have HOB : Hid (∀ W1 W2, Below W0.drew.heap.size W0.drew W1 → Fr (fun k => n0 ≤ k ∧ k < w.heap.size) W1 W2 → OpBox W2 N x) := fun W1 W2 hb hf => ((HO0.out.on hw0d).on hb).fr hf (by omega)
  have HOC : Hid (∀ W, OpBox W N x → W.cell? ⟨N, 1, none⟩ = some (.int .u64 x.stamp) ∧ W.cell? ⟨N, 2, none⟩ = some (.int .i64 x.tick) ∧ W.cell? ⟨N, 3, none⟩ = some (.bool x.live) ∧ W.cell? ⟨N, 4, none⟩ = some x.sl) := fun W hW => ⟨hW.cells.1, hW.cells.2.1, hW.cells.2.2.1, hW.cells.2.2.2.1⟩
  have s0 := HOC.out _ (HO0.out.on hw0d)
  have HOD := hid (HO0.out.on hw0d)
  generalize putL L x.stamp x.tick x.live x.val = PL at HPC HAD HREL
  generalize putL R x.stamp x.tick x.live x.val = PR at HAD HREL
  generalize putN R x.stamp x.live x.val = PN at HPC HAD
  generalize putC R x.stamp x.live x.val = PC at HPC HAD
  have hnn : (PN == PN) = true := by simp
  have hcc : (PC == PC) = true := by simp
  unfold stepW at hW0
  obtain ⟨o1, o2, o3, o4, o0, o5⟩ := hO0.cells
  clear h hrel hb0 hO0 hZ1 hZ2 hx hxb hlast hlastR
  obtain ⟨xk, xs, xt, xl, xp, xc, xo, xn⟩ := x
  have hk' : xk = 1 := hk
  subst hk'
  clear hk
  simp only [encO, Ox.sl] at hW0 o0 o1 o2 o3 o4 o5 HFI HPC HAD HOB HOC s0 HOD ⊢
  go_enter Try.func11, Try.ntmps11
  go_wp2_with fail
  try rw [hW0]
  try rw [hN]
  clear hW0 o0 o1 o2 o3 o4 o5 HO0 HZ1 HZ2
  go_region_held3 (fun w' => w'.cell? ⟨N, 1, none⟩ = some (.int .u64 xs) ∧ w'.cell? ⟨N, 2, none⟩ = some (.int .i64 xt) ∧ w'.cell? ⟨N, 3, none⟩ = some (.bool xl) ∧ w'.cell? ⟨N, 4, none⟩ = some (.slice xp xo.length xc))
    (first | exact s0 | exact s1 | exact s2)
    (first
      | (go_at_call 23; refine HFI.out.mono ?_; rintro e w1 ⟨u1, q1, rfl, hJ1, hm1, hb1⟩; have HPC1 := hid (HPC.out w1 u1 q1 hb1 hJ1 hm1); have HB1 := hid hb1; have s1 := HOC.out w1 (HOD.out.on hb1); obtain ⟨pp1, cc1, rfl⟩ := ownJ_slice hJ1; clear hJ1 hm1 hb1)
      | (go_at_call 24; refine HPC1.out.mono ?_; rintro e w2 ⟨rfl, hT2, hB2, hF2⟩; have hO2 := HOB.out w1 w2 HB1.out hF2; have s2 := HOC.out w2 hO2; have HB2 := hid ((HBN.out.trans (HB1.out.mono (Nat.le_trans HNB.out HW0D.out.size))).trans hB2); have HAD2 := hid (HAD.out w2 hT2 HB2.out); clear hT2 hB2 hF2 hO2))
  obtain ⟨t1, t2, t3, t4⟩ := s2
  clear s0 s1 HPC HFI HPC1
  go_wp2_with fail
  refine HAD2.out.mono ?_
  rintro e w3 ⟨rfl, hT3, hB3⟩
  have HT3 := hid hT3
  have HB3 := hid (HB2.out.trans hB3)
  clear hT3 hB3 HAD2 t1 t2 t3 t4
  go_wp2_with fail
  go_ret
  exact ⟨rfl, PL, PR, gone, HT3.out, HREL.out.1, HREL.out.2, HB3.out⟩

end Go.Proofs.Ytipbdpjnabeilaa

/-
  The walk of ChainPlays (stage 6).
-/
namespace Go.Proofs.Ytipbdpjnabeilaa
open Go.RowKit

theorem step_any {n0 gc gr : Nat} {L R : List Vr} {gone : Nat} {w : World} (h : TwoG n0 gc gr L R gone w) (hrel : Rel L R gone) (hlen : R.length < 2400000000000) (x : Ox) (hx : OpAt w x) (hxb : ∀ W, Below n0 w W → IsXs W x.sl x.o) :
    Calls Try.prog 11 #[.pointer (some ⟨gc, 0, none⟩), .pointer (some ⟨gr, 0, none⟩), .agg (encO x).toArray] w fun e w' => StepPost n0 gc gr R w e w' := by
  by_cases k1 : x.kind = 1
  · exact step_put h hrel hlen x hx hxb k1
  by_cases k2 : x.kind = 2
  · exact step_at h hrel hlen x hx k2
  by_cases k3 : x.kind = 3
  · exact step_number h hrel hlen x hx k3
  by_cases k4 : x.kind = 4
  · exact step_last h hrel hlen x hx k4
  by_cases k5 : x.kind = 5
  · exact step_since h hrel hlen x hx k5
  by_cases k6 : x.kind = 6
  · exact step_all h hrel hlen x hx k6
  by_cases k7 : x.kind = 7
  · exact step_len h hrel hlen x hx k7
  by_cases k8 : x.kind = 8
  · exact step_prune h hrel hlen x hx k8
  · exact step_else h hrel hlen x hx fun j h1 h2 e => by omega

/-- Both chains as they begin. -/
theorem two_start {n0 gc : Nat} {w : World} (hc : PrgC n0 w gc [] (.slice none 0 0)) (hn : n0 ≤ w.heap.size) : TwoG n0 gc w.heap.size [] [] 0 (w.alloc (.cells #[.slice none 0 0, .int .i64 0] 29)) := by
  have hb : Below w.heap.size w (w.alloc (.cells #[.slice none 0 0, .int .i64 0] 29)) := (Below.refl _ _).alloc (Nat.le_refl _) _
  have fz : ∀ j, (w.alloc (.cells #[.slice none 0 0, .int .i64 0] 29)).frozen? ⟨w.heap.size, j, none⟩ = false := fun j => by
    unfold World.frozen?
    rw [heap_alloc_new]; rfl
  refine ⟨[], .slice none 0 0, [], .slice none 0 0, hc.on hb, ⟨by simp [go_sem], fz 0, hn, KV.own_nil _ _, fun x hx => by simp at hx, ?_, ok_nil, by decide⟩, rfl, rfl, by simp [go_sem], fz 1, Nat.le_refl _, fun k hk hk2 => ?_⟩
  · rintro k (hk | ⟨x, hx, _⟩)
    · cases hk
    · simp at hx
  · have h1 := (hc.blk k hk).2
    rcases hk2 with h2 | h2 | ⟨x, hx, _⟩
    · omega
    · cases h2
    · simp at hx

set_option maxHeartbeats 2000000 in
set_option maxRecDepth 100000 in
theorem plays_any (v : Value) (ops : List Ox) (w : World) (hv : KO.Is w v ops) (hx : ∀ x ∈ ops, OpAt w x) (hl : ops.length ≤ 2199023255552) :
    Calls Try.prog 3 #[v] w fun e w' => e = .returned (.bool true) ∧ Below w.heap.size w w' := by
  have HF := hid (fixed_any w)
  obtain ⟨p, cap, rfl, hd⟩ := hv
  have HD := hid hd
  have HX := hid hx
  clear hx hd
  go_enter Try.func3, Try.ntmps3
  go_wp2_with fail
  refine HF.out.mono ?_
  rintro e w1 ⟨rfl, hb1⟩
  have HN := hid (new_any w1)
  have HB1 := hid hb1
  clear hb1 HF
  go_wp2_with fail
  refine HN.out.mono ?_
  rintro e w2 ⟨rfl, hp2, hb2⟩
  have hs2 := hb2.size
  have HTW := hid (two_start hp2 hs2)
  have HB2 := hid (bel_then HB1.out HB1.out.size (hb2.alloc hs2 (.cells #[.slice none 0 0, .int .i64 0] 29)))
  have hws := HB1.out.size
  obtain ⟨n0, hn0⟩ : ∃ n0, w1.heap.size = n0 := ⟨_, rfl⟩
  obtain ⟨gr, hgr⟩ : ∃ gr, w2.heap.size = gr := ⟨_, rfl⟩
  obtain ⟨W2, hW2⟩ : ∃ W2, w2.alloc (.cells #[.slice none 0 0, .int .i64 0] 29) = W2 := ⟨_, rfl⟩
  rw [hn0, hgr, hW2] at HTW
  rw [hW2] at HB2
  rw [hn0] at hws
  clear hp2 hb2 HN HB1
  try rw [hn0]
  go_wp2_with fail
  try rw [hW2]
  try rw [hgr]
  try rw [hn0]
  clear hn0 hgr hW2 hs2
  go_loopg [14] ops.length (fun gg vi wr => ∃ (i : Nat) (L R : List Vr) (gone : Nat), vi = .int .i64 i ∧ i ≤ ops.length ∧ ops.length - i ≤ gg ∧ Hid (TwoG n0 n0 gr L R gone wr ∧ Rel L R gone ∧ R.length ≤ i ∧ Below n0 W2 wr))
  case atStart => exact ⟨0, [], [], 0, rfl, by omega, by omega, HTW.out, rel_nil, Nat.le_refl _, Below.refl _ _⟩
  case round =>
    clear HTW
    obtain ⟨i, L, R, gone, rfl, hi, hgk, HI⟩ := hrel
    have hbw : Below w.heap.size w wr := HB2.out.trans (HI.out.2.2.2.mono hws)
    by_cases hlt : i < ops.length
    · have hltz : (i : Int) < (ops.length : Int) := by omega
      have hiz : (0 : Int) ≤ i := by omega
      obtain ⟨b1, o1, rfl, k1⟩ : ∃ b off, p = some ⟨b, off, none⟩ ∧ KO.At w b off ops := by
        rcases HD.out with h | h
        · rw [h] at hlt; simp at hlt
        · exact h
      obtain ⟨y0, y1, y2, y3, y4, y5⟩ := ko_at (Kind.at_kept k1 hbw) i hlt
      have hxi := HX.out _ (List.getElem_mem hlt)
      generalize ops[i] = x at *
      have hBA : Below wr.heap.size wr (wr.alloc (.cells (encO x).toArray 33)) := (Below.refl _ _).alloc (Nat.le_refl _) _
      have hTA := HI.out.1.on hBA
      have hbA := bel_then hbw hbw.size hBA
      have HST := hid (step_any hTA HI.out.2.1 (by have := HI.out.2.2.1; omega) x (hxi.on hbA) fun W hW => hxi.is.kept (hbA.trans (hW.mono hws)))
      have HBN : Hid (Below n0 W2 (wr.alloc (.cells (encO x).toArray 33))) := HI.out.2.2.2.trans (hBA.mono HI.out.1.base)
      have HRL := hid HI.out.2.2.1
      clear HI hxi hBA hTA hbA hbw k1
      obtain ⟨xk, xs, xt, xl, xp, xc, xo, xn⟩ := x
      simp only [encO, Ox.sl] at y0 y1 y2 y3 y4 y5 HST HBN
      go_wp2_with fail
      refine HST.out.mono ?_
      rintro e w3 ⟨rfl, L', R', gone', hT3, hR3, hl3, hB3⟩
      have HN3 : Hid (TwoG n0 n0 gr L' R' gone' w3 ∧ Rel L' R' gone' ∧ R'.length ≤ i + 1 ∧ Below n0 W2 w3) := ⟨hT3, hR3, by have := HRL.out; omega, HBN.out.trans hB3⟩
      clear hT3 hR3 hl3 hB3 HST HBN HRL
      go_wp2_with fail
      go_roundg (ops.length - (i + 1))
      case measure => omega
      exact ⟨i + 1, L', R', gone', by go_num, by omega, by omega, HN3.out⟩
    · have hltz : ¬ (i : Int) < (ops.length : Int) := by omega
      have HALc := hid (st_all HI.out.1.ch)
      have HALr : Hid (∀ W, Below wr.heap.size wr W → Calls Try.prog 14 #[.pointer (some ⟨gr, 0, none⟩)] W fun e w' => RLst wr W L e w') := fun W hW => by
        have := g_rall HI.out.1 hW HI.out.2.1
        rw [← HI.out.2.1.drop] at this
        exact this
      have HMAY := hid HI.out.1.ch.may
      have HFEW := hid HI.out.1.ch.few
      have HBW := hid hbw
      clear HI hbw
      go_wp2_with fail
      refine HALc.out.mono ?_
      intro e r1 hp1
      obtain ⟨u1, q1, rfl, ht1, hbr1⟩ := all_told hp1
      obtain ⟨pp1, cc1, rfl⟩ := Kind.own_shape ht1.own
      have HRC1 := hid (HALr.out r1 hbr1)
      have HB1 := hid hbr1
      have HT1 := hid ht1
      clear hp1 ht1 hbr1 HALc HALr
      go_wp2_with fail
      refine HRC1.out.mono ?_
      rintro e r2 ⟨pp2, cc2, q2, rfl, hI2, hv2, ha2, hbr2⟩
      have hBr2 := bel_then HB1.out HB1.out.size hbr2
      have HSV := hid (sameVs_ref (HT1.out.on hbr2) hI2 hv2 (fun x hx => ⟨(ha2 x hx).1.kept hBr2, (ha2 x hx).2⟩) HMAY.out HFEW.out)
      have HB2' := hid hBr2
      clear hI2 hv2 ha2 hbr2 hBr2 HRC1 HB1 HT1
      go_wp2_with fail
      refine HSV.out.mono ?_
      rintro e r3 ⟨rfl, hbr3⟩
      have HB3 := hid (bel_then HBW.out HBW.out.size (bel_then HB2'.out HB2'.out.size hbr3))
      clear hbr3 HSV HB2'
      go_wp2_with fail
      go_ret
      exact ⟨rfl, HB3.out⟩

end Go.Proofs.Ytipbdpjnabeilaa
