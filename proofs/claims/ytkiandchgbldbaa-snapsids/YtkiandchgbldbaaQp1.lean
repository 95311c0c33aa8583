/-
  The program's registry of snapshots (stage 10): Close, Stamp, Count, Least, Raise, Floor; a nil registry.
-/
import Derived.Test.YtkiandchgbldbaaQp0
import Derived.Lib.MinMax
namespace Go.Proofs.Ytkiandchgbldbaa
open Go.RowKit

theorem mem_at {os : Sn} {s : Int} (h : some s ∈ os) : ∃ i : Nat, i < os.length ∧ atQ os ((i : Int) + 1) = some s := by
  obtain ⟨i, hi, e⟩ := List.mem_iff_getElem.1 h
  exact ⟨i, hi, by rw [atQ_in hi, e]⟩
theorem at_mem {os : Sn} {id s : Int} (h : atQ os id = some s) : some s ∈ os := by
  unfold atQ at h
  split at h
  · cases hg : os[(id - 1).toNat]? with
    | none => rw [hg] at h; cases h
    | some o =>
      rw [hg] at h
      obtain rfl : o = some s := h
      exact List.mem_of_getElem? hg
  · cases h
theorem at_some_le {os : Sn} {id s : Int} (h : atQ os id = some s) : 1 ≤ id ∧ id ≤ (os.length : Int) := by
  constructor
  · rcases Int.lt_or_le id 1 with h1 | h1
    · unfold atQ at h; rw [if_neg (by omega)] at h; cases h
    · exact h1
  · rcases Int.lt_or_le (os.length : Int) id with h1 | h1
    · rw [atQ_le h1] at h; cases h
    · exact h1

theorem least_uniq {os : Sn} {m now : Int} (h1 : m ≤ now) (h2 : ∀ s, some s ∈ os → m ≤ s) (h3 : m = now ∨ some m ∈ os) : m = leastQ os now := by
  have a := least_le os now
  have b : leastQ os now ≤ m := by
    rcases h3 with rfl | h3
    · exact a
    · exact least_open h3 now
  rcases least_is os now with e | e
  · omega
  · have := h2 _ e
    omega

theorem PrgQ.fl {n0 : Nat} {W : World} {B : Nat → Prop} {g : Nat} {os : Sn} {fl : Int} (h : PrgQ n0 W B g os fl) : W.cell? ⟨g, 0, none⟩ = some (.int .u64 fl) ∧ W.frozen? ⟨g, 0, none⟩ = false := by
  obtain ⟨m, ho, _⟩ := h.is
  exact ⟨by rw [Lib.cell_of_heap ho]; rfl, Lib.frozen_of_heap ho 0⟩

theorem pfloorQ_any (n0 g : Nat) (os : Sn) (fl : Int) (B : Nat → Prop) (W : World) (h : PrgQ n0 W B g os fl) :
    Calls Try.prog 10 #[.pointer (some ⟨g, 0, none⟩)] W fun e w' => e = .returned (.int .u64 fl) ∧ w' = W := by
  have HL := hid (aload64 g 0 fl W h.fl.1)
  clear h
  go_enter Try.func10, Try.ntmps10
  go_wp2_with fail
  refine HL.out.mono ?_
  rintro e w1 ⟨rfl, rfl⟩
  go_wp2_with fail
  go_ret
  exact ⟨rfl, rfl⟩

set_option maxHeartbeats 4000000 in
set_option maxRecDepth 100000 in
theorem pcountQ_any (n0 g : Nat) (os : Sn) (fl : Int) (B : Nat → Prop) (W : World) (h : PrgQ n0 W B g os fl) :
    Calls Try.prog 11 #[.pointer (some ⟨g, 0, none⟩)] W fun e w' => e = .returned (.int .i64 (countQ os : Nat)) ∧ w' = W := by
  obtain ⟨m, ho, hm, h1, h2, hB⟩ := h.is
  have c0 : W.cell? ⟨g, 1, none⟩ = some (.map (some m)) := by rw [Lib.cell_of_heap ho]; rfl
  have hl := fun ty => mapG_len hm ty
  have hl' : ∀ ty, (Builtin.len_ #[51] ty #[.map (some m)]).run Try.prog W = .ok (.int .i64 (countQ os : Nat)) W := hl
  clear h ho hm hB h1 h2 hl
  go_enter Try.func11, Try.ntmps11
  go_wp2_with fail
  go_ret
  exact ⟨rfl, rfl⟩

set_option maxHeartbeats 4000000 in
set_option maxRecDepth 100000 in
theorem pstampQ_any (n0 g : Nat) (os : Sn) (fl id : Int) (B : Nat → Prop) (W : World) (h : PrgQ n0 W B g os fl) (hft : MU.fit id) :
    Calls Try.prog 18 #[.pointer (some ⟨g, 0, none⟩), .int .i64 id] W fun e w' => e = .returned (.tuple #[.int .u64 ((atQ os id).getD 0), .bool (atQ os id).isSome]) ∧ w' = W := by
  obtain ⟨m, ho, hm, h1, h2, hB⟩ := h.is
  have c0 : W.cell? ⟨g, 1, none⟩ = some (.map (some m)) := by rw [Lib.cell_of_heap ho]; rfl
  have hl : (Instr.lookup 51 (.map (some m)) (.int .i64 id) true).run Try.prog W = .ok (.tuple #[.int .u64 ((atQ os id).getD 0), .bool (atQ os id).isSome]) W := mapG_look_ok hm hft
  generalize atQ os id = a at *
  clear h ho hm hB h1 h2 hft
  go_enter Try.func18, Try.ntmps18
  go_wp2_with fail
  go_ret2
  exact ⟨rfl, rfl⟩

set_option maxHeartbeats 4000000 in
set_option maxRecDepth 100000 in
theorem pcloseQ_any (n0 g : Nat) (os : Sn) (fl id : Int) (B : Nat → Prop) (W : World) (h : PrgQ n0 W B g os fl) (hft : MU.fit id) :
    Calls Try.prog 16 #[.pointer (some ⟨g, 0, none⟩), .int .i64 id] W fun e w' => e = .returned (.bool (atQ os id).isSome) ∧ PTurn n0 W B g (closeQ os id) fl w' := by
  have HP : Hid _ := h
  obtain ⟨m, ho, hm, h1, h2, hB⟩ := h.is
  have c0 : W.cell? ⟨g, 1, none⟩ = some (.map (some m)) := by rw [Lib.cell_of_heap ho]; rfl
  have HS := hid (pstampQ_any n0 g os fl id B W h hft)
  have hne : g ≠ m := hm.off ho
  cases ha : atQ os id with
  | none =>
    rw [ha] at HS
    have HT : Hid (PTurn n0 W B g (closeQ os id) fl W) := by show PTurn _ _ _ _ _ _ _; rw [closeQ_same ha]; exact PTurn.same h
    simp only [Option.getD, Option.isSome] at HS
    clear h ho hm hB h1 h2 hft ha hne
    go_enter Try.func16, Try.ntmps16
    go_wp2_with fail
    refine HS.out.mono ?_
    rintro e w1 ⟨rfl, rfl⟩
    go_wp2_with fail
    go_ret
    exact ⟨rfl, HT.out⟩
  | some s =>
    rw [ha] at HS
    have hdel := fun ty => mapG_del hm hft ty
    have HDEL : Hid (∀ ty, ∃ w2, (Builtin.delete_ #[51, 3] ty #[.map (some m), .int .i64 id]).run Try.prog W = .ok (.tuple #[]) w2 ∧ PTurn n0 W B g (closeQ os id) fl w2) := fun ty => by
      obtain ⟨w2, c', hrun, hM2, hc', hg2, hs2⟩ := hdel ty
      refine ⟨w2, hrun, B, ⟨m, ?_, ?_, h1, h2, hB⟩, ?_, fun _ hk => Or.inl hk⟩
      · rw [closeQ_len]
        exact (hg2.block g (Array.getElem?_eq_some_iff.1 ho).1 (fun e => hne (by injection e))).trans ho
      · rw [closeQ_len]
        have := count_close os id
        have hcc : c' = countQ (closeQ os id) := by rw [ha] at hc' this; omega
        rw [← hcc]
        exact hM2.congr fun k _ => (atQ_close os id k).symm
      · exact ⟨hg2.os, hg2.tape, hg2.output, hg2.size, fun k hk hn => hg2.block k hk fun e => hn ((hB k).2 (Or.inr (by injection e)))⟩
    simp only [Option.getD, Option.isSome] at HS
    clear h ho hm hB h1 h2 hft ha hne hdel
    go_enter Try.func16, Try.ntmps16
    go_wp2_with fail
    refine HS.out.mono ?_
    rintro e w1 ⟨rfl, rfl⟩
    obtain ⟨w2, hrun, hT⟩ := HDEL.out 0
    have HT := hid hT
    clear hT
    go_wp2_with fail
    go_ret
    exact ⟨rfl, HT.out⟩

set_option maxHeartbeats 4000000 in
set_option maxRecDepth 100000 in
theorem pleastQ_any (n0 g : Nat) (os : Sn) (fl now : Int) (B : Nat → Prop) (W : World) (h : PrgQ n0 W B g os fl) (hf : os.length < 40000000000000) :
    Calls Try.prog 13 #[.pointer (some ⟨g, 0, none⟩), .int .u64 now] W fun e w' => e = .returned (.int .u64 (leastQ os now)) ∧ PTurn n0 W B g os fl w' ∧ Below W.heap.size W w' := by
  have HP := hid h
  obtain ⟨m, ho, hM, h1, h2, hB⟩ := h.is
  have c0 : W.cell? ⟨g, 1, none⟩ = some (.map (some m)) := by rw [Lib.cell_of_heap ho]; rfl
  have HEND : Hid (∀ (seen : List Int) (mm : Int), mm ≤ now → (∀ k ∈ seen, ∀ s, atQ os k = some s → mm ≤ s) → (mm = now ∨ some mm ∈ os) → (∀ k, MU.fit k → (atQ os k).isSome = true → k ∈ seen) → mm = leastQ os now) := fun seen mm a1 a2 a3 a4 =>
    least_uniq a1 (fun s hs => by
      obtain ⟨i, hi, e⟩ := mem_at hs
      exact a2 _ (a4 _ (fit_q (by omega) (by omega)) (by rw [e]; rfl)) s e) a3
  obtain ⟨N, hN⟩ : ∃ N, W.heap.size = N := ⟨_, rfl⟩
  have hmN : m < N := by rw [← hN]; exact hM.lt
  clear h ho hB h1 h2
  go_enter Try.func13, Try.ntmps13
  go_wp2_with (at_range; refine wp_range_G (T := MU) _ rfl _ rfl m os.length (atQ os) (countQ os) rfl hM ?_; intro w1 hr0 hg0 hs0)
  go_frame
  try rw [hN] at hr0
  try rw [hN]
  have HR0 := hid hr0
  have HB0 : Hid (Below N W w1) := by
    have := Fr.of_grown (P := fun _ => False) hg0 fun k hk => by cases hk
    exact this.below (by omega) fun k hk => hk.elim
  clear hr0 hg0 hs0 hM
  go_loopg [5] (countQ os) (fun gg vn wr => ∃ (seen : List Int) (cnt : Nat) (mm : Int), vn = .int .u64 mm ∧ cnt ≤ gg ∧ Hid (RangeG MU wr m N os.length (atQ os) (countQ os) seen cnt) ∧ Hid (Below N W wr) ∧ Hid (mm ≤ now ∧ (∀ k ∈ seen, ∀ s, atQ os k = some s → mm ≤ s) ∧ (mm = now ∨ some mm ∈ os)))
  case atStart => exact ⟨[], countQ os, now, rfl, Nat.le_refl _, HR0.out, HB0.out, ⟨Int.le_refl _, (fun k hk => by simp at hk), Or.inl rfl⟩⟩
  case round =>
    clear HR0 HB0
    obtain ⟨seen, cnt, mm, rfl, hgk, HR, HB, HI⟩ := hrel
    have hr := HR.out
    go_wp2_with (at_next; refine wp_next_G (T := MU) _ rfl _ rfl m N os.length (atQ os) (countQ os) seen cnt rfl hr ?_ ?_)
    · intro hall
      have HE := hid (HEND.out seen mm HI.out.1 HI.out.2.1 HI.out.2.2 hall)
      clear hall hr
      go_wp2_with fail
      go_ret
      rw [HE.out, hN]
      exact ⟨rfl, PTurn.below HP.out (by rw [hN]; exact HB.out), HB.out⟩
    · intro k s w2 cnt2 hkf hks hfb hr2 hlt hg2 hs2 hen
      have hB2 : Below N W w2 := by
        have := Fr.of_grown (P := fun b => b = N) hg2 fun k hk => by injection hk with hk; exact hk.symm
        exact HB.out.trans (this.below (by have := hr.lt; omega) fun k hk => by omega)
      have HR2 := hid hr2
      have HB2 := hid hB2
      have hen' : (Instr.entry (.pointer (some ⟨N, 0, none⟩))).run Try.prog w2 = .ok (.tuple #[.int .i64 k, .int .u64 s]) w2 := hen
      have HFB := hid hfb
      have ek : MU.key k = .int .i64 k := rfl
      have ev : MU.val s = .int .u64 s := rfl
      rw [ek, ev]
      clear ek ev
      clear hr hr2 hB2 hg2 hfb hkf hks hen
      have HI2 : Hid (min mm s ≤ now ∧ (∀ k' ∈ seen ++ [k], ∀ s', atQ os k' = some s' → min mm s ≤ s') ∧ (min mm s = now ∨ some (min mm s) ∈ os)) := by
        obtain ⟨a1, a2, a3⟩ := HI.out
        refine ⟨by omega, fun k' hk' s' hs' => ?_, ?_⟩
        · rcases List.mem_append.1 hk' with h | h
          · have := a2 k' h s' hs'
            omega
          · rw [List.mem_singleton] at h
            subst h
            rw [HFB.out] at hs'
            injection hs' with hs'
            omega
        · by_cases hsm : s ≤ mm
          · rw [Int.min_eq_right hsm]
            exact Or.inr (at_mem HFB.out)
          · rw [Int.min_eq_left (by omega)]
            exact a3
      go_wp2_with fail
      go_roundg cnt2
      case measure => omega
      exact ⟨seen ++ [k], cnt2, min mm s, rfl, Nat.le_refl _, HR2, HB2, HI2⟩

theorem PrgQ.raised {n0 : Nat} {W : World} {B : Nat → Prop} {g : Nat} {os : Sn} {fl : Int} (h : PrgQ n0 W B g os fl) (f : Int) : PTurn n0 W B g os f (W.setCell ⟨g, 0, none⟩ (.int .u64 f)) := by
  obtain ⟨m, ho, hM, h1, h2, hB⟩ := h.is
  refine ⟨B, ⟨m, heap_setCell_same W g 0 _ _ _ ho, hM.on (heap_setCell_other W _ m _ fun e => hM.off ho e.symm), h1, h2, hB⟩, ?_, fun _ hk => Or.inl hk⟩
  exact ⟨rfl, rfl, rfl, by simp, fun k _ hn => heap_setCell_other W _ k _ fun e => hn ((hB k).2 (Or.inl e))⟩

theorem PTurn.then {n0 : Nat} {W w1 w' : World} {B : Nat → Prop} {g : Nat} {os : Sn} {fl : Int} (hb : Below W.heap.size W w1) (h : PTurn n0 w1 B g os fl w') : PTurn n0 W B g os fl w' := by
  obtain ⟨B', h1, h2, h3⟩ := h
  refine ⟨B', h1, (Fr.of_below (P := B) hb).then h2 fun k hk => Or.inl hk, fun k hk => (h3 k hk).imp id fun h => Nat.le_trans hb.size h⟩

set_option maxHeartbeats 4000000 in
set_option maxRecDepth 100000 in
theorem praiseQ_any (n0 g : Nat) (os : Sn) (fl f : Int) (B : Nat → Prop) (W : World) (h : PrgQ n0 W B g os fl) (hf : os.length < 40000000000000) :
    Calls Try.prog 17 #[.pointer (some ⟨g, 0, none⟩), .int .u64 f] W fun e w' => e = .returned (.int .i64 (raiseQ os fl f).1) ∧ PTurn n0 W B g os (raiseQ os fl f).2 w' := by
  have HP := hid h
  have HL := hid (aload64 g 0 fl W h.fl.1)
  have HLE := hid (pleastQ_any n0 g os fl f B W h hf)
  clear h
  by_cases h8 : f < fl
  · have HR : Hid (raiseQ os fl f = (8, fl)) := by show _ = _; unfold raiseQ; rw [if_pos h8]
    go_enter Try.func17, Try.ntmps17
    go_wp2_with fail
    refine HL.out.mono ?_
    rintro e w1 ⟨rfl, rfl⟩
    go_wp2_with fail
    go_ret
    rw [HR.out]
    exact ⟨rfl, PTurn.same HP.out⟩
  · have HR : Hid (raiseQ os fl f = if leastQ os f < f then (1, fl) else (0, f)) := by
      show _ = _
      unfold raiseQ
      rw [if_neg h8, low_least]
      by_cases h : leastQ os f < f <;> simp [h]
    go_enter Try.func17, Try.ntmps17
    go_wp2_with fail
    refine HL.out.mono ?_
    rintro e w1 ⟨rfl, rfl⟩
    go_wp2_with fail
    refine HLE.out.mono ?_
    rintro e w2 ⟨rfl, ht2, hb2⟩
    have HT2 := hid ht2
    have HB2 := hid hb2
    have HP2 := hid (HP.out.on hb2)
    have HST := hid (astore64 g 0 fl f w2 HP2.out.fl.1 HP2.out.fl.2)
    clear ht2 hb2
    generalize leastQ os f = L at *
    by_cases hl : L < f
    · go_wp2_with fail
      go_ret
      rw [HR.out, if_pos hl]
      exact ⟨rfl, HT2.out⟩
    · go_wp2_with fail
      refine HST.out.mono ?_
      rintro e w3 ⟨rfl, rfl⟩
      go_wp2_with fail
      go_ret
      rw [HR.out, if_neg (by omega)]
      exact ⟨rfl, PTurn.then HB2.out (HP2.out.raised f)⟩

/-! ## A nil registry -/

theorem nopenQ (x : Int) (W : World) : Calls Try.prog 15 #[.pointer none, .int .u64 x] W fun e w' => e = .returned (.tuple #[.int .i64 0, .int .i64 1]) ∧ w' = W := by
  go_enter Try.func15, Try.ntmps15
  go_wp2_with fail
  go_ret2
  exact ⟨rfl, rfl⟩
theorem nstampQ (x : Int) (W : World) : Calls Try.prog 18 #[.pointer none, .int .i64 x] W fun e w' => e = .returned (.tuple #[.int .u64 0, .bool false]) ∧ w' = W := by
  go_enter Try.func18, Try.ntmps18
  go_wp2_with fail
  go_ret2
  exact ⟨rfl, rfl⟩
theorem ncloseQ (x : Int) (W : World) : Calls Try.prog 16 #[.pointer none, .int .i64 x] W fun e w' => e = .returned (.bool false) ∧ w' = W := by
  have HS := hid (nstampQ x W)
  go_enter Try.func16, Try.ntmps16
  go_wp2_with fail
  refine HS.out.mono ?_
  rintro e w1 ⟨rfl, rfl⟩
  go_wp2_with fail
  go_ret
  exact ⟨rfl, rfl⟩
theorem ncountQ (W : World) : Calls Try.prog 11 #[.pointer none] W fun e w' => e = .returned (.int .i64 0) ∧ w' = W := by
  go_enter Try.func11, Try.ntmps11
  go_wp2_with fail
  go_ret
  exact ⟨rfl, rfl⟩
theorem nleastQ (x : Int) (W : World) : Calls Try.prog 13 #[.pointer none, .int .u64 x] W fun e w' => e = .returned (.int .u64 x) ∧ w' = W := by
  go_enter Try.func13, Try.ntmps13
  go_wp2_with fail
  go_ret
  exact ⟨rfl, rfl⟩
theorem nraiseQ (x : Int) (W : World) : Calls Try.prog 17 #[.pointer none, .int .u64 x] W fun e w' => e = .returned (.int .i64 1) ∧ w' = W := by
  go_enter Try.func17, Try.ntmps17
  go_wp2_with fail
  go_ret
  exact ⟨rfl, rfl⟩
theorem nfloorQ (W : World) : Calls Try.prog 10 #[.pointer none] W fun e w' => e = .returned (.int .u64 0) ∧ w' = W := by
  go_enter Try.func10, Try.ntmps10
  go_wp2_with fail
  go_ret
  exact ⟨rfl, rfl⟩

end Go.Proofs.Ytkiandchgbldbaa
