/-
  The contract of the reader's field.
-/
import Derived.Test.YtmjchokacmbkoabDoorDec0
namespace Go.Proofs.YtmjchokacmbkoabDoor
open Go.RowKit

theorem Tryd.infoStr : (Tryd.prog.info? 9).map (fun i => (i.zero, i.size, i.bytes)) = some (some (.string ⟨#[]⟩), 1, 16) := by kernel_rfl

/-- v owns the texts ts, in a row at or behind n0. -/
def OwnT (n0 : Nat) (w : World) (v : Value) (ts : List ByteArray) : Prop := w.ownsRow n0 9 1 v ts.length (ts.map Value.string)

theorem own_weak {w : World} {base base' : Nat} {e : TypeId} {size : Nat} {v : Value} {n : Nat} {xs : List Value} (h : w.ownsRow base e size v n xs) (hb : base' ≤ base) : w.ownsRow base' e size v n xs := by
  refine ⟨h.1, ?_⟩
  rcases h.2 with h2 | ⟨g, cap, cur, h3, h4, h5⟩
  · exact .inl h2
  · exact .inr ⟨g, cap, cur, h3, by omega, h5⟩

theorem OwnT.on {n0 : Nat} {w w' : World} {v : Value} {ts : List ByteArray} (h : OwnT n0 w v ts) (hb : Below w.heap.size w w') : OwnT n0 w' v ts := own_on h hb

theorem OwnT.grown {n0 : Nat} {w w' : World} {v : Value} {ts : List ByteArray} {R : Nat} (h : OwnT n0 w v ts) (hg : w.grownBy w' (some R)) (hR : R < n0) : OwnT n0 w' v ts := by
  refine World.ownsRow.kept h hg ?_
  rcases hv : v.ownBlock with _ | k
  · exact Or.inl rfl
  · right
    intro e
    have := (World.ownsRow.lt h k hv).1
    simp at e; omega

theorem Rd.grown {w w' : World} {R : Nat} {s : Rst} (h : Rd w R s) (hb : Below w.heap.size w w') : Rd w' R s := by
  obtain ⟨v, h1, h2⟩ := h
  exact ⟨v, (hb.block R (Array.getElem?_eq_some_iff.1 h1).1).trans h1, h2.kept ⟨hb.os, hb.tape, hb.output, hb.size, fun k hk _ => hb.block k hk⟩⟩

theorem Rd.lt {w : World} {R : Nat} {s : Rst} (h : Rd w R s) : R < w.heap.size := by
  obtain ⟨v, h1, _⟩ := h
  exact (Array.getElem?_eq_some_iff.1 h1).1

theorem countS_le (s : Rst) : (countS s).1 ≤ 255 := by
  unfold countS
  split
  · rename_i c _ _ _; have := c.toNat_lt; simp; omega
  · simp

theorem textsS_snoc (n : Nat) (s : Rst) : textsS (n + 1) s = ((textsS n s).1 ++ [(textS (textsS n s).2).1], (textS (textsS n s).2).2) := by
  induction n generalizing s with
  | zero => rfl
  | succ n ih =>
    rw [textsS, ih]
    simp [textsS]

/-- The state of the loop over a field's texts. -/
def FieldSt (w : World) (R F : Nat) (nm : ByteArray) (s2 : Rst) (i : Nat) (wr : World) : Prop :=
  ∃ sv, wr.heap[F]? = some (.cells #[.string nm, sv] 30 (0, 0)) ∧ OwnT (F + 1) wr sv (textsS i s2).1 ∧ Rd wr R (textsS i s2).2 ∧ wr.heap[w.heap.size]? = some (.cells #[.string ⟨#[]⟩, .slice none 0 0] 30 (0, 0)) ∧ w.grownBy wr (some R)

theorem textsS_len (n : Nat) (s : Rst) : (textsS n s).1.length = n := by
  induction n generalizing s with
  | zero => rfl
  | succ n ih => rw [textsS]; simp [ih]

theorem Rd.far {w w' : World} {R : Nat} {s : Rst} (h : Rd w R s) (hb : Below (R + 1) w w') : Rd w' R s := by
  obtain ⟨v, h1, p, cap, rfl, h2, h3, h4⟩ := h
  refine ⟨_, (hb.block R (by omega)).trans h1, p, cap, rfl, h2, h3, ?_⟩
  rcases h4 with h4 | ⟨b, off, hp, hbR, h4⟩
  · exact Or.inl h4
  · exact Or.inr ⟨b, off, hp, hbR, fun i hi => (hb.cell (p := ⟨b, off + i, none⟩) (show b < R + 1 by omega)).trans (h4 i hi)⟩

theorem field_next {w wr w2 w4 : World} {R F i : Nat} {nm t : ByteArray} {s2 si' : Rst} {acc : List ByteArray} {sv : Value} {g cap : Nat}
    (hRw : R < w.heap.size) (hwF : w.heap.size < F) (hFl : F < wr.heap.size)
    (hbF : wr.heap[F]? = some (.cells #[.string nm, sv] 30 (0, 0))) (hbB : wr.heap[w.heap.size]? = some (.cells #[.string ⟨#[]⟩, .slice none 0 0] 30 (0, 0))) (hgr : w.grownBy wr (some R))
    (hsn : textsS (i + 1) s2 = (acc ++ [t], si')) (hrd2 : Rd w2 R si') (hg2 : wr.drew.grownBy w2 (some R))
    (hown3 : OwnT (F + 1) (w2.alloc (.cells #[.string t] 9)) sv acc)
    (hown4 : w4.ownsRow (F + 1) 9 1 (.slice (some ⟨g, 0, none⟩) (acc.length + 1) cap) (acc.length + 1) (acc.map Value.string ++ [.string t]))
    (hg4 : (w2.alloc (.cells #[.string t] 9)).grownBy w4 sv.ownBlock) :
    FieldSt w R F nm s2 (i + 1) (w4.setCell ⟨F, 1, none⟩ (.slice (some ⟨g, 0, none⟩) (acc.length + 1) cap)) := by
  have hFl2 : F < w2.heap.size := Nat.lt_of_lt_of_le hFl hg2.size
  have hbel : Below F w2 w4 := ((Below.refl F w2).alloc (by omega) _).grown hg4 (by simp; omega) (fun k hk => by have := (World.ownsRow.lt hown3 k hk).1; omega)
  have hbel' : Below F w2 (w4.setCell ⟨F, 1, none⟩ (.slice (some ⟨g, 0, none⟩) (acc.length + 1) cap)) := hbel.setCell (p := ⟨F, 1, none⟩) (Nat.le_refl _) _
  have e2 : w2.heap[F]? = wr.heap[F]? := hg2.block F hFl (by simp; omega)
  have e4 : w4.heap[F]? = wr.heap[F]? := ((hg4.block F (by simp; omega) (fun e => absurd ((World.ownsRow.lt hown3 F e.symm).1) (by omega))).trans (Below.heap_alloc w2 _ F hFl2)).trans e2
  refine ⟨_, rd_set1 (e4.trans hbF), ?_, ?_, ?_, ?_⟩
  · rw [hsn]
    unfold OwnT
    simp only [List.length_append, List.length_cons, List.length_nil, List.map_append, List.map_cons, List.map_nil]
    refine World.ownsRow.kept hown4 (grown_set w4 F 1 _) (Or.inr fun e => ?_)
    have := (World.ownsRow.lt hown4 F e).1
    omega
  · rw [hsn]
    exact hrd2.far (hbel'.mono (by omega))
  · rw [hbel'.block _ hwF, hg2.block w.heap.size (show w.heap.size < wr.heap.size by omega) (by simp; omega)]
    exact hbB
  · exact ⟨hbel'.os.trans (hg2.os.trans hgr.os), hbel'.tape.trans (hg2.tape.trans hgr.tape), hbel'.output.trans (hg2.output.trans hgr.output), Nat.le_trans hgr.size (Nat.le_trans hg2.size hbel'.size),
      fun k hk hne => (hbel'.block k (by omega)).trans ((hg2.block k (Nat.lt_of_lt_of_le hk hgr.size) hne).trans (hgr.block k hk hne))⟩

set_option maxHeartbeats 4000000 in
set_option maxRecDepth 100000 in
theorem field_rd (R : Nat) (s : Rst) (w : World) (h : Rd w R s) :
    Calls Tryd.prog 54 #[.pointer (some ⟨R, 0, none⟩)] w fun e w' => ∃ sv, e = .returned (.agg #[.string (fieldS s).1.1, sv]) ∧ OwnT w.heap.size w' sv (fieldS s).1.2 ∧ Rd w' R (fieldS s).2 ∧ w.grownBy w' (some R) := by
  obtain ⟨i0, hi, hz0, hz1, hz2⟩ := info_parts Tryd.infoStr
  have HI := hid hi
  have hRw := h.lt
  have h1 : Rd (w.alloc (.cells #[.string ⟨#[]⟩, .slice none 0 0] 30)) R s := h.grown ((Below.refl _ _).alloc (Nat.le_refl _) _)
  have HR1 := hid (text_any R s _ h1)
  obtain ⟨nm, s1, hts⟩ : ∃ nm s1, textS s = (nm, s1) := ⟨_, _, rfl⟩
  obtain ⟨n, s2, hcs⟩ : ∃ n s2, countS s1 = (n, s2) := ⟨_, _, rfl⟩
  have hn255 : n ≤ 255 := by have := countS_le s1; rw [hcs] at this; exact this
  have hfs : fieldS s = ((nm, (textsS n s2).1), (textsS n s2).2) := by unfold fieldS; rw [hts]; simp only; rw [hcs]
  rw [hfs]
  rw [hts] at HR1
  simp only at HR1
  have HC1 : Hid (∀ w1, Rd w1 R s1 → Calls Tryd.prog 53 #[.pointer (some ⟨R, 0, none⟩)] w1 fun e w' => e = .returned (.int .i64 n) ∧ Rd w' R s2 ∧ w1.grownBy w' (some R)) := fun w1 hw => by have := count_any R s1 w1 hw; rw [hcs] at this; exact this
  clear h h1 hts hcs hfs hi
  go_enter Tryd.func54, Tryd.ntmps54
  go_wp2_with (first | (go_at_call 67; refine HR1.out.mono ?_; rintro e w1 ⟨rfl, hrd1, hg1⟩) | (go_at_call 53; refine (HC1.out _ (hrd1.grown ((Below.refl _ _).alloc (Nat.le_refl _) _))).mono ?_; rintro e w2 ⟨rfl, hrd2, hg2⟩))
  have hsz1 : w.heap.size < w1.heap.size := by have := hg1.size; simp at this; omega
  have hsz2 : w1.heap.size < w2.heap.size := by have := hg2.size; simp at this; omega
  have st0 : FieldSt w R w1.heap.size nm s2 0 w2 := by
    refine ⟨.slice none 0 0, ?_, World.ownsRow_nil _ _ _ _, hrd2, ?_, ?_⟩
    · rw [hg2.block w1.heap.size (by simp) (by simp; omega)]; exact heap_alloc_new w1 _
    · rw [hg2.block w.heap.size (by simp; omega) (by simp; omega), Below.heap_alloc w1 _ _ hsz1, hg1.block w.heap.size (by simp) (by simp; omega)]; exact heap_alloc_new w _
    · have a1 : w.grownBy w1 (some R) := ⟨hg1.os, hg1.tape, hg1.output, by omega, fun k hk hne => (hg1.block k (by simp; omega) hne).trans (Below.heap_alloc w _ k hk)⟩
      exact ⟨hg2.os.trans a1.os, hg2.tape.trans a1.tape, hg2.output.trans a1.output, by omega, fun k hk hne => ((hg2.block k (by simp; omega) hne).trans (Below.heap_alloc w1 _ k (by omega))).trans (a1.block k hk hne)⟩
  obtain ⟨F, hF⟩ : ∃ F, w1.heap.size = F := ⟨_, rfl⟩
  rw [hF] at st0 hsz1
  rw [hF]
  have ST0 := hid st0
  clear st0 hg1 hg2 hrd1 hrd2 hsz2 hF
  generalize w2 = w20 at ST0 ⊢
  go_loopg [9] n (fun g vi wr => ∃ i : Nat, vi = .int .i64 i ∧ i ≤ n ∧ n - i ≤ g ∧ FieldSt w R F nm s2 i wr)
  case atStart => exact ⟨0, rfl, by omega, by omega, ST0.out⟩
  case round =>
    obtain ⟨i, rfl, hi, hgk, hst⟩ := hrel
    obtain ⟨sv, hbF, hown, hrd, hbB, hgr⟩ := hst
    by_cases hlt : i < n
    · have hltz : (i : Int) < (n : Int) := by omega
      have HTX := hid (text_any R _ wr.drew hrd)
      have hFl : F < wr.heap.size := (Array.getElem?_eq_some_iff.1 hbF).1
      obtain ⟨acc, si, hts⟩ : ∃ acc si, textsS i s2 = (acc, si) := ⟨_, _, rfl⟩
      obtain ⟨t, si', hti⟩ : ∃ t si', textS si = (t, si') := ⟨_, _, rfl⟩
      have hsn : textsS (i + 1) s2 = (acc ++ [t], si') := by rw [textsS_snoc, hts]; simp only; rw [hti]
      have hal : acc.length = i := by have := textsS_len i s2; rw [hts] at this; exact this
      rw [hts] at HTX hown hrd
      simp only at HTX hown hrd
      rw [hti] at HTX
      simp only at HTX
      have g1 : wr.cell? ⟨F, 1, none⟩ = some sv := by rw [Lib.cell_of_heap hbF]; rfl
      have g2 : wr.frozen? ⟨F, 1, none⟩ = false := Lib.frozen_of_heap hbF 1
      have HOW := hid hown
      have HSN := hid hsn
      have HAL := hid hal
      have HBF := hid hbF
      have HBB := hid hbB
      have HGR := hid hgr
      clear hown hsn hal hbF hbB hgr hts hti hrd
      have KS : Hid (∀ w' : World, w'.heap[F]? = wr.heap[F]? → w'.cell? ⟨F, 1, none⟩ = some sv ∧ w'.frozen? ⟨F, 1, none⟩ = false) := fun w' e => by
        have hb' := e.trans HBF.out
        exact ⟨by rw [Lib.cell_of_heap hb']; rfl, Lib.frozen_of_heap hb' 1⟩
      have KA : Hid (∀ w3 w4 : World, w3.heap[F]? = wr.heap[F]? → F + 1 ≤ w3.heap.size → OwnT (F + 1) w3 sv acc → w3.grownBy w4 sv.ownBlock → w4.cell? ⟨F, 1, none⟩ = some sv ∧ w4.frozen? ⟨F, 1, none⟩ = false) := fun w3 w4 e hs ho hg =>
        KS.out _ ((hg.block F (by omega) (fun e => absurd ((World.ownsRow.lt ho F e.symm).1) (by omega))).trans e)
      have hRF : R ≠ F := by omega
      have hi16 : (i + 1) * 16 ≤ 140737488355328 := by omega
      go_wp2_with fail
      go_region_law (first
        | (refine step_append_lies _ (by rfl) (.tmp 12) (.tmp 15) 28 (by rfl) (F + 1) 9 i0 (.string ⟨#[]⟩) 1 16 Tryd.underlying28 HI.out hz0 hz1 hz2 rfl (by decide) sv acc.length (acc.map Value.string) (by rfl) (by assumption) _ 1 1 [.string t] (by rfl) rfl (by intro j u hj; match j, hj with | 0, hj => simp at hj; subst hj; simp [Addr.add]) (by intro u hu; simp at hu; subst hu; rfl) (by decide) (by rw [HAL.out]; unfold maxLen; omega) (by rw [HAL.out]; exact hi16) (by assumption) _ rfl ?_; intro g cap w4 hown4 hg4 hat4 hlt4; obtain ⟨g41, g24⟩ := KA.out _ _ (by assumption) (by assumption) (by assumption) hg4)
        | (go_simp; go_at_call 67; refine HTX.out.mono ?_; rintro o w2 ⟨rfl, hrd2, hg2⟩; have e2 := hg2.block F hFl (fun e => hRF (by cases e; rfl)); obtain ⟨g21, g22⟩ := KS.out _ e2; have e3 := ((Below.heap_alloc w2 (.cells #[.string t] 9) F (Nat.lt_of_lt_of_le hFl hg2.size)).trans e2); obtain ⟨g31, g23⟩ := KS.out _ e3; have hbase3 : F + 1 ≤ (w2.alloc (.cells #[.string t] 9)).heap.size := (by have := hg2.size; simp at this ⊢; omega); have hown3 : OwnT (F + 1) (w2.alloc (.cells #[.string t] 9)) sv acc := (OwnT.grown (w := wr.drew) HOW.out hg2 (by omega)).on ((Below.refl _ _).alloc (Nat.le_refl _) _)))
      all_goals
        go_wp2_with fail
        go_roundg (n - (i + 1))
        case measure => omega
        exact ⟨i + 1, by go_num, by omega, by omega, field_next hRw hsz1 hFl HBF.out HBB.out HGR.out HSN.out hrd2 hg2 hown3 hown4 hg4⟩
    · have hltz : ¬ (i : Int) < (n : Int) := by omega
      obtain rfl : i = n := by omega
      have g0 : wr.cell? ⟨F, 0, none⟩ = some (.string nm) := by rw [Lib.cell_of_heap hbF]; rfl
      have g1 : wr.cell? ⟨F, 1, none⟩ = some sv := by rw [Lib.cell_of_heap hbF]; rfl
      have k0 : wr.cell? ⟨w.heap.size, 0, none⟩ = some (.string ⟨#[]⟩) := by rw [Lib.cell_of_heap hbB]; rfl
      have k1 : wr.cell? ⟨w.heap.size, 1, none⟩ = some (.slice none 0 0) := by rw [Lib.cell_of_heap hbB]; rfl
      have m0 : wr.frozen? ⟨w.heap.size, 0, none⟩ = false := Lib.frozen_of_heap hbB 0
      have m1 : wr.frozen? ⟨w.heap.size, 1, none⟩ = false := Lib.frozen_of_heap hbB 1
      have hwl : w.heap.size < wr.heap.size := (Array.getElem?_eq_some_iff.1 hbB).1
      have hb1 : Below w.heap.size wr ((wr.setCell ⟨w.heap.size, 0, none⟩ (.string nm)).setCell ⟨w.heap.size, 1, none⟩ sv) := ((Below.refl _ wr).setCell (p := ⟨w.heap.size, 0, none⟩) (Nat.le_refl _) _).setCell (p := ⟨w.heap.size, 1, none⟩) (Nat.le_refl _) _
      have hgB : wr.grownBy ((wr.setCell ⟨w.heap.size, 0, none⟩ (.string nm)).setCell ⟨w.heap.size, 1, none⟩ sv) (some w.heap.size) := grown_trans (grown_set wr _ 0 _) (grown_set _ _ 1 _)
      have HOW : Hid (OwnT w.heap.size ((wr.setCell ⟨w.heap.size, 0, none⟩ (.string nm)).setCell ⟨w.heap.size, 1, none⟩ sv) sv (textsS i s2).1) := by
        have := OwnT.grown hown hgB (by omega)
        exact own_weak this (by omega)
      have HRD : Hid (Rd ((wr.setCell ⟨w.heap.size, 0, none⟩ (.string nm)).setCell ⟨w.heap.size, 1, none⟩ sv) R (textsS i s2).2) := hrd.far (hb1.mono (by omega))
      have HGR : Hid (w.grownBy ((wr.setCell ⟨w.heap.size, 0, none⟩ (.string nm)).setCell ⟨w.heap.size, 1, none⟩ sv) (some R)) :=
        ⟨hb1.os.trans hgr.os, hb1.tape.trans hgr.tape, hb1.output.trans hgr.output, Nat.le_trans hgr.size hb1.size, fun k hk hne => (hb1.block k hk).trans (hgr.block k hk hne)⟩
      obtain ⟨ao, nn, cap, rfl⟩ : ∃ ao nn cap, sv = .slice ao nn cap := by
        rcases hown.2 with ⟨hv, _⟩ | ⟨g, cap, cur, hv, _⟩
        · exact ⟨_, _, _, hv⟩
        · exact ⟨_, _, _, hv⟩
      clear hown hrd hgr hbF hbB hb1 hgB
      go_wp2_with fail
      have j0 : ((wr.setCell ⟨w.heap.size, 0, none⟩ (.string nm)).setCell ⟨w.heap.size, 1, none⟩ (.slice ao nn cap)).cell? ⟨w.heap.size, 0, none⟩ = some (.string nm) := by simp [go_sem, k0]
      have j1 : ((wr.setCell ⟨w.heap.size, 0, none⟩ (.string nm)).setCell ⟨w.heap.size, 1, none⟩ (.slice ao nn cap)).cell? ⟨w.heap.size, 1, none⟩ = some (.slice ao nn cap) := by simp [go_sem, k1]
      exact bodyPost_ret (v := .agg #[.string nm, .slice ao nn cap]) (by simp [results, Tryd.results54, go_sem, j0, j1]) rfl ⟨_, rfl, HOW.out, HRD.out, HGR.out⟩

end Go.Proofs.YtmjchokacmbkoabDoor
