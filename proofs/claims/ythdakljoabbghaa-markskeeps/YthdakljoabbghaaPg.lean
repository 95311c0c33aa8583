/-
  Texts of this claim, one behind the other: Mlk Mfd Mfw Mot Ma6.
-/
import Derived.Test.YthdakljoabbghaaPf
import Derived.Test.YthdakljoabbghaaPc
import Derived.Test.YthdakljoabbghaaPd
import Derived.Test.YthdakljoabbghaaPe
import Derived.Test.YthdakljoabbghaaRows
/-
  MarksKeeps (stage 12): what is handed in stays as it is, spare room too; what is answered is its own. (Written by mkmlk.py.)
-/
namespace Go.Proofs.Ythdakljoabbghaa
open Go.RowKit

/-- An append whose run is known. -/
theorem wp_append_run {P : Program} {o : Oper} {a : Act} {w w' : World} {K : Act → World → Prop} {Q : Exit → Act → World → Prop} (s x : Operand) (t : TypeId) (ho : o.op = .call { callee := .builtin .append, args := #[s, x], argTypes := #[t, t] }) (v1 v2 r : Value) (hs : a.eval s = v1) (hx : a.eval x = v2) (hrun : (Builtin.append_ #[t, t] o.type #[v1, v2]).run P w = .ok r w') (h : K (a.put o.dst r) w') : Oper.wp P o a w K Q := by
  unfold Oper.wp
  simp [execOp, ho, resolve, invoke, builtin, hs, hx, hrun, Result.andThen]
  exact h
theorem plus2_num (n : Nat) (h : n < 9000000000000000000) : ∃ N : Nat, (n : Int) + 2 = (N : Int) ∧ wrap64 ((n : Int) + 2) = (N : Int) ∧ IntKind.i64.wrap ((n : Int) + 2) = (N : Int) := ⟨n + 2, by simp, by simp [wrap64]; omega, by rw [IntKind.wrap_i64]; omega⟩
theorem plus1_num (n : Nat) (h : n < 9000000000000000000) : ∃ N : Nat, N = n + 1 ∧ wrap64 ((n : Int) + 1) = (N : Int) ∧ IntKind.i64.wrap ((n : Int) + 1) = (N : Int) := ⟨n + 1, rfl, by simp [wrap64]; omega, by rw [IntKind.wrap_i64]; omega⟩
theorem own_set2 {g cap : Nat} {w : World} {l : List Ky} {u v : Value} (h : KK.Own g w (.slice (some ⟨g, 0, none⟩) l.length cap) l) (hc : l.length + 1 ≤ cap) : KK.Own g ((w.setCell ⟨g, l.length * 2, none⟩ u).setCell ⟨g, l.length * 2 + 1, none⟩ v) (.slice (some ⟨g, 0, none⟩) l.length cap) l ∧ ((w.setCell ⟨g, l.length * 2, none⟩ u).setCell ⟨g, l.length * 2 + 1, none⟩ v).cell? ⟨g, l.length * 2, none⟩ = some u ∧ (∃ z, w.cell? ⟨g, l.length * 2, none⟩ = some z) ∧ (∃ z, w.cell? ⟨g, l.length * 2 + 1, none⟩ = some z) ∧ w.frozen? ⟨g, l.length * 2, none⟩ = false ∧ w.frozen? ⟨g, l.length * 2 + 1, none⟩ = false := by
  have h' : w.ownsRow g KK.T KK.k (.slice (some ⟨g, 0, none⟩) l.length cap) l.length (KK.cells l) := h
  have hk : KK.k = 2 := rfl
  rcases h'.2 with ⟨h0, _⟩ | ⟨g', cap', cur, hv, hb, hg, h1, h2, hcs, htk⟩
  · cases h0
  · cases hv
    rw [hk] at hcs htk
    have e1 := heap_setCell_same w g (l.length * 2) cur KK.T u hg
    have e2 := heap_setCell_same _ g (l.length * 2 + 1) _ KK.T v e1
    have hs2 : ((cur.setIfInBounds (l.length * 2) u).setIfInBounds (l.length * 2 + 1) v).size = cap * KK.k := by rw [Array.size_setIfInBounds, Array.size_setIfInBounds, hk]; exact hcs
    refine ⟨⟨h'.1, Or.inr ⟨g, cap, _, rfl, Nat.le_refl _, e2, h1, h2, hs2, ?_⟩⟩, ?_, ?_, ?_, Lib.frozen_of_heap hg _, Lib.frozen_of_heap hg _⟩
    · rw [hk, Array.toList_setIfInBounds, Array.toList_setIfInBounds, List.take_set_of_le (by omega), List.take_set_of_le (by omega)]
      exact htk
    · rw [Lib.cell_of_heap e2]
      rw [Array.getElem?_setIfInBounds_ne (by omega), Array.getElem?_setIfInBounds_self_of_lt (by omega)]
    · rw [Lib.cell_of_heap hg]
      exact ⟨_, Array.getElem?_eq_getElem (by omega)⟩
    · rw [Lib.cell_of_heap hg]
      exact ⟨_, Array.getElem?_eq_getElem (by omega)⟩

/-- No range has more terms than can be counted. -/
def RgB (m : Mk) : Prop := ∀ z ∈ m.2, z.2.length < 1500000000000
theorem rgb_of {m : Mx} (h : ∀ r ∈ m.rs, r.tm.length ≤ 2000000) : RgB m.mk' := fun z hz => by
  obtain ⟨r, hr, rfl⟩ := List.mem_map.1 hz
  exact Nat.lt_of_le_of_lt (h r hr) (by decide)
theorem RgB.tm {m : Mx} {x : Mk} (h : RgB x) (e : m.mk' = x) : ∀ r ∈ m.rs, r.tm.length < 1500000000000 := fun r hr => by
  subst e
  exact h r.rg (List.mem_map.2 ⟨r, hr, rfl⟩)
theorem RgB.key {x : Mk} (h : RgB x) (k : Ky) : RgB (keyM x k) := h
theorem RgB.range {x : Mk} (h : RgB x) (r : Rg) (hr : r.2.length < 1500000000000) : RgB (rangeM x r) := fun z hz => by
  rcases mem_putR.1 hz with hz | rfl
  · exact h z hz
  · exact hr
theorem rgb_fold {l : List Rg} : ∀ {acc : List Rg}, (∀ z ∈ l, z.2.length < 1500000000000) → (∀ z ∈ acc, z.2.length < 1500000000000) → ∀ z ∈ l.foldl putR acc, z.2.length < 1500000000000 := by
  induction l with
  | nil => exact fun _ h => h
  | cons r l ih =>
    intro acc h1 h2
    refine ih (fun z hz => h1 z (List.mem_cons_of_mem _ hz)) (fun z hz => ?_)
    rcases mem_putR.1 hz with hz | rfl
    · exact h2 z hz
    · exact h1 z (List.mem_cons_self ..)
theorem RgB.union {x y : Mk} (h : RgB x) (h2 : RgB y) : RgB (unionM x y) := rgb_fold h2 (rgb_fold h (fun _ h => nomatch h))

set_option linter.unusedSimpArgs false in
set_option maxHeartbeats 16000000 in
set_option maxRecDepth 100000 in
theorem mkeeps12_any (S : MarksApi) (hF : Fixed12) (a b : Mx) (k : Ky) (w : World) (ha : MIn w a) (hb : MIn w b) (hl : a.ks.length ≤ 2000000 ∧ a.rs.length ≤ 2000000 ∧ b.ks.length ≤ 2000000 ∧ b.rs.length ≤ 2000000) (hta : ∀ r ∈ a.rs, r.tm.length ≤ 2000000) (htb : ∀ r ∈ b.rs, r.tm.length ≤ 2000000) (hka : ∀ x ∈ a.ks, FitKy12 x) (hkb : ∀ x ∈ b.ks, FitKy12 x) (hkk : FitKy12 k) :
    Calls Try.prog 7 #[.agg (encMx a).toArray, .agg (encMx b).toArray, .agg #[.string k.1, .string k.2]] w fun e w' => e = .returned (.bool true) ∧ Below w.heap.size w w' := by
  obtain ⟨j0, hj0, hz0, hz1, hz2⟩ := info_parts Try.infoKy12
  have HIj0 := hid hj0
  clear hj0
  obtain ⟨V, hV⟩ : ∃ V, ((w.alloc (.cells (encMx a).toArray 25)).alloc (.cells (encMx b).toArray 25)).alloc (.cells #[.string k.1, .string k.2] 27) = V := ⟨_, rfl⟩
  obtain ⟨M, hM⟩ : ∃ M, w.heap.size = M := ⟨_, rfl⟩
  obtain ⟨hbV, hba, hbb, hbk, hs⟩ := three_boxes w _ _ _ _ _ _ V hV
  rw [hM] at hba hbb hbk hs
  have fa : FewM a := ⟨by omega, by omega⟩
  have fb : FewM b := ⟨by omega, by omega⟩
  have HF := hid (hF V)
  have HIN : Hid (∀ W', Below V.heap.size V W' → MIn W' a ∧ MIn W' b ∧ Below w.heap.size w W' ∧ (W'.cell? ⟨M, 0, none⟩ = some a.ksl ∧ W'.cell? ⟨M, 1, none⟩ = some a.rsl ∧ W'.cell? ⟨M + 1, 0, none⟩ = some b.ksl ∧ W'.cell? ⟨M + 1, 1, none⟩ = some b.rsl ∧ W'.cell? ⟨M + 2, 0, none⟩ = some (.string k.1) ∧ W'.cell? ⟨M + 2, 1, none⟩ = some (.string k.2))) := fun W' hW => by
    have hb' : Below w.heap.size w W' := bel_then hbV hbV.size hW
    have e1 := (hW.block M (by omega)).trans hba
    have e2 := (hW.block (M + 1) (by omega)).trans hbb
    have e3 := (hW.block (M + 2) (by omega)).trans hbk
    exact ⟨ha.on hb', hb.on hb', hb', by rw [Lib.cell_of_heap e1]; rfl, by rw [Lib.cell_of_heap e1]; rfl, by rw [Lib.cell_of_heap e2]; rfl, by rw [Lib.cell_of_heap e2]; rfl, by rw [Lib.cell_of_heap e3]; rfl, by rw [Lib.cell_of_heap e3]; rfl⟩
  have HCP : Hid (∀ W', Below V.heap.size V W' → Calls Try.prog 27 #[.agg #[a.ksl, a.rsl]] W' fun e w' => MOwnPost W' a.mk' e w') := fun W' hW => marks12_any a W' (HIN.out W' hW).1 fa (fun r hr => by have := hta r hr; omega)
  have HKF := hid (And.intro hka (And.intro hkb hkk))
  have HVM : Hid (M + 3 ≤ V.heap.size) := Nat.le_of_eq hs.symm
  obtain ⟨mka, hmka⟩ : ∃ x, a.mk' = x := ⟨_, rfl⟩
  have HMA := hid hmka
  have HRB : Hid (RgB a.mk' ∧ RgB b.mk') := ⟨rgb_of hta, rgb_of htb⟩
  rw [hmka] at HRB
  rw [hmka] at HCP
  obtain ⟨_, _, _, a0, a1, b0, b1, k0, k1⟩ := HIN.out V (Below.refl _ _)
  obtain ⟨hl1, hl2, hl3, hl4⟩ := hl
  clear ha hb hta htb hka hkb hkk hbV hba hbb hbk hs hF fa fb hmka
  obtain ⟨akp, akc, aks, arp, arc, ars⟩ := a
  obtain ⟨bkp, bkc, bks, brp, brc, brs⟩ := b
  obtain ⟨ka, kb⟩ := k
  simp only [encMx, Mx.ksl, Mx.rsl] at *
  go_enter Try.func7, Try.ntmps7
  go_wp2_with fail
  try rw [hV]
  try rw [hM]
  clear hV a0 a1 b0 b1 k0 k1
  refine HF.out.mono ?_
  rintro e w1 ⟨rfl, hb1⟩
  obtain ⟨_, _, _, a0, a1, _⟩ := HIN.out w1 hb1
  have H1 := hid (HCP.out w1 hb1)
  have HB1 := hid hb1
  clear hb1 HF HCP
  go_wp2_with fail
  refine H1.out.mono ?_
  rintro e w2 ⟨in0, rfl, ho2, hk2, hb2⟩
  have hb2' : Below V.heap.size V w2 := bel_then HB1.out HB1.out.size hb2
  obtain ⟨I, hI⟩ : ∃ I, w2.heap.size = I := ⟨_, rfl⟩
  obtain ⟨W3, hW3⟩ : ∃ W3, w2.alloc (.cells #[in0.ksl, in0.rsl] 25) = W3 := ⟨_, rfl⟩
  obtain ⟨h31, h32, h33⟩ := one_box w2 #[in0.ksl, in0.rsl] 25
  rw [hW3] at h31 h32 h33
  rw [hI] at h32 h33
  have hb3 : Below V.heap.size V W3 := bel_then hb2' hb2'.size h31
  have hIM : M + 3 ≤ I := by have := HVM.out; have := hb2'.size; omega
  -- the room
  have hka3 : KK.Is W3.drew (.slice akp aks.length akc) aks := (HIN.out W3.drew (bel_drewN hb3 1)).1.keys
  obtain ⟨W4, W5, hmk, hb4, hap, ho5, hb5⟩ := keys_room W3.drew akp akc aks hka3 (by omega)
  have hd3 : W3.drew.heap.size = I + 1 := h33
  rw [hd3] at hmk hap ho5 hb4 hb5
  obtain ⟨C2, hC2⟩ : ∃ C2, aks.length + 2 = C2 := ⟨_, rfl⟩
  rw [hC2] at hmk hap ho5
  have HC2 := hid hC2
  obtain ⟨N2, hN2, hn1, hn2⟩ := plus2_num aks.length (by omega)
  rw [hN2] at hmk
  have hb5V : Below V.heap.size V W5 := (bel_drewN hb3 1).trans (hb5.mono (by have := hb3.size; omega))
  have hb4V : Below V.heap.size V W4 := (bel_drewN hb3 1).trans (hb4.mono (by have := hb3.size; omega))
  have hI5 : W5.heap[I]? = some (.cells #[in0.ksl, in0.rsl] 25 (0, 0)) := (hb5.block I (by omega)).trans h32
  have i0 : W5.cell? ⟨I, 0, none⟩ = some in0.ksl := by rw [Lib.cell_of_heap hI5]; rfl
  have i1 : W5.frozen? ⟨I, 0, none⟩ = false := Lib.frozen_of_heap hI5 0
  obtain ⟨W6, hW6⟩ : ∃ W6, W5.setCell ⟨I, 0, none⟩ (.slice (some ⟨I + 1, 0, none⟩) aks.length C2) = W6 := ⟨_, rfl⟩
  have hI6 : W6.heap[I]? = some (.cells #[.slice (some ⟨I + 1, 0, none⟩) aks.length C2, in0.rsl] 25 (0, 0)) := by rw [← hW6]; exact heap_setCell_same _ I 0 _ _ _ hI5
  have hb6V : Below V.heap.size V W6 := by rw [← hW6]; exact hb5V.setCell (p := ⟨I, 0, none⟩) (by show V.heap.size ≤ I; rw [← hI]; exact hb2'.size) _
  have ho6 : KK.Own (I + 1) W6 (.slice (some ⟨I + 1, 0, none⟩) aks.length C2) aks := by
    rw [← hW6]
    exact own_cell ho5 (Nat.lt_succ_self I) _ _
  have HBI6 : Hid (Below I w2 W6) := by
    have h1 : Below I w2 W3 := by rw [← hI]; exact h31
    have h2 : Below I w2 W5 := (bel_drewN h1 1).trans (hb5.mono (Nat.le_succ I))
    rw [← hW6]
    exact h2.setCell (p := ⟨I, 0, none⟩) (Nat.le_refl I) _
  have HS4 : Hid (∀ W, Below V.heap.size V W → W.cell? ⟨M, 0, none⟩ = some (.slice akp aks.length akc)) := fun W hW => (HIN.out W hW).2.2.2.1
  have HB := hid (And.intro hb3 (And.intro hb4V (And.intro hb5V hb6V)))
  have HI6 := hid hI6
  have HO6 := hid ho6
  have HIO := hid (And.intro ho2 (And.intro hk2 (And.intro hb2 h31)))
  have HNW := hid (And.intro hn1 hn2)
  have HI32 := hid h32
  have HIB := hid hb2'
  have HSZ := hid h33
  clear hC2 hb2 ho2 hk2 hb2' H1 HB1 h31 h32 h33 hb3 hka3 hb4 ho5 hb5 hd3 hn1 hn2 hN2 hb5V hb4V hI5 hI6 hb6V ho6
  obtain ⟨ikp, ikc, iks, irp, irc, irs⟩ := in0
  simp only [encMx, Mx.ksl, Mx.rsl] at *
  go_upto_region 4 with fail
  try rw [hW3]
  try rw [hI]
  clear hW3 a0 a1
  refine wp_region_held_drew (S := fun W => W.cell? ⟨M, 0, none⟩ = some (.slice akp aks.length akc)) (by kernel_rfl) (HS4.out W3.drew (bel_drewN HB.out.1 1)) (fun hHeld => ?_)
  refine take_val (i := 0) (.pointer (some ⟨M, 0, none⟩)) rfl (by kernel_rfl) (by kernel_rfl) (by kernel_rfl) (fun _ _ _ h => h) (by rfl) (fun w hSw => by go_simp) hHeld ?_
  simp only [Act.put, List.setIfInBounds_toArray, List.set_cons_zero, List.set_cons_succ]
  refine take_val (i := 1) (.slice akp aks.length akc) rfl (by kernel_rfl) (by kernel_rfl) (by kernel_rfl) (fun _ _ _ h => h) (by rfl) (fun w hSw => by go_simp) hHeld ?_
  simp only [Act.put, List.setIfInBounds_toArray, List.set_cons_zero, List.set_cons_succ]
  refine take_val (i := 2) (.int .i64 aks.length) rfl (by kernel_rfl) (by kernel_rfl) (by kernel_rfl) (fun _ _ _ h => h) (by rfl) (fun w hSw => by go_simp) hHeld ?_
  simp only [Act.put, List.setIfInBounds_toArray, List.set_cons_zero, List.set_cons_succ]
  obtain ⟨hn1, hn2⟩ := HNW.out
  refine take_val (i := 3) (.int .i64 N2) rfl (by kernel_rfl) (by kernel_rfl) (by kernel_rfl) (fun _ _ _ h => h) (by rfl) (fun w hSw => by go_simp) hHeld ?_
  simp only [Act.put, List.setIfInBounds_toArray, List.set_cons_zero, List.set_cons_succ]
  clear hn1 hn2
  refine take_val (i := 5) (.pointer (some ⟨M, 0, none⟩)) rfl (by kernel_rfl) (by kernel_rfl) (by kernel_rfl) (fun _ _ _ h => h) (by rfl) (fun w hSw => by go_simp) hHeld ?_
  simp only [Act.put, List.setIfInBounds_toArray, List.set_cons_zero, List.set_cons_succ]
  refine take_val (i := 6) (.slice akp aks.length akc) rfl (by kernel_rfl) (by kernel_rfl) (by kernel_rfl) (fun _ _ _ h => h) (by rfl) (fun w hSw => by go_simp) hHeld ?_
  simp only [Act.put, List.setIfInBounds_toArray, List.set_cons_zero, List.set_cons_succ]
  clear hHeld
  refine wpAnyH_ready (rs := [4]) (by kernel_rfl) (by simp) ?_
  refine AllReadyH.cons (at_drop0 rfl) (fun K hK => ?_) AllReadyH.nil
  rw [if_pos (by rfl)]
  go_simp
  go_wp2_with fail
  refine hK.out _ _ ((HS4.out W4 HB.out.2.1)) (fun hHeld => ?_)
  clear hK K
  try simp only [Act.put, List.setIfInBounds_toArray, List.set_cons_zero, List.set_cons_succ]
  clear hHeld
  refine wpAnyH_ready (rs := [7]) (by kernel_rfl) (by simp) ?_
  refine AllReadyH.cons (at_drop0 rfl) (fun K hK => ?_) AllReadyH.nil
  rw [if_pos (by rfl)]
  refine wp_append_run _ _ 22 rfl _ _ _ rfl rfl (hap _) ?_
  simp only [Act.put, List.setIfInBounds_toArray, List.set_cons_zero, List.set_cons_succ]
  refine hK.out _ _ ((HS4.out W5 HB.out.2.2.1)) (fun hHeld => ?_)
  clear hK K
  try simp only [Act.put, List.setIfInBounds_toArray, List.set_cons_zero, List.set_cons_succ]
  refine take_val (i := 8) (.pointer (some ⟨I, 0, none⟩)) rfl (by kernel_rfl) (by kernel_rfl) (by kernel_rfl) (fun _ _ _ h => h) (by rfl) (fun w hSw => by go_simp) hHeld ?_
  simp only [Act.put, List.setIfInBounds_toArray, List.set_cons_zero, List.set_cons_succ]
  clear hHeld
  refine wpAnyH_ready (rs := [9]) (by kernel_rfl) (by simp) ?_
  refine AllReadyH.cons (at_drop0 rfl) (fun K hK => ?_) AllReadyH.nil
  rw [if_pos (by rfl)]
  go_simp
  go_wp2_with fail
  try rw [hW6]
  refine hK.out _ _ ((HS4.out W6 HB.out.2.2.2)) (fun hHeld => ?_)
  clear hK K
  try simp only [Act.put, List.setIfInBounds_toArray, List.set_cons_zero, List.set_cons_succ]
  refine wpAnyH_done (by kernel_rfl) ?_ _
  clear hHeld hmk hap i0 i1 hW6
  -- the mark in the spare place
  have hc1 : aks.length + 1 ≤ C2 := by have := HC2.out; omega
  obtain ⟨ho7, hm7, ⟨zz0, y0⟩, ⟨zz1, y1⟩, f0, f1⟩ := own_set2 (u := .string ⟨#[109, 97, 114, 107]⟩) (v := .string ⟨#[]⟩) HO6.out hc1
  obtain ⟨W7, hW7⟩ : ∃ W7, ((W6.setCell ⟨I + 1, aks.length * 2, none⟩ (.string ⟨#[109, 97, 114, 107]⟩)).setCell ⟨I + 1, aks.length * 2 + 1, none⟩ (.string ⟨#[]⟩)).drew = W7 := ⟨_, rfl⟩
  have hfr7 : Fr (fun b => b = I + 1) W6 W7 := by
    rw [← hW7]
    refine ⟨rfl, rfl, rfl, by show _ ≤ ((W6.setCell _ _).setCell _ _).heap.size; simp, fun k _ hn => ?_⟩
    show ((W6.setCell _ _).setCell _ _).heap[k]? = _
    rw [heap_setCell_other _ _ k _ hn, heap_setCell_other _ _ k _ hn]
  have ho7 : KK.Own (I + 1) W7 (.slice (some ⟨I + 1, 0, none⟩) aks.length C2) aks := by rw [← hW7]; exact Kind.own_on ho7 (bel_drewN (Below.refl _ _) 1)
  have hm7 : W7.cell? ⟨I + 1, aks.length * 2, none⟩ = some (.string ⟨#[109, 97, 114, 107]⟩) := by rw [← hW7]; exact hm7
  have hVI : V.heap.size ≤ I := by
    have := HIO.out.2.2.1.size
    have h9 := HB.out.1.size
    have := HSZ.out
    have h8 : V.heap.size ≤ w2.heap.size := by
      have h7 := HIB.out.size
      omega
    omega
  have hb7 : Below V.heap.size V W7 := HB.out.2.2.2.trans (hfr7.below (by have := HB.out.2.2.2.size; omega) fun k hk => by omega)
  have hI7 : W7.heap[I]? = some (.cells #[.slice (some ⟨I + 1, 0, none⟩) aks.length C2, .slice irp irs.length irc] 25 (0, 0)) := (hfr7.block I (Array.getElem?_eq_some_iff.1 HI6.out).1 (by omega)).trans HI6.out
  obtain ⟨N1, hN1, hnw⟩ := plus1_num aks.length (by omega)
  have HNW1 := hid hnw
  clear hnw
  have j1 : (N1 : Int) ≤ (C2 : Int) := by omega
  have j2 : (0 : Int) ≤ (N1 : Int) := by omega
  have j3 : (aks.length : Int) < (N1 : Int) := by omega
  have j4 : (0 : Int) ≤ (aks.length : Int) := by omega
  have HS5 : Hid (∀ W, W.heap[I]? = some (.cells #[.slice (some ⟨I + 1, 0, none⟩) aks.length C2, .slice irp irs.length irc] 25 (0, 0)) → Below V.heap.size V W → W.cell? ⟨M, 0, none⟩ = some (.slice akp aks.length akc) ∧ W.cell? ⟨I, 0, none⟩ = some (.slice (some ⟨I + 1, 0, none⟩) aks.length C2)) := fun W h1 h2 => ⟨HS4.out W h2, by rw [Lib.cell_of_heap h1]; rfl⟩
  have HBI7 : Hid (Below I w2 W7) := HBI6.out.trans (hfr7.below (by have := HBI6.out.size; omega) fun k hk => by omega)
  have HI7 := hid (And.intro hI7 (And.intro hb7 (And.intro ho7 hm7)))
  clear hN1 hI7 hb7 ho7 hm7 hfr7 hc1
  go_upto_region 5 with fail
  refine wp_region_held_drew (S := fun W => W.cell? ⟨M, 0, none⟩ = some (.slice akp aks.length akc) ∧ W.cell? ⟨I, 0, none⟩ = some (.slice (some ⟨I + 1, 0, none⟩) aks.length C2)) (by kernel_rfl) (HS5.out W6.drew HI6.out (bel_drewN HB.out.2.2.2 1)) (fun hHeld => ?_)
  refine take_val (i := 0) (.pointer (some ⟨I, 0, none⟩)) rfl (by kernel_rfl) (by kernel_rfl) (by kernel_rfl) (fun _ _ _ h => h) (by rfl) (fun w hSw => by go_simp) hHeld ?_
  simp only [Act.put, List.setIfInBounds_toArray, List.set_cons_zero, List.set_cons_succ]
  refine take_val (i := 1) (.slice (some ⟨I + 1, 0, none⟩) aks.length C2) rfl (by kernel_rfl) (by kernel_rfl) (by kernel_rfl) (fun _ _ _ h => h) (by rfl) (fun w hSw => by go_simp) hHeld ?_
  simp only [Act.put, List.setIfInBounds_toArray, List.set_cons_zero, List.set_cons_succ]
  refine take_val (i := 2) (.pointer (some ⟨M, 0, none⟩)) rfl (by kernel_rfl) (by kernel_rfl) (by kernel_rfl) (fun _ _ _ h => h) (by rfl) (fun w hSw => by go_simp) hHeld ?_
  simp only [Act.put, List.setIfInBounds_toArray, List.set_cons_zero, List.set_cons_succ]
  refine take_val (i := 3) (.slice akp aks.length akc) rfl (by kernel_rfl) (by kernel_rfl) (by kernel_rfl) (fun _ _ _ h => h) (by rfl) (fun w hSw => by go_simp) hHeld ?_
  simp only [Act.put, List.setIfInBounds_toArray, List.set_cons_zero, List.set_cons_succ]
  refine take_val (i := 4) (.int .i64 aks.length) rfl (by kernel_rfl) (by kernel_rfl) (by kernel_rfl) (fun _ _ _ h => h) (by rfl) (fun w hSw => by go_simp) hHeld ?_
  simp only [Act.put, List.setIfInBounds_toArray, List.set_cons_zero, List.set_cons_succ]
  obtain ⟨hn1, hn2⟩ := HNW1.out
  refine take_val (i := 5) (.int .i64 N1) rfl (by kernel_rfl) (by kernel_rfl) (by kernel_rfl) (fun _ _ _ h => h) (by rfl) (fun w hSw => by go_simp) hHeld ?_
  simp only [Act.put, List.setIfInBounds_toArray, List.set_cons_zero, List.set_cons_succ]
  clear hn1 hn2
  refine take_val (i := 6) (.slice (some ⟨I + 1, 0, none⟩) N1 C2) rfl (by kernel_rfl) (by kernel_rfl) (by kernel_rfl) (fun _ _ _ h => h) (by rfl) (fun w hSw => by go_simp) hHeld ?_
  simp only [Act.put, List.setIfInBounds_toArray, List.set_cons_zero, List.set_cons_succ]
  refine take_val (i := 7) (.pointer (some ⟨M, 0, none⟩)) rfl (by kernel_rfl) (by kernel_rfl) (by kernel_rfl) (fun _ _ _ h => h) (by rfl) (fun w hSw => by go_simp) hHeld ?_
  simp only [Act.put, List.setIfInBounds_toArray, List.set_cons_zero, List.set_cons_succ]
  refine take_val (i := 8) (.slice akp aks.length akc) rfl (by kernel_rfl) (by kernel_rfl) (by kernel_rfl) (fun _ _ _ h => h) (by rfl) (fun w hSw => by go_simp) hHeld ?_
  simp only [Act.put, List.setIfInBounds_toArray, List.set_cons_zero, List.set_cons_succ]
  refine take_val (i := 9) (.int .i64 aks.length) rfl (by kernel_rfl) (by kernel_rfl) (by kernel_rfl) (fun _ _ _ h => h) (by rfl) (fun w hSw => by go_simp) hHeld ?_
  simp only [Act.put, List.setIfInBounds_toArray, List.set_cons_zero, List.set_cons_succ]
  refine take_val (i := 10) (.agg #[.string ⟨#[109, 97, 114, 107]⟩, .string ⟨#[]⟩]) rfl (by kernel_rfl) (by kernel_rfl) (by kernel_rfl) (fun _ _ _ h => h) (by rfl) (fun w hSw => by go_simp) hHeld ?_
  simp only [Act.put, List.setIfInBounds_toArray, List.set_cons_zero, List.set_cons_succ]
  refine take_val (i := 11) (.pointer (some ⟨I + 1, aks.length * 2, none⟩)) rfl (by kernel_rfl) (by kernel_rfl) (by kernel_rfl) (fun _ _ _ h => h) (by rfl) (fun w hSw => by go_simp) hHeld ?_
  simp only [Act.put, List.setIfInBounds_toArray, List.set_cons_zero, List.set_cons_succ]
  clear hHeld
  refine wpAnyH_ready (rs := [12]) (by kernel_rfl) (by simp) ?_
  refine AllReadyH.cons (at_drop0 rfl) (fun K hK => ?_) AllReadyH.nil
  rw [if_pos (by rfl)]
  go_simp
  go_wp2_with fail
  try rw [hW7]
  refine hK.out _ _ ((HS5.out W7 HI7.out.1 HI7.out.2.1)) (fun hHeld => ?_)
  clear hK K
  try simp only [Act.put, List.setIfInBounds_toArray, List.set_cons_zero, List.set_cons_succ]
  refine wpAnyH_done (by kernel_rfl) ?_ _
  have HJ5 := hid (And.intro j1 (And.intro j2 (And.intro j3 j4)))
  clear hHeld hW7 y0 y1 f0 f1 j1 j2 j3 j4
  -- in, from here on: all that is older than W7 stays
  have hin : MIn W7 ⟨some ⟨I + 1, 0, none⟩, C2, aks, irp, irc, irs⟩ ∧ (⟨some ⟨I + 1, 0, none⟩, C2, aks, irp, irc, irs⟩ : Mx).mk' = mka := by
    have h1 : MOwn w1.heap.size W7 ⟨ikp, ikc, iks, irp, irc, irs⟩ := HIO.out.1.on (by rw [hI]; exact HBI7.out)
    have h2 : (⟨ikp, ikc, iks, irp, irc, irs⟩ : Mx).mk' = mka := HIO.out.2.1
    have h3 : (⟨akp, akc, aks, arp, arc, ars⟩ : Mx).mk' = mka := HMA.out
    refine ⟨⟨Kind.own_is HI7.out.2.2.1, h1.inn.rows, h1.inn.each⟩, ?_⟩
    have h5 : irs.map Rx.rg = ars.map Rx.rg := congrArg Prod.snd (h2.trans h3.symm)
    show (aks, irs.map Rx.rg) = mka
    rw [h5]
    exact h3
  have hil : irs.length ≤ 2000000 := by
    have := congrArg (fun x : Mk => x.2.length) hin.2
    have h3 : (⟨akp, akc, aks, arp, arc, ars⟩ : Mx).mk' = mka := HMA.out
    rw [← h3] at this
    simp only [Mx.mk', List.length_map] at this
    omega
  have hV7 : Below V.heap.size V W7 := HI7.out.2.1
  have HN7 : Hid (∀ W, Below W7.heap.size W7 W → Below V.heap.size V W ∧ MIn W ⟨some ⟨I + 1, 0, none⟩, C2, aks, irp, irc, irs⟩ ∧ (W.cell? ⟨M, 0, none⟩ = some (.slice akp aks.length akc) ∧ W.cell? ⟨M, 1, none⟩ = some (.slice arp ars.length arc) ∧ W.cell? ⟨M + 1, 0, none⟩ = some (.slice bkp bks.length bkc) ∧ W.cell? ⟨M + 1, 1, none⟩ = some (.slice brp brs.length brc) ∧ W.cell? ⟨M + 2, 0, none⟩ = some (.string ka) ∧ W.cell? ⟨M + 2, 1, none⟩ = some (.string kb) ∧ W.cell? ⟨I, 0, none⟩ = some (.slice (some ⟨I + 1, 0, none⟩) aks.length C2) ∧ W.cell? ⟨I, 1, none⟩ = some (.slice irp irs.length irc)) ∧ W.cell? ⟨I + 1, aks.length * 2, none⟩ = some (.string ⟨#[109, 97, 114, 107]⟩) ∧ MIn W ⟨akp, akc, aks, arp, arc, ars⟩ ∧ MIn W ⟨bkp, bkc, bks, brp, brc, brs⟩) := fun W hW => by
    have hVW : Below V.heap.size V W := bel_then hV7 hV7.size hW
    have e1 := (hW.block I (Array.getElem?_eq_some_iff.1 HI7.out.1).1).trans HI7.out.1
    have e2 : W.cell? ⟨I + 1, aks.length * 2, none⟩ = some (.string ⟨#[109, 97, 114, 107]⟩) := by
      have hlt : I + 1 < W7.heap.size := World.block_lt_of_cell? W7 _ HI7.out.2.2.2
      rw [World.cell?_of_block (a := ⟨I + 1, aks.length * 2, none⟩) (hW.block (I + 1) hlt)]
      exact HI7.out.2.2.2
    obtain ⟨q1, q2, _, q3, q4, q5, q6, q7, q8⟩ := HIN.out W hVW
    exact ⟨hVW, hin.1.on hW, ⟨q3, q4, q5, q6, q7, q8, by rw [Lib.cell_of_heap e1]; rfl, by rw [Lib.cell_of_heap e1]; rfl⟩, e2, q1, q2⟩
  have finn : FewM ⟨some ⟨I + 1, 0, none⟩, C2, aks, irp, irc, irs⟩ := ⟨by show aks.length < _; omega, by show irs.length < _; omega⟩
  have HMK : Hid ((⟨some ⟨I + 1, 0, none⟩, C2, aks, irp, irc, irs⟩ : Mx).mk' = mka) := hin.2
  have HKP : Hid (∀ W, Below W7.heap.size W7 W → Calls Try.prog 10 #[.agg #[.slice (some ⟨I + 1, 0, none⟩) aks.length C2, .slice irp irs.length irc], .agg #[.string ka, .string kb]] W fun e w' => MOwnPost W (keyM mka (ka, kb)) e w') := fun W hW => by
    have := S.key W ⟨some ⟨I + 1, 0, none⟩, C2, aks, irp, irc, irs⟩ (ka, kb) (HN7.out W hW).2.1 finn HKF.out.2.2 HKF.out.1
    rwa [HMK.out] at this
  have HRP : Hid (∀ W, Below W7.heap.size W7 W → Calls Try.prog 16 #[.agg #[.slice (some ⟨I + 1, 0, none⟩) aks.length C2, .slice irp irs.length irc], .string ⟨#[65]⟩, .slice none 0 0] W fun e w' => MOwnPost W (rangeM mka (⟨#[65]⟩, [])) e w') := fun W hW => by
    have := S.range W ⟨some ⟨I + 1, 0, none⟩, C2, aks, irp, irc, irs⟩ ⟨⟨#[65]⟩, none, 0, []⟩ (HN7.out W hW).2.1 finn ⟨KM.is_nil W, fitP_nil⟩
    rwa [HMK.out] at this
  have HUP : Hid (∀ W, Below W7.heap.size W7 W → Calls Try.prog 12 #[.agg #[.slice (some ⟨I + 1, 0, none⟩) aks.length C2, .slice irp irs.length irc], .agg #[.slice bkp bks.length bkc, .slice brp brs.length brc]] W fun e w' => MOwnPost W (unionM mka (⟨bkp, bkc, bks, brp, brc, brs⟩ : Mx).mk') e w') := fun W hW => by
    have := S.union W ⟨some ⟨I + 1, 0, none⟩, C2, aks, irp, irc, irs⟩ ⟨bkp, bkc, bks, brp, brc, brs⟩ (HN7.out W hW).2.1 (HN7.out W hW).2.2.2.2.2 finn ⟨by show bks.length < _; omega, by show brs.length < _; omega⟩ HKF.out.1 HKF.out.2.1
    rwa [HMK.out] at this
  obtain ⟨mkx, hmkx⟩ : ∃ x, keyM mka (ka, kb) = x := ⟨_, rfl⟩
  obtain ⟨mky, hmky⟩ : ∃ x, rangeM mka ((⟨#[65]⟩, []) : Rg) = x := ⟨_, rfl⟩
  obtain ⟨mku, hmku⟩ : ∃ x, unionM mka (⟨bkp, bkc, bks, brp, brc, brs⟩ : Mx).mk' = x := ⟨_, rfl⟩
  have HFM : Hid ((∀ m : Mx, m.mk' = mkx → FewM m) ∧ (∀ m : Mx, m.mk' = mky → FewM m) ∧ (∀ m : Mx, m.mk' = mku → FewM m)) := by
    refine ⟨fun m hm => few_key (a := ⟨some ⟨I + 1, 0, none⟩, C2, aks, irp, irc, irs⟩) (k := (ka, kb)) (by show aks.length + 1 < _; omega) (by show irs.length < _; omega) ?_, fun m hm => few_range (a := ⟨some ⟨I + 1, 0, none⟩, C2, aks, irp, irc, irs⟩) (r := (⟨#[65]⟩, [])) (by show aks.length < _; omega) (by show irs.length + 1 < _; omega) ?_, fun m hm => few_union (a := ⟨some ⟨I + 1, 0, none⟩, C2, aks, irp, irc, irs⟩) (b := ⟨bkp, bkc, bks, brp, brc, brs⟩) ⟨by show aks.length + bks.length + 1 < _; omega, by show irs.length + brs.length + 1 < _; omega⟩ ?_⟩
    · rw [hm, ← hmkx, HMK.out]
    · rw [hm, ← hmky, HMK.out]
    · rw [hm, ← hmku, HMK.out]
  have HTB : Hid (∀ m : Mx, m.mk' = mkx ∨ m.mk' = mky ∨ m.mk' = mku → ∀ r ∈ m.rs, r.tm.length < 1500000000000) := fun m h => by
    rcases h with h | h | h
    · exact (HRB.out.1.key (ka, kb)).tm (h.trans hmkx.symm)
    · exact (HRB.out.1.range (⟨#[65]⟩, []) (by decide)).tm (h.trans hmky.symm)
    · exact (HRB.out.1.union HRB.out.2).tm (h.trans hmku.symm)
  rw [hmkx] at HKP
  rw [hmky] at HRP
  rw [hmku] at HUP
  have HMU := hid hmku
  have HS6 : Hid (∀ W, Below W7.heap.size W7 W → W.cell? ⟨M, 0, none⟩ = some (.slice akp aks.length akc) ∧ W.cell? ⟨M, 1, none⟩ = some (.slice arp ars.length arc) ∧ W.cell? ⟨M + 1, 0, none⟩ = some (.slice bkp bks.length bkc) ∧ W.cell? ⟨M + 1, 1, none⟩ = some (.slice brp brs.length brc) ∧ W.cell? ⟨M + 2, 0, none⟩ = some (.string ka) ∧ W.cell? ⟨M + 2, 1, none⟩ = some (.string kb) ∧ W.cell? ⟨I, 0, none⟩ = some (.slice (some ⟨I + 1, 0, none⟩) aks.length C2) ∧ W.cell? ⟨I, 1, none⟩ = some (.slice irp irs.length irc)) := fun W hW => (HN7.out W hW).2.2.1
  clear hin hV7 finn hmkx hmky hmku HBI7 HBI6 HI6 HO6 HIO HNW HI32 HSZ HIB HB HS4 HS5
  go_upto_region 6 with fail
  try simp only [Nat.add_assoc, Nat.reduceAdd]
  refine wp_region_held_drew (S := fun W => W.cell? ⟨M, 0, none⟩ = some (.slice akp aks.length akc) ∧ W.cell? ⟨M, 1, none⟩ = some (.slice arp ars.length arc) ∧ W.cell? ⟨M + 1, 0, none⟩ = some (.slice bkp bks.length bkc) ∧ W.cell? ⟨M + 1, 1, none⟩ = some (.slice brp brs.length brc) ∧ W.cell? ⟨M + 2, 0, none⟩ = some (.string ka) ∧ W.cell? ⟨M + 2, 1, none⟩ = some (.string kb) ∧ W.cell? ⟨I, 0, none⟩ = some (.slice (some ⟨I + 1, 0, none⟩) aks.length C2) ∧ W.cell? ⟨I, 1, none⟩ = some (.slice irp irs.length irc)) (by kernel_rfl) (HS6.out W7.drew (bel_drewN (Below.refl _ _) 1)) (fun hHeld => ?_)
  refine take_val (i := 0) (.agg #[.slice (some ⟨I + 1, 0, none⟩) aks.length C2, .slice irp irs.length irc]) rfl (by kernel_rfl) (by kernel_rfl) (by kernel_rfl) (fun _ _ _ h => h) (by rfl) (fun w hSw => by go_simp) hHeld ?_
  simp only [Act.put, List.setIfInBounds_toArray, List.set_cons_zero, List.set_cons_succ]
  refine take_val (i := 1) (.agg #[.string ka, .string kb]) rfl (by kernel_rfl) (by kernel_rfl) (by kernel_rfl) (fun _ _ _ h => h) (by rfl) (fun w hSw => by go_simp) hHeld ?_
  simp only [Act.put, List.setIfInBounds_toArray, List.set_cons_zero, List.set_cons_succ]
  refine take_val (i := 3) (.agg #[.slice (some ⟨I + 1, 0, none⟩) aks.length C2, .slice irp irs.length irc]) rfl (by kernel_rfl) (by kernel_rfl) (by kernel_rfl) (fun _ _ _ h => h) (by rfl) (fun w hSw => by go_simp) hHeld ?_
  simp only [Act.put, List.setIfInBounds_toArray, List.set_cons_zero, List.set_cons_succ]
  clear hHeld
  refine wpAnyH_floats [2, 4, 7, 8] [5, 6] (fun a0 k fl a w' => ∃ v1 v2 u1 u2, a = putS a0 [(45, v1), (47, v2), (8, u1), (9, u2)] ∧ TwoK W7 mkx mky k fl v1 v2 u1 u2 w') (by kernel_rfl) (by decide) ⟨_, _, _, _, (putS_self _ [45, 47, 8, 9]).symm, two_start _ _ _ _ (bel_drewN (Below.refl _ _) 1)⟩ ?hS ?hmain ?halloc ?hend
  case hS =>
    rintro k fl a w' ⟨v1, v2, u1, u2, _, h⟩
    exact HS6.out w' h.bel
  case hmain =>
    rintro k i fl a w' hk hfl hrd ⟨v1, v2, u1, u2, rfl, hst⟩
    obtain ⟨f1, f2, rfl⟩ : ∃ f1 f2, fl = [f1, f2] := by
      match fl, hfl with
      | [f1, f2], _ => exact ⟨f1, f2, rfl⟩
    rcases k with _ | _ | _ | _ | k
    · obtain rfl : i = 2 := by simpa using hk.symm
      have hbw := hst.bel
      have HC := hid (HKP.out w' hbw)
      have HST := hid hst
      have HBW := hid hbw
      clear hrd hst hbw
      refine ⟨_, at_drop0 rfl, fun K hK => ?_⟩
      simp only [putS, List.foldl_cons, List.foldl_nil, Act.put, List.setIfInBounds_toArray, List.set_cons_zero, List.set_cons_succ]
      rw [if_pos (by rfl)]
      go_simp
      refine HC.out.mono ?_
      rintro e w2 ⟨m2, rfl, ho2, hk2, hb2⟩
      have hG := gow_own (V := W7) ho2 hk2
      have hBB := ho2.blk
      clear ho2 hk2
      have HST2 := hid (two_call1 HST.out hb2 hG hBB)
      clear HST hG hb2 hBB
      obtain ⟨qkp, qkc, qks, qrp, qrc, qrs⟩ := m2
      simp only [encA, encMx, Mx.ksl, Mx.rsl] at HST2 ⊢
      go_wp2_with fail
      exact hK.out _ _ ⟨_, _, u1, u2, rfl, HST2.out⟩
    · obtain rfl : i = 4 := by simpa using hk.symm
      have hbw := hst.bel
      have HC := hid (HRP.out w' hbw)
      have HST := hid hst
      have HBW := hid hbw
      clear hrd hst hbw
      refine ⟨_, at_drop0 rfl, fun K hK => ?_⟩
      simp only [putS, List.foldl_cons, List.foldl_nil, Act.put, List.setIfInBounds_toArray, List.set_cons_zero, List.set_cons_succ]
      rw [if_pos (by rfl)]
      go_simp
      refine HC.out.mono ?_
      rintro e w2 ⟨m2, rfl, ho2, hk2, hb2⟩
      have hG := gow_own (V := W7) ho2 hk2
      have hBB := ho2.blk
      clear ho2 hk2
      have HST2 := hid (two_call2 HST.out hb2 hG hBB)
      clear HST hG hb2 hBB
      obtain ⟨qkp, qkc, qks, qrp, qrc, qrs⟩ := m2
      simp only [encA, encMx, Mx.ksl, Mx.rsl] at HST2 ⊢
      go_wp2_with fail
      exact hK.out _ _ ⟨_, _, u1, u2, rfl, HST2.out⟩
    · obtain rfl : i = 7 := by simpa using hk.symm
      cases f1 with
      | false => exact (not_ready hrd (by cases f2 <;> kernel_rfl)).elim
      | true =>
        obtain ⟨B, m2, rfl, rfl, hbx, hst2⟩ := two_store1 hst
        obtain ⟨⟨c0, c1, z0, z1⟩, hbx2, hfr⟩ := store_two (a := m2.ksl) (b := m2.rsl) hbx
        have HST2 := hid (hst2 _ hbx2 hfr)
        clear hrd hst hst2 hbx hbx2 hfr
        obtain ⟨qkp, qkc, qks, qrp, qrc, qrs⟩ := m2
        simp only [encA, Mx.ksl, Mx.rsl] at HST2 ⊢
        refine ⟨_, at_drop0 rfl, fun K hK => ?_⟩
        simp only [putS, List.foldl_cons, List.foldl_nil, Act.put, List.setIfInBounds_toArray, List.set_cons_zero, List.set_cons_succ]
        rw [if_pos (by rfl)]
        go_simp
        go_wp2_with fail
        exact hK.out _ _ ⟨_, _, _, _, rfl, HST2.out⟩
    · obtain rfl : i = 8 := by simpa using hk.symm
      cases f2 with
      | false => exact (not_ready hrd (by cases f1 <;> kernel_rfl)).elim
      | true =>
        obtain ⟨B, m2, rfl, rfl, hbx, hst2⟩ := two_store2 hst
        obtain ⟨⟨c0, c1, z0, z1⟩, hbx2, hfr⟩ := store_two (a := m2.ksl) (b := m2.rsl) hbx
        have HST2 := hid (hst2 _ hbx2 hfr)
        clear hrd hst hst2 hbx hbx2 hfr
        obtain ⟨qkp, qkc, qks, qrp, qrc, qrs⟩ := m2
        simp only [encA, Mx.ksl, Mx.rsl] at HST2 ⊢
        refine ⟨_, at_drop0 rfl, fun K hK => ?_⟩
        simp only [putS, List.foldl_cons, List.foldl_nil, Act.put, List.setIfInBounds_toArray, List.set_cons_zero, List.set_cons_succ]
        rw [if_pos (by rfl)]
        go_simp
        go_wp2_with fail
        exact hK.out _ _ ⟨_, _, _, _, rfl, HST2.out⟩
    · simp at hk
  case halloc =>
    rintro j i k fl a w' hj hk hfl hf ⟨v1, v2, u1, u2, rfl, hst⟩
    obtain ⟨f1, f2, rfl⟩ : ∃ f1 f2, fl = [f1, f2] := by
      match fl, hfl with
      | [f1, f2], _ => exact ⟨f1, f2, rfl⟩
    rcases j with _ | _ | j
    · obtain rfl : i = 5 := by simpa using hj.symm
      obtain rfl : f1 = false := by simpa using hf
      have HST2 := hid (two_alloc1 hst)
      clear hst hf hj hk
      refine ⟨_, at_drop0 rfl, fun K hK => ?_⟩
      simp only [putS, List.foldl_cons, List.foldl_nil, Act.put, List.setIfInBounds_toArray, List.set_cons_zero, List.set_cons_succ]
      rw [if_pos (by rfl)]
      go_simp
      go_wp2_with fail
      exact hK.out _ _ ⟨v1, v2, _, u2, rfl, HST2.out⟩
    · obtain rfl : i = 6 := by simpa using hj.symm
      obtain rfl : f2 = false := by simpa using hf
      have HST2 := hid (two_alloc2 hst)
      clear hst hf hj hk
      refine ⟨_, at_drop0 rfl, fun K hK => ?_⟩
      simp only [putS, List.foldl_cons, List.foldl_nil, Act.put, List.setIfInBounds_toArray, List.set_cons_zero, List.set_cons_succ]
      rw [if_pos (by rfl)]
      go_simp
      go_wp2_with fail
      exact hK.out _ _ ⟨v1, v2, u1, _, rfl, HST2.out⟩
    · simp at hj
  case hend =>
    rintro a w8 ⟨v1, v2, u1, u2, rfl, hst⟩
    obtain ⟨B8, B9, x, y, rfl, rfl, hE8⟩ := two_end hst
    clear hst
    have HE8 := hid hE8
    have HB8 : Hid (∀ W, Below w8.heap.size w8 W → Below W7.heap.size W7 W) := fun W h => bel_then HE8.out.bel HE8.out.bel.size h
    have HS7 : Hid (∀ W, Below w8.heap.size w8 W → W.cell? ⟨M, 0, none⟩ = some (.slice akp aks.length akc) ∧ W.cell? ⟨M, 1, none⟩ = some (.slice arp ars.length arc) ∧ W.cell? ⟨M + 1, 0, none⟩ = some (.slice bkp bks.length bkc) ∧ W.cell? ⟨M + 1, 1, none⟩ = some (.slice brp brs.length brc) ∧ W.cell? ⟨M + 2, 0, none⟩ = some (.string ka) ∧ W.cell? ⟨M + 2, 1, none⟩ = some (.string kb) ∧ W.cell? ⟨I, 0, none⟩ = some (.slice (some ⟨I + 1, 0, none⟩) aks.length C2) ∧ W.cell? ⟨I, 1, none⟩ = some (.slice irp irs.length irc)) := fun W hW => HS6.out W (HB8.out W hW)
    clear hE8 HKP HRP
    obtain ⟨xkp, xkc, xks, xrp, xrc, xrs⟩ := x
    obtain ⟨ykp, ykc, yks, yrp, yrc, yrs⟩ := y
    simp only [putS, List.foldl_cons, List.foldl_nil, Act.put, List.setIfInBounds_toArray, List.set_cons_zero, List.set_cons_succ]
    go_upto_region 7 with fail
    refine wp_region_held_drew (S := fun W => W.cell? ⟨M, 0, none⟩ = some (.slice akp aks.length akc) ∧ W.cell? ⟨M, 1, none⟩ = some (.slice arp ars.length arc) ∧ W.cell? ⟨M + 1, 0, none⟩ = some (.slice bkp bks.length bkc) ∧ W.cell? ⟨M + 1, 1, none⟩ = some (.slice brp brs.length brc) ∧ W.cell? ⟨M + 2, 0, none⟩ = some (.string ka) ∧ W.cell? ⟨M + 2, 1, none⟩ = some (.string kb) ∧ W.cell? ⟨I, 0, none⟩ = some (.slice (some ⟨I + 1, 0, none⟩) aks.length C2) ∧ W.cell? ⟨I, 1, none⟩ = some (.slice irp irs.length irc)) (by kernel_rfl) (HS7.out w8.drew (bel_drewN (Below.refl _ _) 1)) (fun hHeld => ?_)
    refine take_val (i := 0) (.agg #[.slice (some ⟨I + 1, 0, none⟩) aks.length C2, .slice irp irs.length irc]) rfl (by kernel_rfl) (by kernel_rfl) (by kernel_rfl) (fun _ _ _ h => h) (by rfl) (fun w hSw => by go_simp) hHeld ?_
    simp only [Act.put, List.setIfInBounds_toArray, List.set_cons_zero, List.set_cons_succ]
    refine take_val (i := 1) (.agg #[.slice bkp bks.length bkc, .slice brp brs.length brc]) rfl (by kernel_rfl) (by kernel_rfl) (by kernel_rfl) (fun _ _ _ h => h) (by rfl) (fun w hSw => by go_simp) hHeld ?_
    simp only [Act.put, List.setIfInBounds_toArray, List.set_cons_zero, List.set_cons_succ]
    refine take_val (i := 3) (.agg #[.slice (some ⟨I + 1, 0, none⟩) aks.length C2, .slice irp irs.length irc]) rfl (by kernel_rfl) (by kernel_rfl) (by kernel_rfl) (fun _ _ _ h => h) (by rfl) (fun w hSw => by go_simp) hHeld ?_
    simp only [Act.put, List.setIfInBounds_toArray, List.set_cons_zero, List.set_cons_succ]
    refine take_val (i := 4) (.agg #[.slice bkp bks.length bkc, .slice brp brs.length brc]) rfl (by kernel_rfl) (by kernel_rfl) (by kernel_rfl) (fun _ _ _ h => h) (by rfl) (fun w hSw => by go_simp) hHeld ?_
    simp only [Act.put, List.setIfInBounds_toArray, List.set_cons_zero, List.set_cons_succ]
    clear hHeld
    refine wpAnyH_floats [2, 5, 8, 9] [6, 7] (fun a0 k fl a w' => ∃ v1 v2 u1 u2, a = putS a0 [(50, v1), (53, v2), (10, u1), (11, u2)] ∧ TwoK w8 mku mku k fl v1 v2 u1 u2 w') (by kernel_rfl) (by decide) ⟨_, _, _, _, (putS_self _ [50, 53, 10, 11]).symm, two_start _ _ _ _ (bel_drewN (Below.refl _ _) 1)⟩ ?hS ?hmain ?halloc ?hend
    case hS =>
      rintro k fl a w' ⟨v1, v2, u1, u2, _, h⟩
      exact HS7.out w' h.bel
    case hmain =>
      rintro k i fl a w' hk hfl hrd ⟨v1, v2, u1, u2, rfl, hst⟩
      obtain ⟨f1, f2, rfl⟩ : ∃ f1 f2, fl = [f1, f2] := by
        match fl, hfl with
        | [f1, f2], _ => exact ⟨f1, f2, rfl⟩
      rcases k with _ | _ | _ | _ | k
      · obtain rfl : i = 2 := by simpa using hk.symm
        have hbw := hst.bel
        have HC := hid (HUP.out w' (HB8.out w' hbw))
        have HST := hid hst
        have HBW := hid hbw
        clear hrd hst hbw
        refine ⟨_, at_drop0 rfl, fun K hK => ?_⟩
        simp only [putS, List.foldl_cons, List.foldl_nil, Act.put, List.setIfInBounds_toArray, List.set_cons_zero, List.set_cons_succ]
        rw [if_pos (by rfl)]
        go_simp
        refine HC.out.mono ?_
        rintro e w2 ⟨m2, rfl, ho2, hk2, hb2⟩
        have hG := gow_own (V := w8) ho2 hk2
        have hBB := ho2.blk
        clear ho2 hk2
        have HST2 := hid (two_call1 HST.out hb2 hG hBB)
        clear HST hG hb2 hBB
        obtain ⟨qkp, qkc, qks, qrp, qrc, qrs⟩ := m2
        simp only [encA, encMx, Mx.ksl, Mx.rsl] at HST2 ⊢
        go_wp2_with fail
        exact hK.out _ _ ⟨_, _, u1, u2, rfl, HST2.out⟩
      · obtain rfl : i = 5 := by simpa using hk.symm
        have hbw := hst.bel
        have HC := hid (HUP.out w' (HB8.out w' hbw))
        have HST := hid hst
        have HBW := hid hbw
        clear hrd hst hbw
        refine ⟨_, at_drop0 rfl, fun K hK => ?_⟩
        simp only [putS, List.foldl_cons, List.foldl_nil, Act.put, List.setIfInBounds_toArray, List.set_cons_zero, List.set_cons_succ]
        rw [if_pos (by rfl)]
        go_simp
        refine HC.out.mono ?_
        rintro e w2 ⟨m2, rfl, ho2, hk2, hb2⟩
        have hG := gow_own (V := w8) ho2 hk2
        have hBB := ho2.blk
        clear ho2 hk2
        have HST2 := hid (two_call2 HST.out hb2 hG hBB)
        clear HST hG hb2 hBB
        obtain ⟨qkp, qkc, qks, qrp, qrc, qrs⟩ := m2
        simp only [encA, encMx, Mx.ksl, Mx.rsl] at HST2 ⊢
        go_wp2_with fail
        exact hK.out _ _ ⟨_, _, u1, u2, rfl, HST2.out⟩
      · obtain rfl : i = 8 := by simpa using hk.symm
        cases f1 with
        | false => exact (not_ready hrd (by cases f2 <;> kernel_rfl)).elim
        | true =>
          obtain ⟨B, m2, rfl, rfl, hbx, hst2⟩ := two_store1 hst
          obtain ⟨⟨c0, c1, z0, z1⟩, hbx2, hfr⟩ := store_two (a := m2.ksl) (b := m2.rsl) hbx
          have HST2 := hid (hst2 _ hbx2 hfr)
          clear hrd hst hst2 hbx hbx2 hfr
          obtain ⟨qkp, qkc, qks, qrp, qrc, qrs⟩ := m2
          simp only [encA, Mx.ksl, Mx.rsl] at HST2 ⊢
          refine ⟨_, at_drop0 rfl, fun K hK => ?_⟩
          simp only [putS, List.foldl_cons, List.foldl_nil, Act.put, List.setIfInBounds_toArray, List.set_cons_zero, List.set_cons_succ]
          rw [if_pos (by rfl)]
          go_simp
          go_wp2_with fail
          exact hK.out _ _ ⟨_, _, _, _, rfl, HST2.out⟩
      · obtain rfl : i = 9 := by simpa using hk.symm
        cases f2 with
        | false => exact (not_ready hrd (by cases f1 <;> kernel_rfl)).elim
        | true =>
          obtain ⟨B, m2, rfl, rfl, hbx, hst2⟩ := two_store2 hst
          obtain ⟨⟨c0, c1, z0, z1⟩, hbx2, hfr⟩ := store_two (a := m2.ksl) (b := m2.rsl) hbx
          have HST2 := hid (hst2 _ hbx2 hfr)
          clear hrd hst hst2 hbx hbx2 hfr
          obtain ⟨qkp, qkc, qks, qrp, qrc, qrs⟩ := m2
          simp only [encA, Mx.ksl, Mx.rsl] at HST2 ⊢
          refine ⟨_, at_drop0 rfl, fun K hK => ?_⟩
          simp only [putS, List.foldl_cons, List.foldl_nil, Act.put, List.setIfInBounds_toArray, List.set_cons_zero, List.set_cons_succ]
          rw [if_pos (by rfl)]
          go_simp
          go_wp2_with fail
          exact hK.out _ _ ⟨_, _, _, _, rfl, HST2.out⟩
      · simp at hk
    case halloc =>
      rintro j i k fl a w' hj hk hfl hf ⟨v1, v2, u1, u2, rfl, hst⟩
      obtain ⟨f1, f2, rfl⟩ : ∃ f1 f2, fl = [f1, f2] := by
        match fl, hfl with
        | [f1, f2], _ => exact ⟨f1, f2, rfl⟩
      rcases j with _ | _ | j
      · obtain rfl : i = 6 := by simpa using hj.symm
        obtain rfl : f1 = false := by simpa using hf
        have HST2 := hid (two_alloc1 hst)
        clear hst hf hj hk
        refine ⟨_, at_drop0 rfl, fun K hK => ?_⟩
        simp only [putS, List.foldl_cons, List.foldl_nil, Act.put, List.setIfInBounds_toArray, List.set_cons_zero, List.set_cons_succ]
        rw [if_pos (by rfl)]
        go_simp
        go_wp2_with fail
        exact hK.out _ _ ⟨v1, v2, _, u2, rfl, HST2.out⟩
      · obtain rfl : i = 7 := by simpa using hj.symm
        obtain rfl : f2 = false := by simpa using hf
        have HST2 := hid (two_alloc2 hst)
        clear hst hf hj hk
        refine ⟨_, at_drop0 rfl, fun K hK => ?_⟩
        simp only [putS, List.foldl_cons, List.foldl_nil, Act.put, List.setIfInBounds_toArray, List.set_cons_zero, List.set_cons_succ]
        rw [if_pos (by rfl)]
        go_simp
        go_wp2_with fail
        exact hK.out _ _ ⟨v1, v2, u1, _, rfl, HST2.out⟩
      · simp at hj
    case hend =>
      rintro a w9 ⟨v1, v2, u1, u2, rfl, hst⟩
      obtain ⟨B10, B11, u, v, rfl, rfl, hE9⟩ := two_end hst
      clear hst
      have HE9 := hid hE9
      have HB9 : Hid (∀ W, Below w9.heap.size w9 W → Below w8.heap.size w8 W) := fun W h => bel_then HE9.out.bel HE9.out.bel.size h
      have HUR : Hid (Calls Try.prog 13 #[.agg #[.slice akp aks.length akc, .slice arp ars.length arc], .agg #[.slice bkp bks.length bkc, .slice brp brs.length brc]] w9 fun e w' => MarkPost (PrV W7) (KrV W7) w9 mku e w') := by
        have h7 := HB8.out w9 (HB9.out w9 (Below.refl _ _))
        have := union12_any (PrV W7) (KrV W7) ⟨akp, akc, aks, arp, arc, ars⟩ ⟨bkp, bkc, bks, brp, brc, brs⟩ w9 (HN7.out w9 h7).2.2.2.2.1 (HN7.out w9 h7).2.2.2.2.2 ⟨by show aks.length < _; omega, by show ars.length < _; omega⟩ ⟨by show bks.length < _; omega, by show brs.length < _; omega⟩ (fun r hr W2 h2 => (HN7.out W2 h2).2.2.2.2.1.each r hr) (fun r hr W2 h2 => (HN7.out W2 h2).2.2.2.2.2.each r hr)
        rw [show (⟨akp, akc, aks, arp, arc, ars⟩ : Mx).mk' = mka from HMA.out, HMU.out] at this
        exact this
      obtain ⟨q0, q1, q2, q3, _⟩ := HS7.out w9 (HB9.out w9 (Below.refl _ _))
      clear hE9 HUP
      obtain ⟨ukp, ukc, uks, urp, urc, urs⟩ := u
      obtain ⟨vkp, vkc, vks, vrp, vrc, vrs⟩ := v
      simp only [putS, List.foldl_cons, List.foldl_nil, Act.put, List.setIfInBounds_toArray, List.set_cons_zero, List.set_cons_succ]
      go_wp2_with fail
      refine HUR.out.mono ?_
      rintro e w10 ⟨wn, rfl, hwi, hwk, hw10, hwks, hwrs, hwe⟩
      have hB10 : Below w9.heap.size w9 w10 := hw10
      obtain ⟨W11, hW11⟩ : ∃ W11, w10.alloc (.cells #[wn.ksl, wn.rsl] 25) = W11 := ⟨_, rfl⟩
      obtain ⟨B12, hB12⟩ : ∃ B12, w10.heap.size = B12 := ⟨_, rfl⟩
      obtain ⟨h11a, h11b, h11c⟩ := one_box w10 #[wn.ksl, wn.rsl] 25
      rw [hW11] at h11a h11b h11c
      rw [hB12] at h11b h11c
      have hB11 : Below w9.heap.size w9 W11 := bel_then hB10 hB10.size h11a
      have hX8 := (HE8.out.g1.1).choose_spec.weak0
      have hY8 := (HE8.out.g2.1).choose_spec.weak0
      have hU9 := (HE9.out.g1.1).choose_spec.weak0
      have hV9 := (HE9.out.g2.1).choose_spec.weak0
      have hB811 : Below w8.heap.size w8 W11 := HB9.out W11 hB11
      have e8 := (hB811.block B8 (Array.getElem?_eq_some_iff.1 HE8.out.box1).1).trans HE8.out.box1
      have e9 := (hB811.block B9 (Array.getElem?_eq_some_iff.1 HE8.out.box2).1).trans HE8.out.box2
      have e10 := (hB11.block B10 (Array.getElem?_eq_some_iff.1 HE9.out.box1).1).trans HE9.out.box1
      have e11 := (hB11.block B11 (Array.getElem?_eq_some_iff.1 HE9.out.box2).1).trans HE9.out.box2
      have x0 : W11.cell? ⟨B8, 0, none⟩ = some (.slice xkp xks.length xkc) := by rw [Lib.cell_of_heap e8]; rfl
      have x1 : W11.cell? ⟨B8, 1, none⟩ = some (.slice xrp xrs.length xrc) := by rw [Lib.cell_of_heap e8]; rfl
      have y0 : W11.cell? ⟨B9, 0, none⟩ = some (.slice ykp yks.length ykc) := by rw [Lib.cell_of_heap e9]; rfl
      have y1 : W11.cell? ⟨B9, 1, none⟩ = some (.slice yrp yrs.length yrc) := by rw [Lib.cell_of_heap e9]; rfl
      have u0 : W11.cell? ⟨B10, 0, none⟩ = some (.slice ukp uks.length ukc) := by rw [Lib.cell_of_heap e10]; rfl
      have u1 : W11.cell? ⟨B10, 1, none⟩ = some (.slice urp urs.length urc) := by rw [Lib.cell_of_heap e10]; rfl
      obtain ⟨W12, hW12⟩ : ∃ W12, W11.alloc (.cells #[.slice xkp xks.length xkc, .slice xrp xrs.length xrc, .slice ykp yks.length ykc, .slice yrp yrs.length yrc, .slice ukp uks.length ukc, .slice urp urs.length urc] 25) = W12 := ⟨_, rfl⟩
      obtain ⟨Z, hZ⟩ : ∃ Z, W11.heap.size = Z := ⟨_, rfl⟩
      obtain ⟨h12a, h12b, h12c⟩ := one_box W11 #[.slice xkp xks.length xkc, .slice xrp xrs.length xrc, .slice ykp yks.length ykc, .slice yrp yrs.length yrc, .slice ukp uks.length ukc, .slice urp urs.length urc] 25
      rw [hW12] at h12a h12b h12c
      rw [hZ] at h12b h12c
      -- the three that are wiped
      obtain ⟨ms, hms⟩ : ∃ ms : List Mx, [(⟨xkp, xkc, xks, xrp, xrc, xrs⟩ : Mx), ⟨ykp, ykc, yks, yrp, yrc, yrs⟩, ⟨ukp, ukc, uks, urp, urc, urs⟩] = ms := ⟨_, rfl⟩
      have hml : ms.length = 3 := by rw [← hms]; rfl
      have hB912 : Below w9.heap.size w9 W12 := bel_then hB11 hB11.size h12a
      have hB812 : Below w8.heap.size w8 W12 := HB9.out W12 hB912
      have HOW : Hid (∀ m ∈ ms, MOwn 0 W12 m) := fun m hm => by
        rw [← hms] at hm
        simp only [List.mem_cons, List.not_mem_nil, or_false] at hm
        rcases hm with rfl | rfl | rfl
        · exact hX8.on hB812
        · exact hY8.on hB812
        · exact hU9.on hB912
      have HAP : Hid (ms.Pairwise fun m m' => ∀ b, BlkM m b → ¬ BlkM m' b) := by
        show ms.Pairwise _
        rw [← hms]
        refine List.Pairwise.cons (fun m hm b h1 h2 => ?_) (List.Pairwise.cons (fun m hm b h1 h2 => ?_) (List.pairwise_singleton _ _))
        · simp only [List.mem_cons, List.not_mem_nil, or_false] at hm
          rcases hm with rfl | rfl
          · exact HE8.out.ap b h1 h2
          · have := (HE8.out.l1 b h1).2
            have := (HE9.out.l1 b h2).1
            omega
        · simp only [List.mem_cons, List.not_mem_nil, or_false] at hm
          subst hm
          have := (HE8.out.l2 b h1).2
          have := (HE9.out.l1 b h2).1
          omega
      have HPB : Hid (∀ m ∈ ms, ∀ b, BlkM m b → W7.heap.size ≤ b ∧ b < w9.heap.size ∧ ¬ BlkM ⟨vkp, vkc, vks, vrp, vrc, vrs⟩ b) := fun m hm b hb => by
        rw [← hms] at hm
        have h78 := HE8.out.bel.size
        have h89 := HE9.out.bel.size
        simp only [List.mem_cons, List.not_mem_nil, or_false] at hm
        rcases hm with rfl | rfl | rfl
        · have h1 := HE8.out.l1 b hb
          exact ⟨h1.1, by omega, fun h2 => by have := (HE9.out.l2 b h2).1; omega⟩
        · have h1 := HE8.out.l2 b hb
          exact ⟨h1.1, by omega, fun h2 => by have := (HE9.out.l2 b h2).1; omega⟩
        · have h1 := HE9.out.l1 b hb
          exact ⟨by omega, h1.2, HE9.out.ap b hb⟩
      have HSM : Hid (∀ m ∈ ms, m.ks.length < 1500000000000 ∧ m.rs.length < 1500000000000 ∧ ∀ r ∈ m.rs, r.tm.length < 1500000000000) := fun m hm => by
        rw [← hms] at hm
        simp only [List.mem_cons, List.not_mem_nil, or_false] at hm
        rcases hm with rfl | rfl | rfl
        · exact ⟨(HFM.out.1 _ HE8.out.g1.2).1, (HFM.out.1 _ HE8.out.g1.2).2, HTB.out _ (Or.inl HE8.out.g1.2)⟩
        · exact ⟨(HFM.out.2.1 _ HE8.out.g2.2).1, (HFM.out.2.1 _ HE8.out.g2.2).2, HTB.out _ (Or.inr (Or.inl HE8.out.g2.2))⟩
        · exact ⟨(HFM.out.2.2 _ HE9.out.g1.2).1, (HFM.out.2.2 _ HE9.out.g1.2).2, HTB.out _ (Or.inr (Or.inr HE9.out.g1.2))⟩
      have HZA : Hid (KMk.At W12 Z 0 ms) := by
        rw [← hms]
        intro t ht jj u hu
        have ht3 : t < 3 := ht
        have hj2 : jj < 2 := (List.getElem?_eq_some_iff.1 hu).1
        rw [Lib.cell_of_heap h12b]
        rcases t with _ | _ | _ | t
        · rcases jj with _ | _ | jj
          all_goals first | exact hu | omega
        · rcases jj with _ | _ | jj
          all_goals first | exact hu | omega
        · rcases jj with _ | _ | jj
          all_goals first | exact hu | omega
        · omega
      obtain ⟨wkp, wkc, wks, wrp, wrc, wrs⟩ := wn
      simp only [encMx, Mx.ksl, Mx.rsl] at *
      have HV := hid hV9
      have HEND := hid (And.intro h11b (And.intro e11 (And.intro h11c (And.intro h12c (And.intro hB10 (And.intro h11a h12a))))))
      have HWN := hid (And.intro hwk (And.intro hwks (And.intro hwrs hwe)))
      clear hw10 hB10 h11a h11b h11c hB11 hX8 hY8 hU9 hV9 hB811 e8 e9 e10 e11 h12a h12b h12c hB912 hB812 hms q0 q1 q2 q3 HUR hwi hwk hwks hwrs hwe
      go_upto_region 9 with fail
      try rw [hW11]
      try rw [hB12]
      go_wp2_with fail
      try rw [hW12]
      try rw [hZ]
      clear x0 x1 y0 y1 u0 u1 hW11 hW12
      -- the wipes
      have HP0 : Hid (Fr (fun b => ∃ m ∈ ms, BlkM m b) W12 W12) := Fr.refl _ _
      go_loopg [62] 3 (fun gg vi wr => ∃ i : Nat, vi = .int .i64 i ∧ i ≤ 3 ∧ 3 - i ≤ gg ∧ Hid (Fr (fun b => ∃ m ∈ ms, BlkM m b) W12 wr ∧ ∀ t (ht : t < ms.length), i ≤ t → MOwn 0 wr ms[t]))
      case atStart => exact ⟨0, rfl, by omega, by omega, HP0.out, fun t ht _ => HOW.out _ (List.getElem_mem ht)⟩
      case round =>
        clear HP0
        obtain ⟨i, rfl, hi, hgk, HI⟩ := hrel
        by_cases hlt : i < 3
        · have hltz : (i : Int) < 3 := by omega
          have hiz : (0 : Int) ≤ i := by omega
          have him : i < ms.length := by omega
          have hZz : Z < W12.heap.size := by
            have := HEND.out.2.2.2.1
            omega
          have hcz : ∀ jj u, (encMx ms[i])[jj]? = some u → wr.cell? ⟨Z, i * 2 + jj, none⟩ = some u := fun jj u hu => by
            have hblk : wr.heap[Z]? = W12.heap[Z]? := HI.out.1.block Z hZz (fun ⟨m, hm, hb⟩ => by
              have h1 := (HPB.out m hm Z hb).2.1
              have h2 := HEND.out.2.2.2.2.1.size
              have h3 := HEND.out.2.2.2.2.2.1.size
              omega)
            rw [World.cell?_of_block (a := ⟨Z, i * 2 + jj, none⟩) hblk]
            exact at_cell HZA.out i him jj u hu
          have hmo := HI.out.2 i him (Nat.le_refl _)
          have hmem : ms[i] ∈ ms := List.getElem_mem him
          have z0 : wr.cell? ⟨Z, i * 2, none⟩ = some (ms[i]).ksl := hcz 0 _ rfl
          have z1 : wr.cell? ⟨Z, i * 2 + 1, none⟩ = some (ms[i]).rsl := hcz 1 _ rfl
          rename World => W0
          obtain ⟨T, hT⟩ : ∃ T, W0.alloc (.cells #[(ms[i]).ksl, (ms[i]).rsl] 25) = T := ⟨_, rfl⟩
          obtain ⟨O, hO⟩ : ∃ O, W0.heap.size = O := ⟨_, rfl⟩
          obtain ⟨hbT, hTo, hTs⟩ := one_box W0 #[(ms[i]).ksl, (ms[i]).rsl] 25
          rw [hT] at hbT hTo hTs
          rw [hO] at hTo hTs
          have HW1 : Hid (WpM ms[i] W0 0 O (ms[i]).ksl T) := WpM.start hmo O hbT (Nat.le_of_eq hO) hTo
          -- what is left behind the round
          have HNX : Hid (∀ wz kv, WpM ms[i] W0 0 O kv wz → Fr (fun b => ∃ m ∈ ms, BlkM m b) W12 wz ∧ ∀ t (ht : t < ms.length), i + 1 ≤ t → MOwn 0 wz ms[t]) := fun wz kv hz => by
            refine ⟨HI.out.1.then hz.fr fun b hb => Or.inl ⟨_, hmem, hb⟩, fun t ht hit => ?_⟩
            refine (HI.out.2 t ht (by omega)).off hz.fr fun b hb hb2 => ?_
            exact List.pairwise_iff_getElem.1 HAP.out i t him ht (by omega) b hb2 hb
          have hsm : (ms[i]).ks.length < 1500000000000 ∧ (ms[i]).rs.length < 1500000000000 := ⟨(HSM.out _ hmem).1, (HSM.out _ hmem).2.1⟩
          have HTS : Hid (∀ r ∈ (ms[i]).rs, r.tm.length < 1500000000000) := (HSM.out _ hmem).2.2
          generalize ms[i] = m at *
          clear hcz hmo hmem hbT hTo hTs HI him hZz
          obtain ⟨mkp, mkc, mks, mrp, mrc, mrs⟩ := m
          simp only [Mx.ksl, Mx.rsl] at *
          obtain ⟨c0, c1, _⟩ := HW1.out.cells
          go_wp2_with fail
          try rw [hT]
          try rw [hO]
          clear z0 z1 hT c0 c1
          go_loopg [69] mks.length (fun gg vj wr => ∃ j : Nat, vj = .int .i64 j ∧ j ≤ mks.length ∧ mks.length - j ≤ gg ∧ Hid (WpM ⟨mkp, mkc, mks, mrp, mrc, mrs⟩ W0 0 O (.slice mkp mks.length mkc) wr))
          case atStart => exact ⟨0, rfl, by omega, by omega, HW1.out⟩
          case round =>
            clear HW1
            obtain ⟨j, rfl, hj, hgj, HJ⟩ := hrel
            obtain ⟨c0, c1, f0⟩ := HJ.out.cells
            by_cases hjt : j < mks.length
            · have hjz : (j : Int) < (mks.length : Int) := by omega
              have hj0 : (0 : Int) ≤ j := by omega
              obtain ⟨g, rfl, ⟨zz0, k0⟩, ⟨zz1, k1⟩, l0, l1⟩ := HJ.out.kform j hjt
              have HK := hid (HJ.out.key j hjt (⟨#[119, 105, 112, 101, 100]⟩, ⟨#[]⟩))
              clear HJ
              go_wp2_with fail
              go_roundg (mks.length - (j + 1))
              case measure => omega
              exact ⟨j + 1, by go_num, by omega, by omega, HK.out⟩
            · have hjz : ¬ (j : Int) < (mks.length : Int) := by omega
              have HW2 := hid HJ.out
              clear HJ
              go_wp2_with fail
              clear c0 c1 f0 hjz hjt hj hgj
              go_loopg [78] 4 (fun gg vj wr => ∃ (j : Nat) (p : Option Addr) (len c : Nat), vj = .int .i64 j ∧ j ≤ 4 ∧ 4 - j ≤ gg ∧ len ≤ mks.length + j ∧ Hid (WpM ⟨mkp, mkc, mks, mrp, mrc, mrs⟩ W0 0 O (.slice p len c) wr))
              case atStart => exact ⟨0, mkp, mks.length, mkc, rfl, by omega, by omega, by omega, HW2.out⟩
              case round =>
                clear HW2
                obtain ⟨j, p, len, c, rfl, hj, hgj, hlen, HJ⟩ := hrel
                obtain ⟨c0, c1, f0⟩ := HJ.out.cells
                by_cases hjt : j < 4
                · have hjz : (j : Int) < 4 := by omega
                  have hj0 : (0 : Int) ≤ j := by omega
                  obtain ⟨l, hk⟩ := HJ.out.keys
                  obtain ⟨p', c', he⟩ := Kind.own_shape hk
                  have hll : len = l.length := by injection he
                  subst hll
                  obtain ⟨W1, hW1⟩ : ∃ W1, wr.alloc (.cells #[.string ⟨#[]⟩, .string ⟨#[]⟩] 27) = W1 := ⟨_, rfl⟩
                  have hb1 : Below wr.heap.size wr W1 := by rw [← hW1]; exact (Below.refl _ _).alloc (Nat.le_refl _) _
                  have HN1 : Hid (W1.heap[wr.heap.size]? = some (.cells #[.string ⟨#[]⟩, .string ⟨#[]⟩] 27 (0, 0))) := by rw [← hW1]; exact heap_alloc_new wr _
                  have HRW : Hid (RowSt KK 0 W1 (.slice p l.length c) l W1) := ⟨Kind.own_on hk hb1, Below.refl _ _, Nat.zero_le _⟩
                  have HJ1 := hid (HJ.out.on hb1)
                  clear hb1 hk he HJ
                  go_wp2_with (at_builtin; refine wpList_push KK rfl _ _ 22 rfl j0 _ 32 Try.underlying22 HIj0.out hz0 hz1 hz2 rfl 0 W1 _ l rfl HRW.out (⟨#[]⟩, ⟨#[]⟩) _ _ _ rfl rfl _ _ HN1.out (by unfold maxLen; omega) (by omega) ?_
                               intro g3 c3 w3 hst3 hg3 hat3
                               have hp3 := HJ1.out.push hst3.own hg3 hat3
                               have d0 : w3.cell? ⟨O, 0, none⟩ = some (.slice p l.length c) := by rw [Lib.cell_of_heap hp3.1]; rfl
                               have d1 : w3.frozen? ⟨O, 0, none⟩ = false := Lib.frozen_of_heap hp3.1 0
                               have HP3 := hid hp3.2
                               clear hp3 hst3 hg3 hat3)
                  go_roundg (4 - (j + 1))
                  case measure => omega
                  exact ⟨j + 1, some ⟨g3, 0, none⟩, l.length + 1, c3, by go_num, by omega, by omega, by omega, HP3.out⟩
                · have hjz : ¬ (j : Int) < 4 := by omega
                  have HW3 := hid HJ.out
                  clear HJ
                  simp only [Mx.rsl] at c1
                  go_wp2_with fail
                  clear c0 c1 f0 hjz hjt hj hgj
                  go_loopg [90] mrs.length (fun gg vj wr => ∃ j : Nat, vj = .int .i64 j ∧ j ≤ mrs.length ∧ mrs.length - j ≤ gg ∧ Hid (WpM ⟨mkp, mkc, mks, mrp, mrc, mrs⟩ W0 0 O (.slice p len c) wr))
                  case atStart => exact ⟨0, rfl, by omega, by omega, HW3.out⟩
                  case round =>
                    clear HW3
                    obtain ⟨j4, rfl, hj, hgj, HJ⟩ := hrel
                    obtain ⟨c0, c1, f0⟩ := HJ.out.cells
                    by_cases hjt : j4 < mrs.length
                    · have hjz : (j4 : Int) < (mrs.length : Int) := by omega
                      have hj0 : (0 : Int) ≤ j4 := by omega
                      obtain ⟨g, hg, _, r1, _⟩ := HJ.out.rform j4 hjt
                      obtain ⟨r, hrj⟩ : ∃ r, mrs[j4] = r := ⟨_, rfl⟩
                      simp only [Mx.rsl] at c1 hg r1
                      subst hg
                      rw [hrj] at r1
                      obtain ⟨rt, rq, rqc, rtm⟩ := r
                      have hrl : rtm.length < 1500000000000 := by
                        have := HTS.out _ (List.getElem_mem hjt)
                        rw [hrj] at this
                        exact this
                      simp only [Rx.sl] at r1
                      have HW4 := hid HJ.out
                      clear HJ
                      go_wp2_with fail
                      clear c0 c1 f0 r1
                      go_loopg [100] rtm.length (fun gg vk wr => ∃ k : Nat, vk = .int .i64 k ∧ k ≤ rtm.length ∧ rtm.length - k ≤ gg ∧ Hid (WpM ⟨mkp, mkc, mks, some ⟨g, 0, none⟩, mrc, mrs⟩ W0 0 O (.slice p len c) wr))
                      case atStart => exact ⟨0, rfl, by omega, by omega, HW4.out⟩
                      case round =>
                        clear HW4
                        obtain ⟨k5, rfl, hk5, hgk5, HK⟩ := hrel
                        obtain ⟨c0, c1, f0⟩ := HK.out.cells
                        obtain ⟨g', hg', ⟨zt, t0⟩, t1, tf⟩ := HK.out.rform j4 hjt
                        have hgg : g' = g := by
                          simp only at hg'
                          injection hg' with hg'
                          injection hg' with hg'
                          exact hg'.symm
                        subst hgg
                        rw [hrj] at t1
                        simp only [Mx.rsl, Rx.sl] at c1 t1
                        by_cases hkt : k5 < rtm.length
                        · have hkz : (k5 : Int) < (rtm.length : Int) := by omega
                          have hk0 : (0 : Int) ≤ k5 := by omega
                          have hkr : k5 < (mrs[j4]).tm.length := by rw [hrj]; exact hkt
                          obtain ⟨g9, hg9, ⟨⟨a0, s0⟩, ⟨a1, s1⟩, ⟨a2, s2⟩⟩, p0, p1, p2⟩ := HK.out.tform j4 hjt k5 hkr
                          simp only [hrj] at hg9
                          subst hg9
                          have HT := hid (HK.out.term j4 hjt hrj rfl k5 hkt (⟨#[119, 105, 112, 101, 100]⟩, 0, ⟨#[]⟩))
                          clear HK hg' t0 tf
                          go_wp2_with fail
                          go_roundg (rtm.length - (k5 + 1))
                          case measure => omega
                          exact ⟨k5 + 1, by go_num, by omega, by omega, HT.out⟩
                        · have hkz : ¬ (k5 : Int) < (rtm.length : Int) := by omega
                          have HT := hid (HK.out.typ rfl j4 hjt ⟨#[119, 105, 112, 101, 100]⟩)
                          clear HK hg' f0
                          go_wp2_with fail
                          go_roundg (mrs.length - (j4 + 1))
                          case measure => omega
                          exact ⟨j4 + 1, by go_num, by omega, by omega, HT.out⟩
                    · have hjz : ¬ (j4 : Int) < (mrs.length : Int) := by omega
                      have HNN := hid (HNX.out wr _ HJ.out)
                      clear HJ c0 c1 f0
                      go_wp2_with fail
                      go_roundg (3 - (i + 1))
                      case measure => omega
                      exact ⟨i + 1, by go_num, by omega, by omega, HNN.out⟩
        · have hltz : ¬ (i : Int) < 3 := by omega
          have hfr := HI.out.1
          obtain ⟨k11b, ke11, k11c, k12c, kB10, k11a, k12a⟩ := HEND.out
          have k1012 : Below w10.heap.size w10 W12 := bel_then k11a k11a.size k12a
          have k912 : Below w9.heap.size w9 W12 := bel_then kB10 kB10.size k1012
          have k79 : Below W7.heap.size W7 w9 := HB8.out w9 (HB9.out w9 (Below.refl _ _))
          have k712 : Below W7.heap.size W7 W12 := bel_then k79 k79.size k912
          have k7r : Below W7.heap.size W7 wr := k712.trans (hfr.below k712.size fun b ⟨m, hm, hb⟩ => (HPB.out m hm b hb).1)
          have HIV : Hid (MIn wr ⟨vkp, vkc, vks, vrp, vrc, vrs⟩) := ((HV.out.on k912).off hfr fun b hb ⟨m, hm, hb2⟩ => (HPB.out m hm b hb2).2.2 hb).inn
          have HIW : Hid (MIn wr ⟨wkp, wkc, wks, wrp, wrc, wrs⟩) := mark_fr k79 kB10 HWN.out.2.1 HWN.out.2.2.1 HWN.out.2.2.2 (fun b ⟨m, hm, hb⟩ => ⟨(HPB.out m hm b hb).1, (HPB.out m hm b hb).2.1⟩) ((Fr.of_below k1012).then hfr fun b hb => Or.inl hb)
          have e12v := (k12a.block B11 (Array.getElem?_eq_some_iff.1 ke11).1).trans ke11
          have e12w := (k12a.block B12 (Array.getElem?_eq_some_iff.1 k11b).1).trans k11b
          have erv := (hfr.block B11 (Array.getElem?_eq_some_iff.1 e12v).1 (fun ⟨m, hm, hb⟩ => (HOW.out m hm).box e12v B11 hb rfl)).trans e12v
          have erw := (hfr.block B12 (Array.getElem?_eq_some_iff.1 e12w).1 (fun ⟨m, hm, hb⟩ => (HOW.out m hm).box e12w B12 hb rfl)).trans e12w
          have HL : Hid (∀ W, Below wr.heap.size wr W → Below W7.heap.size W7 W ∧ W.cell? ⟨B11, 0, none⟩ = some (.slice vkp vks.length vkc) ∧ W.cell? ⟨B11, 1, none⟩ = some (.slice vrp vrs.length vrc) ∧ W.cell? ⟨B12, 0, none⟩ = some (.slice wkp wks.length wkc) ∧ W.cell? ⟨B12, 1, none⟩ = some (.slice wrp wrs.length wrc) ∧ MIn W ⟨vkp, vkc, vks, vrp, vrc, vrs⟩ ∧ MIn W ⟨wkp, wkc, wks, wrp, wrc, wrs⟩) := fun W hW => by
            have ev := (hW.block B11 (Array.getElem?_eq_some_iff.1 erv).1).trans erv
            have ew := (hW.block B12 (Array.getElem?_eq_some_iff.1 erw).1).trans erw
            refine ⟨bel_then k7r k7r.size hW, ?_, ?_, ?_, ?_, HIV.out.on hW, HIW.out.on hW⟩
            · rw [Lib.cell_of_heap ev]; rfl
            · rw [Lib.cell_of_heap ev]; rfl
            · rw [Lib.cell_of_heap ew]; rfl
            · rw [Lib.cell_of_heap ew]; rfl
          have HQ1 : Hid (∀ W, Below wr.heap.size wr W → Calls Try.prog 14 #[.agg #[.slice (some ⟨I + 1, 0, none⟩) aks.length C2, .slice irp irs.length irc], .agg #[.slice akp aks.length akc, .slice arp ars.length arc]] W fun e w' => e = .returned (.bool true) ∧ Below W.heap.size W w') := fun W hW => by
            have h7 := HN7.out W (HL.out W hW).1
            have := equal12_any ⟨some ⟨I + 1, 0, none⟩, C2, aks, irp, irc, irs⟩ ⟨akp, akc, aks, arp, arc, ars⟩ W h7.2.1 h7.2.2.2.2.1 ⟨by show aks.length < _; omega, by show irs.length < _; omega⟩ ⟨by show aks.length < _; omega, by show ars.length < _; omega⟩
            rwa [decide_eq_true (HMK.out.trans HMA.out.symm)] at this
          have HQ2 : Hid (∀ W, Below wr.heap.size wr W → Calls Try.prog 14 #[.agg #[.slice vkp vks.length vkc, .slice vrp vrs.length vrc], .agg #[.slice wkp wks.length wkc, .slice wrp wrs.length wrc]] W fun e w' => e = .returned (.bool true) ∧ Below W.heap.size W w') := fun W hW => by
            have hv := HE9.out.g2.2
            have hw := HWN.out.1
            have := equal12_any ⟨vkp, vkc, vks, vrp, vrc, vrs⟩ ⟨wkp, wkc, wks, wrp, wrc, wrs⟩ W (HL.out W hW).2.2.2.2.2.1 (HL.out W hW).2.2.2.2.2.2 (HFM.out.2.2 _ hv).len (HFM.out.2.2 _ hw).len
            rwa [decide_eq_true (hv.trans hw.symm)] at this
          have HKR := hid k7r
          clear HIV HIW k11b ke11 k11c k12c kB10 k11a k12a k1012 k912 k79 k712 k7r hfr e12v e12w erv erw HI
          have HS9 : Hid (∀ W, Below wr.heap.size wr W → W.cell? ⟨M, 0, none⟩ = some (.slice akp aks.length akc) ∧ W.cell? ⟨M, 1, none⟩ = some (.slice arp ars.length arc) ∧ W.cell? ⟨M + 1, 0, none⟩ = some (.slice bkp bks.length bkc) ∧ W.cell? ⟨M + 1, 1, none⟩ = some (.slice brp brs.length brc) ∧ W.cell? ⟨M + 2, 0, none⟩ = some (.string ka) ∧ W.cell? ⟨M + 2, 1, none⟩ = some (.string kb) ∧ W.cell? ⟨I, 0, none⟩ = some (.slice (some ⟨I + 1, 0, none⟩) aks.length C2) ∧ W.cell? ⟨I, 1, none⟩ = some (.slice irp irs.length irc) ∧ W.cell? ⟨I + 1, aks.length * 2, none⟩ = some (.string ⟨#[109, 97, 114, 107]⟩) ∧ W.cell? ⟨B11, 0, none⟩ = some (.slice vkp vks.length vkc) ∧ W.cell? ⟨B11, 1, none⟩ = some (.slice vrp vrs.length vrc) ∧ W.cell? ⟨B12, 0, none⟩ = some (.slice wkp wks.length wkc) ∧ W.cell? ⟨B12, 1, none⟩ = some (.slice wrp wrs.length wrc)) := fun W hW => by
            obtain ⟨l0, l1, l2, l3, l4, _, _⟩ := HL.out W hW
            obtain ⟨_, _, ⟨q1, q2, q3, q4, q5, q6, q7, q8⟩, q9, _, _⟩ := HN7.out W l0
            exact ⟨q1, q2, q3, q4, q5, q6, q7, q8, q9, l1, l2, l3, l4⟩
          rename World => WR
          go_upto_region 32 with fail
          refine wp_region_held_drew (S := fun W => W.cell? ⟨M, 0, none⟩ = some (.slice akp aks.length akc) ∧ W.cell? ⟨M, 1, none⟩ = some (.slice arp ars.length arc) ∧ W.cell? ⟨M + 1, 0, none⟩ = some (.slice bkp bks.length bkc) ∧ W.cell? ⟨M + 1, 1, none⟩ = some (.slice brp brs.length brc) ∧ W.cell? ⟨M + 2, 0, none⟩ = some (.string ka) ∧ W.cell? ⟨M + 2, 1, none⟩ = some (.string kb) ∧ W.cell? ⟨I, 0, none⟩ = some (.slice (some ⟨I + 1, 0, none⟩) aks.length C2) ∧ W.cell? ⟨I, 1, none⟩ = some (.slice irp irs.length irc) ∧ W.cell? ⟨I + 1, aks.length * 2, none⟩ = some (.string ⟨#[109, 97, 114, 107]⟩) ∧ W.cell? ⟨B11, 0, none⟩ = some (.slice vkp vks.length vkc) ∧ W.cell? ⟨B11, 1, none⟩ = some (.slice vrp vrs.length vrc) ∧ W.cell? ⟨B12, 0, none⟩ = some (.slice wkp wks.length wkc) ∧ W.cell? ⟨B12, 1, none⟩ = some (.slice wrp wrs.length wrc)) (by kernel_rfl) (HS9.out WR.drew (bel_drewN (Below.refl _ _) 1)) (fun hHeld => ?_)
          refine take_val (i := 0) (.agg #[.slice (some ⟨I + 1, 0, none⟩) aks.length C2, .slice irp irs.length irc]) rfl (by kernel_rfl) (by kernel_rfl) (by kernel_rfl) (fun _ _ _ h => h) (by rfl) (fun w hSw => by go_simp) hHeld ?_
          simp only [Act.put, List.setIfInBounds_toArray, List.set_cons_zero, List.set_cons_succ]
          refine take_val (i := 1) (.agg #[.slice akp aks.length akc, .slice arp ars.length arc]) rfl (by kernel_rfl) (by kernel_rfl) (by kernel_rfl) (fun _ _ _ h => h) (by rfl) (fun w hSw => by go_simp) hHeld ?_
          simp only [Act.put, List.setIfInBounds_toArray, List.set_cons_zero, List.set_cons_succ]
          clear hHeld
          refine wpAnyH_ready (rs := [2]) (by kernel_rfl) (by simp) ?_
          refine AllReadyH.cons (at_drop0 rfl) (fun K hK => ?_) AllReadyH.nil
          rw [if_pos (by rfl)]
          go_simp
          refine (HQ1.out WR.drew (bel_drewN (Below.refl _ _) 1)).mono ?_
          rintro e z1 ⟨rfl, hz1⟩
          have HZ1 : Hid (Below WR.heap.size WR z1) := (bel_drewN (Below.refl WR.heap.size WR) 1).trans hz1
          clear hz1
          go_wp2_with fail
          refine hK.out _ _ ((HS9.out z1 HZ1.out)) (fun hHeld => ?_)
          clear hK K
          try simp only [Act.put, List.setIfInBounds_toArray, List.set_cons_zero, List.set_cons_succ]
          refine take_val (i := 3) (.bool true) rfl (by kernel_rfl) (by kernel_rfl) (by kernel_rfl) (fun _ _ _ h => h) (by rfl) (fun w hSw => by go_simp) hHeld ?_
          simp only [Act.put, List.setIfInBounds_toArray, List.set_cons_zero, List.set_cons_succ]
          refine take_val (i := 4) (.pointer (some ⟨I, 0, none⟩)) rfl (by kernel_rfl) (by kernel_rfl) (by kernel_rfl) (fun _ _ _ h => h) (by rfl) (fun w hSw => by go_simp) hHeld ?_
          simp only [Act.put, List.setIfInBounds_toArray, List.set_cons_zero, List.set_cons_succ]
          refine take_val (i := 5) (.slice (some ⟨I + 1, 0, none⟩) aks.length C2) rfl (by kernel_rfl) (by kernel_rfl) (by kernel_rfl) (fun _ _ _ h => h) (by rfl) (fun w hSw => by go_simp) hHeld ?_
          simp only [Act.put, List.setIfInBounds_toArray, List.set_cons_zero, List.set_cons_succ]
          refine take_val (i := 6) (.pointer (some ⟨M, 0, none⟩)) rfl (by kernel_rfl) (by kernel_rfl) (by kernel_rfl) (fun _ _ _ h => h) (by rfl) (fun w hSw => by go_simp) hHeld ?_
          simp only [Act.put, List.setIfInBounds_toArray, List.set_cons_zero, List.set_cons_succ]
          refine take_val (i := 7) (.slice akp aks.length akc) rfl (by kernel_rfl) (by kernel_rfl) (by kernel_rfl) (fun _ _ _ h => h) (by rfl) (fun w hSw => by go_simp) hHeld ?_
          simp only [Act.put, List.setIfInBounds_toArray, List.set_cons_zero, List.set_cons_succ]
          refine take_val (i := 8) (.int .i64 aks.length) rfl (by kernel_rfl) (by kernel_rfl) (by kernel_rfl) (fun _ _ _ h => h) (by rfl) (fun w hSw => by go_simp) hHeld ?_
          simp only [Act.put, List.setIfInBounds_toArray, List.set_cons_zero, List.set_cons_succ]
          obtain ⟨hn1, hn2⟩ := HNW1.out
          refine take_val (i := 9) (.int .i64 N1) rfl (by kernel_rfl) (by kernel_rfl) (by kernel_rfl) (fun _ _ _ h => h) (by rfl) (fun w hSw => by go_simp) hHeld ?_
          simp only [Act.put, List.setIfInBounds_toArray, List.set_cons_zero, List.set_cons_succ]
          clear hn1 hn2
          obtain ⟨j1, j2, j3, j4⟩ := HJ5.out
          refine take_val (i := 10) (.slice (some ⟨I + 1, 0, none⟩) N1 C2) rfl (by kernel_rfl) (by kernel_rfl) (by kernel_rfl) (fun _ _ _ h => h) (by rfl) (fun w hSw => by go_simp) hHeld ?_
          simp only [Act.put, List.setIfInBounds_toArray, List.set_cons_zero, List.set_cons_succ]
          refine take_val (i := 11) (.pointer (some ⟨M, 0, none⟩)) rfl (by kernel_rfl) (by kernel_rfl) (by kernel_rfl) (fun _ _ _ h => h) (by rfl) (fun w hSw => by go_simp) hHeld ?_
          simp only [Act.put, List.setIfInBounds_toArray, List.set_cons_zero, List.set_cons_succ]
          refine take_val (i := 12) (.slice akp aks.length akc) rfl (by kernel_rfl) (by kernel_rfl) (by kernel_rfl) (fun _ _ _ h => h) (by rfl) (fun w hSw => by go_simp) hHeld ?_
          simp only [Act.put, List.setIfInBounds_toArray, List.set_cons_zero, List.set_cons_succ]
          refine take_val (i := 13) (.int .i64 aks.length) rfl (by kernel_rfl) (by kernel_rfl) (by kernel_rfl) (fun _ _ _ h => h) (by rfl) (fun w hSw => by go_simp) hHeld ?_
          simp only [Act.put, List.setIfInBounds_toArray, List.set_cons_zero, List.set_cons_succ]
          refine take_val (i := 14) (.pointer (some ⟨I + 1, aks.length * 2, none⟩)) rfl (by kernel_rfl) (by kernel_rfl) (by kernel_rfl) (fun _ _ _ h => h) (by rfl) (fun w hSw => by go_simp) hHeld ?_
          simp only [Act.put, List.setIfInBounds_toArray, List.set_cons_zero, List.set_cons_succ]
          refine take_val (i := 15) (.pointer (some ⟨I + 1, aks.length * 2, none⟩)) rfl (by kernel_rfl) (by kernel_rfl) (by kernel_rfl) (fun _ _ _ h => h) (by rfl) (fun w hSw => by go_simp) hHeld ?_
          simp only [Act.put, List.setIfInBounds_toArray, List.set_cons_zero, List.set_cons_succ]
          refine take_val (i := 16) (.string ⟨#[109, 97, 114, 107]⟩) rfl (by kernel_rfl) (by kernel_rfl) (by kernel_rfl) (fun _ _ _ h => h) (by rfl) (fun w hSw => by go_simp) hHeld ?_
          simp only [Act.put, List.setIfInBounds_toArray, List.set_cons_zero, List.set_cons_succ]
          refine take_val (i := 17) (.bool true) rfl (by kernel_rfl) (by kernel_rfl) (by kernel_rfl) (fun _ _ _ h => h) (by rfl) (fun w hSw => by go_simp) hHeld ?_
          simp only [Act.put, List.setIfInBounds_toArray, List.set_cons_zero, List.set_cons_succ]
          refine take_val (i := 18) (.bool true) rfl (by kernel_rfl) (by kernel_rfl) (by kernel_rfl) (fun _ _ _ h => h) (by rfl) (fun w hSw => by go_simp) hHeld ?_
          simp only [Act.put, List.setIfInBounds_toArray, List.set_cons_zero, List.set_cons_succ]
          refine take_val (i := 19) (.bool true) rfl (by kernel_rfl) (by kernel_rfl) (by kernel_rfl) (fun _ _ _ h => h) (by rfl) (fun w hSw => by go_simp) hHeld ?_
          simp only [Act.put, List.setIfInBounds_toArray, List.set_cons_zero, List.set_cons_succ]
          refine take_val (i := 20) (.agg #[.slice vkp vks.length vkc, .slice vrp vrs.length vrc]) rfl (by kernel_rfl) (by kernel_rfl) (by kernel_rfl) (fun _ _ _ h => h) (by rfl) (fun w hSw => by go_simp) hHeld ?_
          simp only [Act.put, List.setIfInBounds_toArray, List.set_cons_zero, List.set_cons_succ]
          refine take_val (i := 21) (.agg #[.slice wkp wks.length wkc, .slice wrp wrs.length wrc]) rfl (by kernel_rfl) (by kernel_rfl) (by kernel_rfl) (fun _ _ _ h => h) (by rfl) (fun w hSw => by go_simp) hHeld ?_
          simp only [Act.put, List.setIfInBounds_toArray, List.set_cons_zero, List.set_cons_succ]
          clear hHeld j1 j2 j3 j4
          refine wpAnyH_ready (rs := [22]) (by kernel_rfl) (by simp) ?_
          refine AllReadyH.cons (at_drop0 rfl) (fun K hK => ?_) AllReadyH.nil
          rw [if_pos (by rfl)]
          go_simp
          refine (HQ2.out z1 HZ1.out).mono ?_
          rintro e z2 ⟨rfl, hz2⟩
          have HZ2 : Hid (Below WR.heap.size WR z2) := bel_then HZ1.out HZ1.out.size hz2
          clear hz2 HZ1
          go_wp2_with fail
          refine hK.out _ _ ((HS9.out z2 HZ2.out)) (fun hHeld => ?_)
          clear hK K
          try simp only [Act.put, List.setIfInBounds_toArray, List.set_cons_zero, List.set_cons_succ]
          refine take_val (i := 23) (.bool true) rfl (by kernel_rfl) (by kernel_rfl) (by kernel_rfl) (fun _ _ _ h => h) (by rfl) (fun w hSw => by go_simp) hHeld ?_
          simp only [Act.put, List.setIfInBounds_toArray, List.set_cons_zero, List.set_cons_succ]
          refine take_val (i := 24) (.bool true) rfl (by kernel_rfl) (by kernel_rfl) (by kernel_rfl) (fun _ _ _ h => h) (by rfl) (fun w hSw => by go_simp) hHeld ?_
          simp only [Act.put, List.setIfInBounds_toArray, List.set_cons_zero, List.set_cons_succ]
          refine wpAnyH_done (by kernel_rfl) ?_ _
          clear hHeld
          go_wp2_with fail
          go_ret
          exact ⟨rfl, (HIN.out z2 (HN7.out z2 (HL.out z2 HZ2.out).1).1).2.2.1⟩

end Go.Proofs.Ythdakljoabbghaa

/-
  The laws of stage 12: the chapter's examples, as data.
-/
namespace Go.Proofs.Ythdakljoabbghaa
open Go.RowKit

def gmA : ByteArray := ⟨#[65]⟩
def gma : Ky := (⟨#[65]⟩, ⟨#[97]⟩)
def gmt : Tm := (⟨#[110]⟩, 1, ⟨#[120]⟩)
def gmX : List Fld := [(⟨#[110]⟩, [⟨#[120]⟩])]
def gmY : List Fld := [(⟨#[110]⟩, [⟨#[121]⟩])]
def gmR : Rg := (⟨#[65]⟩, [gmt])
def gmC : Ch := ⟨gma, true, gmX, true, gmY⟩
def gmD : Ch := ⟨gma, false, [], true, gmY⟩
def gmM : Mk := ([gma], [gmR])
theorem gm_tc : touchesM gmR gmC = true := by decide +kernel
theorem gm_td : touchesM gmR gmD = false := by decide +kernel
theorem gm_key : keyM ([], []) gma = ([gma], []) := by rfl
theorem gm_range : rangeM ([gma], []) gmR = gmM := by rfl
theorem gm_hits : hitsM gmM [gmD] = true := by decide
theorem gm_hitc : hitM gmM gmC = true := by decide
theorem gm_which : whichM gmM [gmC] = [gma] := by
  unfold whichM
  rw [List.foldl_cons, if_pos gm_hitc]
  rfl
theorem gm_union : unionM gmM gmM = gmM := by
  have h1 : gmM.1.foldl (fun acc k => insR ltKy k acc) (sortK gmM.1) = gmM.1 := by
    refine rising_uniqR totK (inss_spec _ _ (sortK_spec _).1).1 (List.pairwise_singleton _ _) fun z => ?_
    rw [(inss_spec _ _ (sortK_spec _).1).2, (sortK_spec _).2]
    simp
  have h2 : gmM.2.foldl putR (gmM.2.foldl putR []) = gmM.2 := by
    show putR (putR [] gmR) gmR = [gmR]
    have e : putR [] gmR = [gmR] := rfl
    rw [e]
    unfold putR
    rw [if_pos (by simp)]
  unfold unionM
  rw [h1, h2]
theorem gm_ne : decide (gmM = (([], []) : Mk)) = false := decide_eq_false fun h => by
  have := congrArg (fun m : Mk => m.1.length) h
  simp [gmM] at this
theorem gm_fit : FitKy12 gma := ⟨by decide, by decide⟩

end Go.Proofs.Ythdakljoabbghaa

/-
  The laws of stage 12: the chapter's examples, walked.
-/
namespace Go.Proofs.Ythdakljoabbghaa
open Go.RowKit

/-- The field n with one text, as it lies. -/
def gmF (t : ByteArray) (b : Nat) : List Fx := [⟨⟨#[110]⟩, some ⟨b, 0, none⟩, 1, [t]⟩]
theorem gmf_is {W : World} {t : ByteArray} {b c : Nat} (h1 : W.heap[c]? = some (.cells #[.string ⟨#[110]⟩, .slice (some ⟨b, 0, none⟩) 1 1] 64 (0, 0))) (h2 : W.heap[b]? = some (.cells #[.string t] 9 (0, 0))) : IsXs W (.slice (some ⟨c, 0, none⟩) 1 1) (gmF t b) := by
  refine ⟨_, _, rfl, Or.inr ⟨_, _, rfl, fun i hi => ?_⟩, fun x hx => ?_⟩
  · have hi' : i = 0 := by simpa [gmF] using hi
    subst hi'
    exact ⟨by rw [Lib.cell_of_heap h1]; rfl, by rw [Lib.cell_of_heap h1]; rfl⟩
  · rw [gmF, List.mem_singleton] at hx
    subst hx
    refine Or.inr ⟨_, _, rfl, fun i hi => ?_⟩
    have hi' : i = 0 := by simpa using hi
    subst hi'
    rw [Lib.cell_of_heap h2]; rfl
theorem gmf_cp (t : ByteArray) (b : Nat) : CopyX (gmF t b) := by
  refine ⟨by simp [gmF], fun x hx => ?_⟩
  rw [gmF, List.mem_singleton] at hx
  subst hx
  show 1 * 16 ≤ _
  omega
theorem copyX_nil : CopyX [] := ⟨by simp, fun x hx => by cases hx⟩
theorem gmf_fit (t : ByteArray) (b : Nat) (h : t.size ≤ 1) : FitX (gmF t b) := by
  refine ⟨by unfold maxLen; simp [gmF], fun x hx => ?_⟩
  rw [gmF, List.mem_singleton] at hx
  subst hx
  refine ⟨show (⟨#[110]⟩ : ByteArray).size ≤ maxLen by decide, show [t].length ≤ maxLen by unfold maxLen; simp, fun t' ht => ?_⟩
  have e : t' = t := by simpa [Fx.fld] using ht
  subst e
  unfold maxLen
  omega

/-- The nine blocks that are laid first. -/
def gmBlocks (N : Nat) : List (Array Value × TypeId) := [
  (#[.string ⟨#[120]⟩], 9), (#[.string ⟨#[110]⟩, .slice (some ⟨N, 0, none⟩) 1 1], 64),
  (#[.string ⟨#[121]⟩], 9), (#[.string ⟨#[110]⟩, .slice (some ⟨N + 2, 0, none⟩) 1 1], 64),
  (#[.string ⟨#[65]⟩, .string ⟨#[97]⟩], 27),
  (#[.string ⟨#[110]⟩, .int .i64 1, .string ⟨#[120]⟩], 58), (#[.string ⟨#[65]⟩, .slice (some ⟨N + 5, 0, none⟩) 1 1], 34),
  (#[.string ⟨#[65]⟩, .string ⟨#[97]⟩, .bool true, .slice (some ⟨N + 1, 0, none⟩) 1 1, .bool true, .slice (some ⟨N + 3, 0, none⟩) 1 1], 43),
  (#[.string ⟨#[65]⟩, .string ⟨#[97]⟩, .bool false, .slice none 0 0, .bool true, .slice (some ⟨N + 3, 0, none⟩) 1 1], 43)]
/-- Blocks laid one behind the other. -/
def laidB (w : World) (l : List (Array Value × TypeId)) : World := l.foldl (fun w x => w.alloc (.cells x.1 x.2)) w
theorem laidB_spec : ∀ (l : List (Array Value × TypeId)) (w : World), Below w.heap.size w (laidB w l) ∧ (laidB w l).heap.size = w.heap.size + l.length ∧ ∀ i (h : i < l.length), (laidB w l).heap[w.heap.size + i]? = some (.cells (l[i]).1 (l[i]).2 (0, 0))
  | [], w => ⟨Below.refl _ _, rfl, fun i h => by simp at h⟩
  | x :: r, w => by
    obtain ⟨h1, h2, h3⟩ := laidB_spec r (w.alloc (.cells x.1 x.2))
    have hs : (w.alloc (.cells x.1 x.2)).heap.size = w.heap.size + 1 := by simp
    have hb : Below w.heap.size w (w.alloc (.cells x.1 x.2)) := (Below.refl _ _).alloc (Nat.le_refl _) _
    have e : laidB w (x :: r) = laidB (w.alloc (.cells x.1 x.2)) r := rfl
    rw [e]
    refine ⟨bel_then hb (by omega) h1, by rw [h2, hs, List.length_cons]; omega, fun i h => ?_⟩
    cases i with
    | zero =>
      rw [Nat.add_zero, h1.block _ (by omega)]
      exact heap_alloc_new w _
    | succ i =>
      have := h3 i (by simpa using h)
      rw [hs] at this
      rw [show w.heap.size + (i + 1) = w.heap.size + 1 + i by omega]
      exact this

/-- The state between the calls of 'm := marks.Range(marks.Key(..), ..)'. -/
def GmSt (V : World) (k : Nat) (fl : List Bool) (v27 v30 v7 : Value) (w : World) : Prop := ∃ (B : Nat) (m1 m : Mx), Below V.heap.size V w ∧ (k = 3 → fl = [true]) ∧
  (fl = [true] → v7 = .pointer (some ⟨B, 0, none⟩) ∧ V.heap.size ≤ B ∧ w.heap[B]? = some (.cells (if k = 3 then (encMx m).toArray else #[.slice none 0 0, .slice none 0 0]) 25 (0, 0))) ∧
  (1 ≤ k → v27 = .agg (encMx m1).toArray ∧ m1.mk' = ([gma], []) ∧ ∀ w', Fr (fun b => fl = [true] ∧ b = B) w w' → MIn w' m1) ∧
  (2 ≤ k → v30 = .agg (encMx m).toArray ∧ m.mk' = gmM ∧ ∀ w', Fr (fun b => fl = [true] ∧ b = B) w w' → MIn w' m)

theorem gmSt_start {V w : World} (v27 v30 v7 : Value) (h : Below V.heap.size V w) : GmSt V 0 [false] v27 v30 v7 w :=
  ⟨0, default, default, h, (fun h => by omega), (fun h => by cases h), (fun h => by omega), (fun h => by omega)⟩
theorem gmSt_key {V w w2 : World} {fl : List Bool} {v27 v30 v7 : Value} {m2 : Mx} (h : GmSt V 0 fl v27 v30 v7 w) (ho : MOwn w.heap.size w2 m2) (hk : m2.mk' = ([gma], [])) (hb2 : Below w.heap.size w w2) : GmSt V 1 fl (.agg (encMx m2).toArray) v30 v7 w2 := by
  obtain ⟨B, m1, m, hb, hg3, hbox, hm1, hm⟩ := h
  exact ⟨B, m2, m, bel_then hb hb.size hb2, (fun h => by omega), (fun h => by
    obtain ⟨h1, h2, h3⟩ := hbox h
    exact ⟨h1, h2, (hb2.block B (Array.getElem?_eq_some_iff.1 h3).1).trans h3⟩), (fun _ => ⟨rfl, hk, fun w3 f => (ho.fr f fun k hk => by
      obtain ⟨h, rfl⟩ := hk
      exact (Array.getElem?_eq_some_iff.1 (hbox h).2.2).1).inn⟩), (fun h => by omega)⟩
theorem gmSt_range {V w w2 : World} {fl : List Bool} {v27 v30 v7 : Value} {m2 : Mx} (h : GmSt V 1 fl v27 v30 v7 w) (ho : MOwn w.heap.size w2 m2) (hk : m2.mk' = gmM) (hb2 : Below w.heap.size w w2) : GmSt V 2 fl v27 (.agg (encMx m2).toArray) v7 w2 := by
  obtain ⟨B, m1, m, hb, hg3, hbox, hm1, hm⟩ := h
  exact ⟨B, m1, m2, bel_then hb hb.size hb2, (fun h => by omega), (fun h => by
    obtain ⟨h1, h2, h3⟩ := hbox h
    exact ⟨h1, h2, (hb2.block B (Array.getElem?_eq_some_iff.1 h3).1).trans h3⟩), (fun _ => by
    obtain ⟨h1, h2, h3⟩ := hm1 (Nat.le_refl _)
    exact ⟨h1, h2, fun w3 f => h3 w3 ((Fr.of_below hb2).then f fun k hk => Or.inl hk)⟩), (fun _ => ⟨rfl, hk, fun w3 f => (ho.fr f fun k hk => by
      obtain ⟨h, rfl⟩ := hk
      exact (Array.getElem?_eq_some_iff.1 (hbox h).2.2).1).inn⟩)⟩
theorem gmSt_alloc {V w : World} {k : Nat} {v27 v30 v7 : Value} (h : GmSt V k [false] v27 v30 v7 w) (hk3 : k ≤ 3) : GmSt V k [true] v27 v30 (.pointer (some ⟨w.heap.size, 0, none⟩)) (w.alloc (.cells #[.slice none 0 0, .slice none 0 0] 25)) := by
  obtain ⟨B, m1, m, hb, hg3, hbox, hm1, hm⟩ := h
  have hk : k ≤ 2 := by
    rcases Nat.lt_or_ge k 3 with h | h
    · omega
    · have := hg3 (by omega)
      cases this
  have hal : Below w.heap.size w (w.alloc (.cells #[.slice none 0 0, .slice none 0 0] 25)) := (Below.refl _ _).alloc (Nat.le_refl _) _
  have hfr : ∀ w', Fr (fun b => [true] = [true] ∧ b = w.heap.size) (w.alloc (.cells #[.slice none 0 0, .slice none 0 0] 25)) w' → Fr (fun b => [false] = [true] ∧ b = B) w w' := fun w' f => (Fr.of_below hal).then f fun k hk => Or.inr (Nat.le_of_eq hk.2.symm)
  refine ⟨w.heap.size, m1, m, bel_then hb hb.size hal, (fun _ => rfl), (fun _ => ⟨rfl, hb.size, ?_⟩), (fun h => ?_), (fun h => ?_)⟩
  · rw [if_neg (by omega)]
    exact heap_alloc_new w _
  · obtain ⟨h1, h2, h3⟩ := hm1 h
    exact ⟨h1, h2, fun w3 f => h3 w3 (hfr w3 f)⟩
  · obtain ⟨h1, h2, h3⟩ := hm h
    exact ⟨h1, h2, fun w3 f => h3 w3 (hfr w3 f)⟩
/-- A row of one change in a block of its own. -/
theorem one_at {W : World} {Z : Nat} {c : Cx} (h : W.heap[Z]? = some (.cells (encCx c).toArray 43 (0, 0))) : KCx.At W Z 0 [c] := fun i hi j u hu => by
  have hi' : i = 0 := by simpa using hi
  subst hi'
  have hj : j < 6 := (List.getElem?_eq_some_iff.1 hu).1
  rw [Lib.cell_of_heap h]
  rcases j with _ | _ | _ | _ | _ | _ | j
  all_goals first | exact hu | omega
/-- What lies behind the region: the marks in a box. -/
structure GmEnd (V : World) (B : Nat) (m : Mx) (w : World) : Prop where
  bel : Below V.heap.size V w
  low : V.heap.size ≤ B
  box : w.heap[B]? = some (.cells (encMx m).toArray 25 (0, 0))
  is : m.mk' = gmM
  inn : MIn w m
theorem gmSt_store {V w : World} {v27 v30 v7 : Value} (h : GmSt V 2 [true] v27 v30 v7 w) : ∃ B m, v7 = .pointer (some ⟨B, 0, none⟩) ∧ v30 = .agg (encMx m).toArray ∧ (w.cell? ⟨B, 0, none⟩ = some (.slice none 0 0) ∧ w.cell? ⟨B, 1, none⟩ = some (.slice none 0 0) ∧ w.frozen? ⟨B, 0, none⟩ = false ∧ w.frozen? ⟨B, 1, none⟩ = false) ∧ GmSt V 3 [true] v27 v30 v7 ((w.setCell ⟨B, 0, none⟩ m.ksl).setCell ⟨B, 1, none⟩ m.rsl) := by
  obtain ⟨B, m1, m, hb, hg3, hbox, hm1, hm⟩ := h
  obtain ⟨h1, h2, h3⟩ := hbox rfl
  rw [if_neg (by omega)] at h3
  obtain ⟨h4, h5, h6⟩ := hm (Nat.le_refl _)
  refine ⟨B, m, h1, h4, ⟨by rw [Lib.cell_of_heap h3]; rfl, by rw [Lib.cell_of_heap h3]; rfl, Lib.frozen_of_heap h3 0, Lib.frozen_of_heap h3 1⟩, ?_⟩
  have hlt := (Array.getElem?_eq_some_iff.1 h3).1
  have e1 : (w.setCell ⟨B, 0, none⟩ m.ksl).heap[B]? = some (.cells #[m.ksl, .slice none 0 0] 25 (0, 0)) := heap_setCell_same w B 0 _ _ _ h3
  have e2 : ((w.setCell ⟨B, 0, none⟩ m.ksl).setCell ⟨B, 1, none⟩ m.rsl).heap[B]? = some (.cells #[m.ksl, m.rsl] 25 (0, 0)) := heap_setCell_same _ B 1 _ _ _ e1
  have hfr : Fr (fun b => [true] = [true] ∧ b = B) w ((w.setCell ⟨B, 0, none⟩ m.ksl).setCell ⟨B, 1, none⟩ m.rsl) := ⟨rfl, rfl, rfl, by simp, fun k _ hn => by
    rw [heap_setCell_other _ _ k _ (fun e => hn ⟨rfl, e⟩), heap_setCell_other _ _ k _ (fun e => hn ⟨rfl, e⟩)]⟩
  refine ⟨B, m1, m, hb.trans (hfr.below (by have := hb.size; omega) fun k hk => by have := hk.2; omega), (fun _ => rfl), (fun _ => ⟨h1, h2, ?_⟩), (fun _ => ?_), (fun _ => ⟨h4, h5, fun w3 f => h6 w3 (hfr.then f fun k hk => Or.inl hk)⟩)⟩
  · rw [if_pos rfl]
    exact e2
  · obtain ⟨h7, h8, h9⟩ := hm1 (by omega)
    exact ⟨h7, h8, fun w3 f => h9 w3 (hfr.then f fun k hk => Or.inl hk)⟩
theorem gmSt_end {V w : World} {v27 v30 v7 : Value} (h : GmSt V 3 [true] v27 v30 v7 w) : ∃ B m, v7 = .pointer (some ⟨B, 0, none⟩) ∧ GmEnd V B m w := by
  obtain ⟨B, m1, m, hb, hg3, hbox, hm1, hm⟩ := h
  obtain ⟨h1, h2, h3⟩ := hbox rfl
  obtain ⟨h4, h5, h6⟩ := hm (by omega)
  rw [if_pos rfl] at h3
  exact ⟨B, m, h1, hb, h2, h3, h5, h6 w (Fr.refl _ _)⟩

set_option linter.unusedSimpArgs false in
set_option maxHeartbeats 8000000 in
set_option maxRecDepth 100000 in
theorem fixed12_any (S : MarksApi) : Fixed12 := by
  intro w
  obtain ⟨N, hN⟩ : ∃ N, w.heap.size = N := ⟨_, rfl⟩
  obtain ⟨V, hV⟩ : ∃ V, laidB w (gmBlocks N) = V := ⟨_, rfl⟩
  obtain ⟨hbV, hsV, hcV⟩ := laidB_spec (gmBlocks N) w
  rw [hV] at hbV hsV hcV
  rw [hN] at hsV hcV
  have hsV' : V.heap.size = N + 9 := hsV
  have HBL : Hid (∀ W', Below V.heap.size V W' → ∀ i (h : i < 9), W'.heap[N + i]? = some (.cells ((gmBlocks N)[i]'h).1 ((gmBlocks N)[i]'h).2 (0, 0))) := fun W' hW i h => (hW.block _ (by omega)).trans (hcV i h)
  have hV' : ((((((((w.alloc (.cells #[.string ⟨#[120]⟩] 9)).alloc (.cells #[.string ⟨#[110]⟩, .slice (some ⟨N, 0, none⟩) 1 1] 64)).alloc (.cells #[.string ⟨#[121]⟩] 9)).alloc (.cells #[.string ⟨#[110]⟩, .slice (some ⟨N + 2, 0, none⟩) 1 1] 64)).alloc (.cells #[.string ⟨#[65]⟩, .string ⟨#[97]⟩] 27)).alloc (.cells #[.string ⟨#[110]⟩, .int .i64 1, .string ⟨#[120]⟩] 58)).alloc (.cells #[.string ⟨#[65]⟩, .slice (some ⟨N + 5, 0, none⟩) 1 1] 34)).alloc (.cells #[.string ⟨#[65]⟩, .string ⟨#[97]⟩, .bool true, .slice (some ⟨N + 1, 0, none⟩) 1 1, .bool true, .slice (some ⟨N + 3, 0, none⟩) 1 1] 43)).alloc (.cells #[.string ⟨#[65]⟩, .string ⟨#[97]⟩, .bool false, .slice none 0 0, .bool true, .slice (some ⟨N + 3, 0, none⟩) 1 1] 43) = V := hV
  clear hV hcV hsV
  go_enter Try.func9, Try.ntmps9
  go_upto_region 6 with fail
  simp only [Nat.add_assoc, Nat.reduceAdd]
  try rw [hV']
  clear hV'
  have HS6 : Hid (∀ W', Below V.heap.size V W' → W'.cell? ⟨N + 4, 0, none⟩ = some (.string ⟨#[65]⟩) ∧ W'.cell? ⟨N + 4, 1, none⟩ = some (.string ⟨#[97]⟩) ∧ W'.cell? ⟨N + 6, 0, none⟩ = some (.string ⟨#[65]⟩) ∧ W'.cell? ⟨N + 6, 1, none⟩ = some (.slice (some ⟨N + 5, 0, none⟩) 1 1)) := fun W' hW => by
    have e4 := HBL.out W' hW 4 (by omega)
    have e6 := HBL.out W' hW 6 (by omega)
    exact ⟨by rw [Lib.cell_of_heap e4]; rfl, by rw [Lib.cell_of_heap e4]; rfl, by rw [Lib.cell_of_heap e6]; rfl, by rw [Lib.cell_of_heap e6]; rfl⟩
  have HRG : Hid (∀ W', Below V.heap.size V W' → (⟨⟨#[65]⟩, some ⟨N + 5, 0, none⟩, 1, [gmt]⟩ : Rx).at W') := fun W' hW => by
    have e5 := HBL.out W' hW 5 (by omega)
    refine ⟨⟨_, _, rfl, Or.inr ⟨_, _, rfl, fun i hi j u hu => ?_⟩⟩, ⟨⟨by unfold maxLen; simp, fun x hx => ?_⟩, by simp⟩⟩
    · have hi' : i = 0 := by simpa using hi
      subst hi'
      have hj : j < 3 := (List.getElem?_eq_some_iff.1 hu).1
      rw [Lib.cell_of_heap e5]
      rcases j with _ | _ | _ | j
      all_goals first | exact hu | omega
    · obtain rfl : x = gmt := by simpa using hx
      exact ⟨by decide, by decide, by decide, by decide⟩
  refine wp_region_held_drew (S := fun w' => w'.cell? ⟨N + 4, 0, none⟩ = some (.string ⟨#[65]⟩) ∧ w'.cell? ⟨N + 4, 1, none⟩ = some (.string ⟨#[97]⟩) ∧ w'.cell? ⟨N + 6, 0, none⟩ = some (.string ⟨#[65]⟩) ∧ w'.cell? ⟨N + 6, 1, none⟩ = some (.slice (some ⟨N + 5, 0, none⟩) 1 1)) (by kernel_rfl) (HS6.out V.drew (bel_drewN (Below.refl _ _) 1)) (fun hHeld => ?_)
  refine take_val (i := 0) (.agg #[.slice none 0 0, .slice none 0 0]) rfl (by kernel_rfl) (by kernel_rfl) (by kernel_rfl) (fun _ _ _ h => h) (by rfl) (fun w hSw => by go_simp) hHeld ?_
  simp only [Act.put, List.setIfInBounds_toArray, List.set_cons_zero, List.set_cons_succ]
  refine take_val (i := 1) (.agg #[.string ⟨#[65]⟩, .string ⟨#[97]⟩]) rfl (by kernel_rfl) (by kernel_rfl) (by kernel_rfl) (fun _ _ _ h => h) (by rfl) (fun w hSw => by go_simp) hHeld ?_
  simp only [Act.put, List.setIfInBounds_toArray, List.set_cons_zero, List.set_cons_succ]
  refine take_val (i := 3) (.pointer (some ⟨N + 6, 1, none⟩)) rfl (by kernel_rfl) (by kernel_rfl) (by kernel_rfl) (fun _ _ _ h => h) (by rfl) (fun w hSw => by go_simp) hHeld ?_
  simp only [Act.put, List.setIfInBounds_toArray, List.set_cons_zero, List.set_cons_succ]
  refine take_val (i := 4) (.slice (some ⟨N + 5, 0, none⟩) 1 1) rfl (by kernel_rfl) (by kernel_rfl) (by kernel_rfl) (fun _ _ _ h => h) (by rfl) (fun w hSw => by go_simp) hHeld ?_
  simp only [Act.put, List.setIfInBounds_toArray, List.set_cons_zero, List.set_cons_succ]
  clear hHeld
  refine wpAnyH_floats [2, 5, 7] [6] (fun a0 k fl a w' => ∃ v27 v30 v7, a = putS a0 [(27, v27), (30, v30), (7, v7)] ∧ GmSt V k fl v27 v30 v7 w') (by kernel_rfl) (by decide) ⟨_, _, _, (putS_self _ [27, 30, 7]).symm, gmSt_start _ _ _ (bel_drewN (Below.refl _ _) 1)⟩ ?hS ?hmain ?halloc ?hend
  case hS =>
    rintro k fl a w' ⟨v27, v30, v7, _, B, m1, m, hb, _⟩
    exact HS6.out w' hb
  case hmain =>
    rintro k i fl a w' hk hfl hrd ⟨v27, v30, v7, rfl, hst⟩
    rcases k with _ | _ | _ | k
    · obtain rfl : i = 2 := by simpa using hk.symm
      have HK := hid (S.key w' ⟨none, 0, [], none, 0, []⟩ gma ⟨KK.is_nil w', KRx.is_nil w', fun r hr => by cases hr⟩ ⟨by decide, by decide⟩ gm_fit (fun x hx => by cases hx))
      simp only [encMx, Mx.ksl, Mx.rsl, gma, List.length_nil] at HK
      have HST := hid hst
      clear hrd hst
      refine ⟨_, at_drop0 rfl, fun K hK => ?_⟩
      simp only [putS, List.foldl_cons, List.foldl_nil, Act.put, List.setIfInBounds_toArray, List.set_cons_zero, List.set_cons_succ]
      rw [if_pos (by rfl)]
      go_simp
      refine HK.out.mono ?_
      rintro e w2 ⟨m2, rfl, ho2, hk2, hb2⟩
      have HST2 := hid (gmSt_key HST.out ho2 hk2 hb2)
      clear hk2 ho2 hb2 HST
      go_wp2_with fail
      exact hK.out _ _ ⟨_, v30, v7, rfl, HST2.out⟩
    · obtain rfl : i = 5 := by simpa using hk.symm
      obtain ⟨B, m1, m, hb, _, hbox, hm1, hm⟩ := id hst
      obtain ⟨e1, e2, e3⟩ := hm1 (Nat.le_refl _)
      have e4 : m1.ks = [gma] := congrArg Prod.fst e2
      have e5 : m1.rs = [] := List.map_eq_nil_iff.1 (congrArg Prod.snd e2)
      have HK := hid (S.range w' m1 ⟨⟨#[65]⟩, some ⟨N + 5, 0, none⟩, 1, [gmt]⟩ (e3 w' (Fr.refl _ _)) ⟨by rw [e4]; decide, by rw [e5]; decide⟩ (HRG.out w' hb))
      rw [e2] at HK
      have HST := hid hst
      subst e1
      clear hrd hst hbox hm1 hm e2 e3
      obtain ⟨kp, kc, ks, rp, rc, rs⟩ := m1
      simp only at e4 e5
      subst e4 e5
      simp only [encMx, Mx.ksl, Mx.rsl, Rx.sl, List.length_cons, List.length_nil, Nat.zero_add] at HK HST
      refine ⟨_, at_drop0 rfl, fun K hK => ?_⟩
      simp only [encMx, Mx.ksl, Mx.rsl, List.length_cons, List.length_nil, Nat.zero_add, putS, List.foldl_cons, List.foldl_nil, Act.put, List.setIfInBounds_toArray, List.set_cons_zero, List.set_cons_succ]
      rw [if_pos (by rfl)]
      go_simp
      refine HK.out.mono ?_
      rintro e w2 ⟨m2, rfl, ho2, hk2, hb2⟩
      have HST2 := hid (gmSt_range HST.out ho2 hk2 hb2)
      clear hk2 ho2 hb2 HST
      go_wp2_with fail
      exact hK.out _ _ ⟨_, _, v7, rfl, HST2.out⟩
    · obtain rfl : i = 7 := by simpa using hk.symm
      obtain ⟨b, rfl⟩ : ∃ b, fl = [b] := by
        match fl, hfl with
        | [b], _ => exact ⟨b, rfl⟩
      cases b with
      | false => exact (not_ready hrd (by kernel_rfl)).elim
      | true =>
        obtain ⟨B, m, rfl, rfl, ⟨c0, c1, z0, z1⟩, hst2⟩ := gmSt_store hst
        have HST2 := hid hst2
        clear hrd hst hst2
        obtain ⟨kp, kc, ks, rp, rc, rs⟩ := m
        simp only [encMx, Mx.ksl, Mx.rsl] at HST2
        refine ⟨_, at_drop0 rfl, fun K hK => ?_⟩
        simp only [encMx, Mx.ksl, Mx.rsl, putS, List.foldl_cons, List.foldl_nil, Act.put, List.setIfInBounds_toArray, List.set_cons_zero, List.set_cons_succ]
        rw [if_pos (by rfl)]
        go_simp
        go_wp2_with fail
        exact hK.out _ _ ⟨v27, _, _, rfl, HST2.out⟩
    · simp at hk
  case halloc =>
    rintro j i k fl a w' hj hk hfl hf ⟨v27, v30, v7, rfl, hst⟩
    obtain ⟨b, rfl⟩ : ∃ b, fl = [b] := by
      match fl, hfl with
      | [b], _ => exact ⟨b, rfl⟩
    rcases j with _ | j
    · obtain rfl : i = 6 := by simpa using hj.symm
      obtain rfl : b = false := by simpa using hf
      have HST2 := hid (gmSt_alloc hst hk)
      clear hst hf hj hk
      refine ⟨_, at_drop0 rfl, fun K hK => ?_⟩
      simp only [putS, List.foldl_cons, List.foldl_nil, Act.put, List.setIfInBounds_toArray, List.set_cons_zero, List.set_cons_succ]
      rw [if_pos (by rfl)]
      go_simp
      go_wp2_with fail
      exact hK.out _ _ ⟨v27, v30, _, rfl, HST2.out⟩
    · simp at hj
  case hend =>
    rintro a w' ⟨v27, v30, v7, rfl, hst⟩
    obtain ⟨B, m, rfl, hE⟩ := gmSt_end hst
    clear hst
    simp only [putS, List.foldl_cons, List.foldl_nil, Act.put, List.setIfInBounds_toArray, List.set_cons_zero, List.set_cons_succ]
    obtain ⟨kp, kc, ks, rp, rc, rs⟩ := m
    obtain rfl : ks = [gma] := congrArg Prod.fst hE.is
    obtain ⟨r1, rfl⟩ : ∃ r1, rs = [r1] := by
      have := congrArg (fun x : Mk => x.2.length) hE.is
      simp only [Mx.mk', List.length_map] at this
      match rs, this with
      | [r1], _ => exact ⟨r1, rfl⟩
    have HE := hid hE
    have hlB : B < w'.heap.size := (Array.getElem?_eq_some_iff.1 hE.box).1
    have HIN : Hid (∀ W', Below w'.heap.size w' W' → (W'.cell? ⟨N + 6, 0, none⟩ = some (.string ⟨#[65]⟩) ∧ W'.cell? ⟨N + 6, 1, none⟩ = some (.slice (some ⟨N + 5, 0, none⟩) 1 1) ∧ W'.cell? ⟨N + 7, 0, none⟩ = some (.string ⟨#[65]⟩) ∧ W'.cell? ⟨N + 7, 1, none⟩ = some (.string ⟨#[97]⟩) ∧ W'.cell? ⟨N + 7, 2, none⟩ = some (.bool true) ∧ W'.cell? ⟨N + 7, 3, none⟩ = some (.slice (some ⟨N + 1, 0, none⟩) 1 1) ∧ W'.cell? ⟨N + 7, 4, none⟩ = some (.bool true) ∧ W'.cell? ⟨N + 7, 5, none⟩ = some (.slice (some ⟨N + 3, 0, none⟩) 1 1) ∧ W'.cell? ⟨N + 8, 0, none⟩ = some (.string ⟨#[65]⟩) ∧ W'.cell? ⟨N + 8, 1, none⟩ = some (.string ⟨#[97]⟩) ∧ W'.cell? ⟨N + 8, 2, none⟩ = some (.bool false) ∧ W'.cell? ⟨N + 8, 3, none⟩ = some (.slice none 0 0) ∧ W'.cell? ⟨N + 8, 4, none⟩ = some (.bool true) ∧ W'.cell? ⟨N + 8, 5, none⟩ = some (.slice (some ⟨N + 3, 0, none⟩) 1 1) ∧ W'.cell? ⟨B, 0, none⟩ = some (.slice kp 1 kc) ∧ W'.cell? ⟨B, 1, none⟩ = some (.slice rp 1 rc)) ∧ MIn W' ⟨kp, kc, [gma], rp, rc, [r1]⟩ ∧ Below V.heap.size V W') := fun W' hW => by
      have hVW : Below V.heap.size V W' := bel_then HE.out.bel HE.out.bel.size hW
      have e6 := HBL.out W' hVW 6 (by omega)
      have e7 := HBL.out W' hVW 7 (by omega)
      have e8 := HBL.out W' hVW 8 (by omega)
      have eB := (hW.block B hlB).trans HE.out.box
      refine ⟨⟨?_, ?_, ?_, ?_, ?_, ?_, ?_, ?_, ?_, ?_, ?_, ?_, ?_, ?_, ?_, ?_⟩, HE.out.inn.on hW, hVW⟩
      · rw [Lib.cell_of_heap e6]; rfl
      · rw [Lib.cell_of_heap e6]; rfl
      iterate 6 (· rw [Lib.cell_of_heap e7]; rfl)
      iterate 6 (· rw [Lib.cell_of_heap e8]; rfl)
      · rw [Lib.cell_of_heap eB]; rfl
      · rw [Lib.cell_of_heap eB]; rfl
    have HC : Hid (∀ W', Below V.heap.size V W' → CIn W' ⟨⟨#[65]⟩, ⟨#[97]⟩, true, some ⟨N + 1, 0, none⟩, 1, gmF ⟨#[120]⟩ N, true, some ⟨N + 3, 0, none⟩, 1, gmF ⟨#[121]⟩ (N + 2)⟩) := fun W' hW =>
      ⟨gmf_is (HBL.out W' hW 1 (by omega)) (HBL.out W' hW 0 (by omega)), gmf_fit _ _ (by decide), gmf_is (HBL.out W' hW 3 (by omega)) (HBL.out W' hW 2 (by omega)), gmf_fit _ _ (by decide), gmf_cp _ _, gmf_cp _ _⟩
    have HD : Hid (∀ W', Below V.heap.size V W' → CIn W' ⟨⟨#[65]⟩, ⟨#[97]⟩, false, none, 0, [], true, some ⟨N + 3, 0, none⟩, 1, gmF ⟨#[121]⟩ (N + 2)⟩) := fun W' hW =>
      ⟨⟨_, _, rfl, Or.inl rfl, fun x hx => by cases hx⟩, ⟨by unfold maxLen; simp, fun x hx => by cases hx⟩, gmf_is (HBL.out W' hW 3 (by omega)) (HBL.out W' hW 2 (by omega)), gmf_fit _ _ (by decide), copyX_nil, gmf_cp _ _⟩
    have HTC : Hid (∀ W', Below w'.heap.size w' W' → Calls Try.prog 23 #[.agg #[.string ⟨#[65]⟩, .slice (some ⟨N + 5, 0, none⟩) 1 1], .agg #[.string ⟨#[65]⟩, .string ⟨#[97]⟩, .bool true, .slice (some ⟨N + 1, 0, none⟩) 1 1, .bool true, .slice (some ⟨N + 3, 0, none⟩) 1 1]] W' fun e w' => BoolPost W' true e w') := fun W' hW => by
      have := S.touches W' _ _ (HRG.out W' (HIN.out W' hW).2.2) (HC.out W' (HIN.out W' hW).2.2)
      refine this.mono fun e x h => ?_
      have h' : e = .returned (.bool (touchesM gmR gmC)) ∧ Below W'.heap.size W' x := h
      rw [gm_tc] at h'
      exact h'
    have HTD : Hid (∀ W', Below w'.heap.size w' W' → Calls Try.prog 23 #[.agg #[.string ⟨#[65]⟩, .slice (some ⟨N + 5, 0, none⟩) 1 1], .agg #[.string ⟨#[65]⟩, .string ⟨#[97]⟩, .bool false, .slice none 0 0, .bool true, .slice (some ⟨N + 3, 0, none⟩) 1 1]] W' fun e w' => BoolPost W' false e w') := fun W' hW => by
      have := S.touches W' _ _ (HRG.out W' (HIN.out W' hW).2.2) (HD.out W' (HIN.out W' hW).2.2)
      refine this.mono fun e x h => ?_
      have h' : e = .returned (.bool (touchesM gmR gmD)) ∧ Below W'.heap.size W' x := h
      rw [gm_td] at h'
      exact h'
    have hfew : FewM ⟨kp, kc, [gma], rp, rc, [r1]⟩ := ⟨by show 1 < _; decide, by show 1 < _; decide⟩
    have HHI : Hid (∀ W' Z, Below w'.heap.size w' W' → W'.heap[Z]? = some (.cells #[.string ⟨#[65]⟩, .string ⟨#[97]⟩, .bool false, .slice none 0 0, .bool true, .slice (some ⟨N + 3, 0, none⟩) 1 1] 43 (0, 0)) → Calls Try.prog 19 #[.agg #[.slice kp 1 kc, .slice rp 1 rc], .slice (some ⟨Z, 0, none⟩) 1 1] W' fun e w' => BoolPost W' true e w') := fun W' Z hW hZ => by
      have := S.hits W' ⟨kp, kc, [gma], rp, rc, [r1]⟩ (.slice (some ⟨Z, 0, none⟩) 1 1) [⟨⟨#[65]⟩, ⟨#[97]⟩, false, none, 0, [], true, some ⟨N + 3, 0, none⟩, 1, gmF ⟨#[121]⟩ (N + 2)⟩] (HIN.out W' hW).2.1 hfew.len ⟨⟨_, _, rfl, Or.inr ⟨_, _, rfl, one_at hZ⟩⟩, fun c hc => by rw [List.mem_singleton] at hc; subst hc; exact HD.out W' (HIN.out W' hW).2.2⟩ (by show 1 < _; decide)
      rw [HE.out.is] at this
      refine this.mono fun e x h => ?_
      have h' : e = .returned (.bool (hitsM gmM [gmD])) ∧ Below W'.heap.size W' x := h
      rw [gm_hits] at h'
      exact h'
    have HWH : Hid (∀ W' Z, Below w'.heap.size w' W' → W'.heap[Z]? = some (.cells #[.string ⟨#[65]⟩, .string ⟨#[97]⟩, .bool true, .slice (some ⟨N + 1, 0, none⟩) 1 1, .bool true, .slice (some ⟨N + 3, 0, none⟩) 1 1] 43 (0, 0)) → Calls Try.prog 18 #[.agg #[.slice kp 1 kc, .slice rp 1 rc], .slice (some ⟨Z, 0, none⟩) 1 1] W' fun e w' => KeyRPost W' [gma] e w') := fun W' Z hW hZ => by
      have := S.which W' ⟨kp, kc, [gma], rp, rc, [r1]⟩ (.slice (some ⟨Z, 0, none⟩) 1 1) [⟨⟨#[65]⟩, ⟨#[97]⟩, true, some ⟨N + 1, 0, none⟩, 1, gmF ⟨#[120]⟩ N, true, some ⟨N + 3, 0, none⟩, 1, gmF ⟨#[121]⟩ (N + 2)⟩] (HIN.out W' hW).2.1 hfew.len ⟨⟨_, _, rfl, Or.inr ⟨_, _, rfl, one_at hZ⟩⟩, fun c hc => by rw [List.mem_singleton] at hc; subst hc; exact HC.out W' (HIN.out W' hW).2.2⟩ (by show 1 < _; decide)
      rw [HE.out.is] at this
      refine this.mono fun e x h => ?_
      have h' : KeyRPost W' (whichM gmM [gmC]) e x := h
      rw [gm_which] at h'
      exact h'
    have HUN : Hid (∀ W', Below w'.heap.size w' W' → Calls Try.prog 12 #[.agg #[.slice kp 1 kc, .slice rp 1 rc], .agg #[.slice kp 1 kc, .slice rp 1 rc]] W' fun e w' => MOwnPost W' gmM e w') := fun W' hW => by
      have := S.union W' ⟨kp, kc, [gma], rp, rc, [r1]⟩ ⟨kp, kc, [gma], rp, rc, [r1]⟩ (HIN.out W' hW).2.1 (HIN.out W' hW).2.1 hfew hfew (fun x hx => by rw [List.mem_singleton] at hx; subst hx; exact gm_fit) (fun x hx => by rw [List.mem_singleton] at hx; subst hx; exact gm_fit)
      rw [HE.out.is, gm_union] at this
      exact this
    have HEQ : Hid (∀ W' m2, Below w'.heap.size w' W' → MIn W' m2 → LenM m2 → Calls Try.prog 15 #[.agg #[.slice kp 1 kc, .slice rp 1 rc], .agg #[m2.ksl, m2.rsl]] W' fun e w' => BoolPost W' (decide (gmM = m2.mk')) e w') := fun W' m2 hW h1 h2 => by
      have := S.equal W' ⟨kp, kc, [gma], rp, rc, [r1]⟩ m2 (HIN.out W' hW).2.1 h1 hfew.len h2
      rw [HE.out.is] at this
      exact this
    have HMI : Hid (∀ W', Below w'.heap.size w' W' → Below w.heap.size w W') := fun W' hW => bel_then hbV hbV.size (HIN.out W' hW).2.2
    clear hE hfew
    go_upto_region 7 with fail
    refine wp_region_held_drew (S := fun W => W.cell? ⟨N + 6, 0, none⟩ = some (.string ⟨#[65]⟩) ∧ W.cell? ⟨N + 6, 1, none⟩ = some (.slice (some ⟨N + 5, 0, none⟩) 1 1) ∧ W.cell? ⟨N + 7, 0, none⟩ = some (.string ⟨#[65]⟩) ∧ W.cell? ⟨N + 7, 1, none⟩ = some (.string ⟨#[97]⟩) ∧ W.cell? ⟨N + 7, 2, none⟩ = some (.bool true) ∧ W.cell? ⟨N + 7, 3, none⟩ = some (.slice (some ⟨N + 1, 0, none⟩) 1 1) ∧ W.cell? ⟨N + 7, 4, none⟩ = some (.bool true) ∧ W.cell? ⟨N + 7, 5, none⟩ = some (.slice (some ⟨N + 3, 0, none⟩) 1 1) ∧ W.cell? ⟨N + 8, 0, none⟩ = some (.string ⟨#[65]⟩) ∧ W.cell? ⟨N + 8, 1, none⟩ = some (.string ⟨#[97]⟩) ∧ W.cell? ⟨N + 8, 2, none⟩ = some (.bool false) ∧ W.cell? ⟨N + 8, 3, none⟩ = some (.slice none 0 0) ∧ W.cell? ⟨N + 8, 4, none⟩ = some (.bool true) ∧ W.cell? ⟨N + 8, 5, none⟩ = some (.slice (some ⟨N + 3, 0, none⟩) 1 1) ∧ W.cell? ⟨B, 0, none⟩ = some (.slice kp 1 kc) ∧ W.cell? ⟨B, 1, none⟩ = some (.slice rp 1 rc)) (by kernel_rfl) (HIN.out w'.drew (bel_drewN (Below.refl _ _) 1)).1 (fun hHeld => ?_)
    refine take_val (i := 0) (.agg #[.string ⟨#[65]⟩, .slice (some ⟨N + 5, 0, none⟩) 1 1]) rfl (by kernel_rfl) (by kernel_rfl) (by kernel_rfl) (fun _ _ _ h => h) (by rfl) (fun w hSw => by go_simp) hHeld ?_
    simp only [Act.put, List.setIfInBounds_toArray, List.set_cons_zero, List.set_cons_succ]
    refine take_val (i := 1) (.agg #[.string ⟨#[65]⟩, .string ⟨#[97]⟩, .bool true, .slice (some ⟨N + 1, 0, none⟩) 1 1, .bool true, .slice (some ⟨N + 3, 0, none⟩) 1 1]) rfl (by kernel_rfl) (by kernel_rfl) (by kernel_rfl) (fun _ _ _ h => h) (by rfl) (fun w hSw => by go_simp) hHeld ?_
    simp only [Act.put, List.setIfInBounds_toArray, List.set_cons_zero, List.set_cons_succ]
    clear hHeld
    refine wpAnyH_ready (rs := [2]) (by kernel_rfl) (by simp) ?_
    refine AllReadyH.cons (at_drop0 rfl) (fun K hK => ?_) AllReadyH.nil
    rw [if_pos (by rfl)]
    go_simp
    refine (HTC.out _ (bel_drewN (Below.refl _ _) 1)).mono ?_
    rintro e w1 ⟨rfl, hb1⟩
    have HB1 : Hid (Below w'.heap.size w' w1) := (bel_drewN (Below.refl w'.heap.size w') 1).trans hb1
    clear hb1
    go_wp2_with fail
    refine hK.out _ _ ((HIN.out w1 HB1.out).1) (fun hHeld => ?_)
    clear hK K
    try simp only [Act.put, List.setIfInBounds_toArray, List.set_cons_zero, List.set_cons_succ]
    refine take_val (i := 3) (.bool true) rfl (by kernel_rfl) (by kernel_rfl) (by kernel_rfl) (fun _ _ _ h => h) (by rfl) (fun w hSw => by go_simp) hHeld ?_
    simp only [Act.put, List.setIfInBounds_toArray, List.set_cons_zero, List.set_cons_succ]
    refine take_val (i := 4) (.agg #[.string ⟨#[65]⟩, .slice (some ⟨N + 5, 0, none⟩) 1 1]) rfl (by kernel_rfl) (by kernel_rfl) (by kernel_rfl) (fun _ _ _ h => h) (by rfl) (fun w hSw => by go_simp) hHeld ?_
    simp only [Act.put, List.setIfInBounds_toArray, List.set_cons_zero, List.set_cons_succ]
    refine take_val (i := 5) (.agg #[.string ⟨#[65]⟩, .string ⟨#[97]⟩, .bool false, .slice none 0 0, .bool true, .slice (some ⟨N + 3, 0, none⟩) 1 1]) rfl (by kernel_rfl) (by kernel_rfl) (by kernel_rfl) (fun _ _ _ h => h) (by rfl) (fun w hSw => by go_simp) hHeld ?_
    simp only [Act.put, List.setIfInBounds_toArray, List.set_cons_zero, List.set_cons_succ]
    clear hHeld
    refine wpAnyH_ready (rs := [6]) (by kernel_rfl) (by simp) ?_
    refine AllReadyH.cons (at_drop0 rfl) (fun K hK => ?_) AllReadyH.nil
    rw [if_pos (by rfl)]
    go_simp
    refine (HTD.out w1 HB1.out).mono ?_
    rintro e w2 ⟨rfl, hb2⟩
    have HB2 : Hid (Below w'.heap.size w' w2) := bel_then HB1.out HB1.out.size hb2
    clear hb2 HB1
    go_wp2_with fail
    refine hK.out _ _ ((HIN.out w2 HB2.out).1) (fun hHeld => ?_)
    clear hK K
    try simp only [Act.put, List.setIfInBounds_toArray, List.set_cons_zero, List.set_cons_succ]
    refine take_val (i := 7) (.bool true) rfl (by kernel_rfl) (by kernel_rfl) (by kernel_rfl) (fun _ _ _ h => h) (by rfl) (fun w hSw => by go_simp) hHeld ?_
    simp only [Act.put, List.setIfInBounds_toArray, List.set_cons_zero, List.set_cons_succ]
    refine take_val (i := 8) (.bool true) rfl (by kernel_rfl) (by kernel_rfl) (by kernel_rfl) (fun _ _ _ h => h) (by rfl) (fun w hSw => by go_simp) hHeld ?_
    simp only [Act.put, List.setIfInBounds_toArray, List.set_cons_zero, List.set_cons_succ]
    refine take_val (i := 9) (.bool true) rfl (by kernel_rfl) (by kernel_rfl) (by kernel_rfl) (fun _ _ _ h => h) (by rfl) (fun w hSw => by go_simp) hHeld ?_
    simp only [Act.put, List.setIfInBounds_toArray, List.set_cons_zero, List.set_cons_succ]
    refine take_val (i := 10) (.pointer (some ⟨B, 0, none⟩)) rfl (by kernel_rfl) (by kernel_rfl) (by kernel_rfl) (fun _ _ _ h => h) (by rfl) (fun w hSw => by go_simp) hHeld ?_
    simp only [Act.put, List.setIfInBounds_toArray, List.set_cons_zero, List.set_cons_succ]
    refine take_val (i := 11) (.slice kp 1 kc) rfl (by kernel_rfl) (by kernel_rfl) (by kernel_rfl) (fun _ _ _ h => h) (by rfl) (fun w hSw => by go_simp) hHeld ?_
    simp only [Act.put, List.setIfInBounds_toArray, List.set_cons_zero, List.set_cons_succ]
    refine take_val (i := 12) (.int .i64 1) rfl (by kernel_rfl) (by kernel_rfl) (by kernel_rfl) (fun _ _ _ h => h) (by rfl) (fun w hSw => by go_simp) hHeld ?_
    simp only [Act.put, List.setIfInBounds_toArray, List.set_cons_zero, List.set_cons_succ]
    refine take_val (i := 13) (.bool true) rfl (by kernel_rfl) (by kernel_rfl) (by kernel_rfl) (fun _ _ _ h => h) (by rfl) (fun w hSw => by go_simp) hHeld ?_
    simp only [Act.put, List.setIfInBounds_toArray, List.set_cons_zero, List.set_cons_succ]
    refine take_val (i := 14) (.bool true) rfl (by kernel_rfl) (by kernel_rfl) (by kernel_rfl) (fun _ _ _ h => h) (by rfl) (fun w hSw => by go_simp) hHeld ?_
    simp only [Act.put, List.setIfInBounds_toArray, List.set_cons_zero, List.set_cons_succ]
    refine take_val (i := 15) (.bool true) rfl (by kernel_rfl) (by kernel_rfl) (by kernel_rfl) (fun _ _ _ h => h) (by rfl) (fun w hSw => by go_simp) hHeld ?_
    simp only [Act.put, List.setIfInBounds_toArray, List.set_cons_zero, List.set_cons_succ]
    refine take_val (i := 16) (.pointer (some ⟨B, 1, none⟩)) rfl (by kernel_rfl) (by kernel_rfl) (by kernel_rfl) (fun _ _ _ h => h) (by rfl) (fun w hSw => by go_simp) hHeld ?_
    simp only [Act.put, List.setIfInBounds_toArray, List.set_cons_zero, List.set_cons_succ]
    refine take_val (i := 17) (.slice rp 1 rc) rfl (by kernel_rfl) (by kernel_rfl) (by kernel_rfl) (fun _ _ _ h => h) (by rfl) (fun w hSw => by go_simp) hHeld ?_
    simp only [Act.put, List.setIfInBounds_toArray, List.set_cons_zero, List.set_cons_succ]
    refine take_val (i := 18) (.int .i64 1) rfl (by kernel_rfl) (by kernel_rfl) (by kernel_rfl) (fun _ _ _ h => h) (by rfl) (fun w hSw => by go_simp) hHeld ?_
    simp only [Act.put, List.setIfInBounds_toArray, List.set_cons_zero, List.set_cons_succ]
    refine take_val (i := 19) (.bool true) rfl (by kernel_rfl) (by kernel_rfl) (by kernel_rfl) (fun _ _ _ h => h) (by rfl) (fun w hSw => by go_simp) hHeld ?_
    simp only [Act.put, List.setIfInBounds_toArray, List.set_cons_zero, List.set_cons_succ]
    refine take_val (i := 20) (.bool true) rfl (by kernel_rfl) (by kernel_rfl) (by kernel_rfl) (fun _ _ _ h => h) (by rfl) (fun w hSw => by go_simp) hHeld ?_
    simp only [Act.put, List.setIfInBounds_toArray, List.set_cons_zero, List.set_cons_succ]
    refine take_val (i := 21) (.bool true) rfl (by kernel_rfl) (by kernel_rfl) (by kernel_rfl) (fun _ _ _ h => h) (by rfl) (fun w hSw => by go_simp) hHeld ?_
    simp only [Act.put, List.setIfInBounds_toArray, List.set_cons_zero, List.set_cons_succ]
    refine take_val (i := 22) (.agg #[.slice kp 1 kc, .slice rp 1 rc]) rfl (by kernel_rfl) (by kernel_rfl) (by kernel_rfl) (fun _ _ _ h => h) (by rfl) (fun w hSw => by go_simp) hHeld ?_
    simp only [Act.put, List.setIfInBounds_toArray, List.set_cons_zero, List.set_cons_succ]
    refine take_val (i := 23) (.agg #[.string ⟨#[65]⟩, .string ⟨#[97]⟩, .bool false, .slice none 0 0, .bool true, .slice (some ⟨N + 3, 0, none⟩) 1 1]) rfl (by kernel_rfl) (by kernel_rfl) (by kernel_rfl) (fun _ _ _ h => h) (by rfl) (fun w hSw => by go_simp) hHeld ?_
    simp only [Act.put, List.setIfInBounds_toArray, List.set_cons_zero, List.set_cons_succ]
    clear hHeld
    have hnew3 := heap_alloc_new w2 (.cells #[.string ⟨#[65]⟩, .string ⟨#[97]⟩, .bool false, .slice none 0 0, .bool true, .slice (some ⟨N + 3, 0, none⟩) 1 1] 43)
    obtain ⟨w3, hw3⟩ : ∃ w3, w2.alloc (.cells #[.string ⟨#[65]⟩, .string ⟨#[97]⟩, .bool false, .slice none 0 0, .bool true, .slice (some ⟨N + 3, 0, none⟩) 1 1] 43) = w3 := ⟨_, rfl⟩
    obtain ⟨Z3, hZ3⟩ : ∃ Z3, w2.heap.size = Z3 := ⟨_, rfl⟩
    have HB3 : Hid (Below w'.heap.size w' w3) := by rw [← hw3]; exact bel_then HB2.out HB2.out.size ((Below.refl _ _).alloc (Nat.le_refl _) _)
    rw [hw3, hZ3] at hnew3
    have HN3 := hid hnew3
    have HZ3 := hid hZ3
    have HW3 := hid hw3
    clear hnew3 hZ3 hw3
    refine wpAnyH_ready (rs := [24]) (by kernel_rfl) (by simp) ?_
    refine AllReadyH.cons (at_drop0 rfl) (fun K hK => ?_) AllReadyH.nil
    rw [if_pos (by rfl)]
    go_simp
    go_wp2_with fail
    try rw [HW3.out]
    try rw [HZ3.out]
    refine hK.out _ _ ((HIN.out w3 HB3.out).1) (fun hHeld => ?_)
    clear hK K
    try simp only [Act.put, List.setIfInBounds_toArray, List.set_cons_zero, List.set_cons_succ]
    clear hHeld
    refine wpAnyH_ready (rs := [25]) (by kernel_rfl) (by simp) ?_
    refine AllReadyH.cons (at_drop0 rfl) (fun K hK => ?_) AllReadyH.nil
    rw [if_pos (by rfl)]
    go_simp
    refine (HHI.out w3 Z3 HB3.out HN3.out).mono ?_
    rintro e w4 ⟨rfl, hb4⟩
    have HB4 : Hid (Below w'.heap.size w' w4) := bel_then HB3.out HB3.out.size hb4
    clear hb4 HB3 HN3 HB2 HW3 HZ3
    go_wp2_with fail
    refine hK.out _ _ ((HIN.out w4 HB4.out).1) (fun hHeld => ?_)
    clear hK K
    try simp only [Act.put, List.setIfInBounds_toArray, List.set_cons_zero, List.set_cons_succ]
    refine take_val (i := 26) (.bool true) rfl (by kernel_rfl) (by kernel_rfl) (by kernel_rfl) (fun _ _ _ h => h) (by rfl) (fun w hSw => by go_simp) hHeld ?_
    simp only [Act.put, List.setIfInBounds_toArray, List.set_cons_zero, List.set_cons_succ]
    refine take_val (i := 27) (.bool true) rfl (by kernel_rfl) (by kernel_rfl) (by kernel_rfl) (fun _ _ _ h => h) (by rfl) (fun w hSw => by go_simp) hHeld ?_
    simp only [Act.put, List.setIfInBounds_toArray, List.set_cons_zero, List.set_cons_succ]
    refine take_val (i := 28) (.agg #[.slice kp 1 kc, .slice rp 1 rc]) rfl (by kernel_rfl) (by kernel_rfl) (by kernel_rfl) (fun _ _ _ h => h) (by rfl) (fun w hSw => by go_simp) hHeld ?_
    simp only [Act.put, List.setIfInBounds_toArray, List.set_cons_zero, List.set_cons_succ]
    refine take_val (i := 29) (.agg #[.string ⟨#[65]⟩, .string ⟨#[97]⟩, .bool true, .slice (some ⟨N + 1, 0, none⟩) 1 1, .bool true, .slice (some ⟨N + 3, 0, none⟩) 1 1]) rfl (by kernel_rfl) (by kernel_rfl) (by kernel_rfl) (fun _ _ _ h => h) (by rfl) (fun w hSw => by go_simp) hHeld ?_
    simp only [Act.put, List.setIfInBounds_toArray, List.set_cons_zero, List.set_cons_succ]
    clear hHeld
    have hnew5 := heap_alloc_new w4 (.cells #[.string ⟨#[65]⟩, .string ⟨#[97]⟩, .bool true, .slice (some ⟨N + 1, 0, none⟩) 1 1, .bool true, .slice (some ⟨N + 3, 0, none⟩) 1 1] 43)
    obtain ⟨w5, hw5⟩ : ∃ w5, w4.alloc (.cells #[.string ⟨#[65]⟩, .string ⟨#[97]⟩, .bool true, .slice (some ⟨N + 1, 0, none⟩) 1 1, .bool true, .slice (some ⟨N + 3, 0, none⟩) 1 1] 43) = w5 := ⟨_, rfl⟩
    obtain ⟨Z5, hZ5⟩ : ∃ Z5, w4.heap.size = Z5 := ⟨_, rfl⟩
    have HB5 : Hid (Below w'.heap.size w' w5) := by rw [← hw5]; exact bel_then HB4.out HB4.out.size ((Below.refl _ _).alloc (Nat.le_refl _) _)
    rw [hw5, hZ5] at hnew5
    have HN5 := hid hnew5
    have HZ5 := hid hZ5
    have HW5 := hid hw5
    clear hnew5 hZ5 hw5
    refine wpAnyH_ready (rs := [30]) (by kernel_rfl) (by simp) ?_
    refine AllReadyH.cons (at_drop0 rfl) (fun K hK => ?_) AllReadyH.nil
    rw [if_pos (by rfl)]
    go_simp
    go_wp2_with fail
    try rw [HW5.out]
    try rw [HZ5.out]
    refine hK.out _ _ ((HIN.out w5 HB5.out).1) (fun hHeld => ?_)
    clear hK K
    try simp only [Act.put, List.setIfInBounds_toArray, List.set_cons_zero, List.set_cons_succ]
    clear hHeld
    refine wpAnyH_ready (rs := [31]) (by kernel_rfl) (by simp) ?_
    refine AllReadyH.cons (at_drop0 rfl) (fun K hK => ?_) AllReadyH.nil
    rw [if_pos (by rfl)]
    go_simp
    refine (HWH.out w5 Z5 HB5.out HN5.out).mono ?_
    rintro e w6 ⟨u6, rfl, ho6, hb6⟩
    obtain ⟨p6, c6, rfl⟩ := Kind.own_shape ho6
    have HB6 : Hid (Below w'.heap.size w' w6) := bel_then HB5.out HB5.out.size hb6
    clear hb6 HB5 HN5 HB4 HW5 HZ5 ho6
    simp only [List.length_cons, List.length_nil, Nat.zero_add]
    go_wp2_with fail
    refine hK.out _ _ ((HIN.out w6 HB6.out).1) (fun hHeld => ?_)
    clear hK K
    try simp only [Act.put, List.setIfInBounds_toArray, List.set_cons_zero, List.set_cons_succ]
    refine take_val (i := 32) (.int .i64 1) rfl (by kernel_rfl) (by kernel_rfl) (by kernel_rfl) (fun _ _ _ h => h) (by rfl) (fun w hSw => by go_simp) hHeld ?_
    simp only [Act.put, List.setIfInBounds_toArray, List.set_cons_zero, List.set_cons_succ]
    refine take_val (i := 33) (.bool true) rfl (by kernel_rfl) (by kernel_rfl) (by kernel_rfl) (fun _ _ _ h => h) (by rfl) (fun w hSw => by go_simp) hHeld ?_
    simp only [Act.put, List.setIfInBounds_toArray, List.set_cons_zero, List.set_cons_succ]
    refine take_val (i := 34) (.bool true) rfl (by kernel_rfl) (by kernel_rfl) (by kernel_rfl) (fun _ _ _ h => h) (by rfl) (fun w hSw => by go_simp) hHeld ?_
    simp only [Act.put, List.setIfInBounds_toArray, List.set_cons_zero, List.set_cons_succ]
    refine take_val (i := 35) (.bool true) rfl (by kernel_rfl) (by kernel_rfl) (by kernel_rfl) (fun _ _ _ h => h) (by rfl) (fun w hSw => by go_simp) hHeld ?_
    simp only [Act.put, List.setIfInBounds_toArray, List.set_cons_zero, List.set_cons_succ]
    refine take_val (i := 36) (.agg #[.slice kp 1 kc, .slice rp 1 rc]) rfl (by kernel_rfl) (by kernel_rfl) (by kernel_rfl) (fun _ _ _ h => h) (by rfl) (fun w hSw => by go_simp) hHeld ?_
    simp only [Act.put, List.setIfInBounds_toArray, List.set_cons_zero, List.set_cons_succ]
    refine take_val (i := 37) (.agg #[.slice kp 1 kc, .slice rp 1 rc]) rfl (by kernel_rfl) (by kernel_rfl) (by kernel_rfl) (fun _ _ _ h => h) (by rfl) (fun w hSw => by go_simp) hHeld ?_
    simp only [Act.put, List.setIfInBounds_toArray, List.set_cons_zero, List.set_cons_succ]
    refine take_val (i := 38) (.agg #[.slice kp 1 kc, .slice rp 1 rc]) rfl (by kernel_rfl) (by kernel_rfl) (by kernel_rfl) (fun _ _ _ h => h) (by rfl) (fun w hSw => by go_simp) hHeld ?_
    simp only [Act.put, List.setIfInBounds_toArray, List.set_cons_zero, List.set_cons_succ]
    clear hHeld
    refine wpAnyH_ready (rs := [39]) (by kernel_rfl) (by simp) ?_
    refine AllReadyH.cons (at_drop0 rfl) (fun K hK => ?_) AllReadyH.nil
    rw [if_pos (by rfl)]
    go_simp
    refine (HUN.out w6 HB6.out).mono ?_
    rintro e w7 ⟨m7, rfl, ho7, hk7, hb7⟩
    have HB7 : Hid (Below w'.heap.size w' w7) := bel_then HB6.out HB6.out.size hb7
    have HQ := hid (HEQ.out w7 m7 HB7.out ho7.inn (by
      constructor
      · rw [show m7.ks = gmM.1 from congrArg Prod.fst hk7]; decide
      · have := congrArg (fun x : Mk => x.2.length) hk7
        simp only [Mx.mk', List.length_map] at this
        rw [this]; decide))
    rw [hk7, decide_eq_true rfl] at HQ
    clear hb7 HB6 ho7 hk7
    obtain ⟨kp7, kc7, ks7, rp7, rc7, rs7⟩ := m7
    simp only [encMx, Mx.ksl, Mx.rsl] at HQ ⊢
    go_wp2_with fail
    refine hK.out _ _ ((HIN.out w7 HB7.out).1) (fun hHeld => ?_)
    clear hK K
    try simp only [Act.put, List.setIfInBounds_toArray, List.set_cons_zero, List.set_cons_succ]
    clear hHeld
    refine wpAnyH_ready (rs := [40]) (by kernel_rfl) (by simp) ?_
    refine AllReadyH.cons (at_drop0 rfl) (fun K hK => ?_) AllReadyH.nil
    rw [if_pos (by rfl)]
    go_simp
    refine HQ.out.mono ?_
    rintro e w8 ⟨rfl, hb8⟩
    have HB8 : Hid (Below w'.heap.size w' w8) := bel_then HB7.out HB7.out.size hb8
    clear hb8 HB7 HQ
    go_wp2_with fail
    refine hK.out _ _ ((HIN.out w8 HB8.out).1) (fun hHeld => ?_)
    clear hK K
    try simp only [Act.put, List.setIfInBounds_toArray, List.set_cons_zero, List.set_cons_succ]
    refine take_val (i := 41) (.bool true) rfl (by kernel_rfl) (by kernel_rfl) (by kernel_rfl) (fun _ _ _ h => h) (by rfl) (fun w hSw => by go_simp) hHeld ?_
    simp only [Act.put, List.setIfInBounds_toArray, List.set_cons_zero, List.set_cons_succ]
    refine take_val (i := 42) (.bool true) rfl (by kernel_rfl) (by kernel_rfl) (by kernel_rfl) (fun _ _ _ h => h) (by rfl) (fun w hSw => by go_simp) hHeld ?_
    simp only [Act.put, List.setIfInBounds_toArray, List.set_cons_zero, List.set_cons_succ]
    refine take_val (i := 43) (.agg #[.slice kp 1 kc, .slice rp 1 rc]) rfl (by kernel_rfl) (by kernel_rfl) (by kernel_rfl) (fun _ _ _ h => h) (by rfl) (fun w hSw => by go_simp) hHeld ?_
    simp only [Act.put, List.setIfInBounds_toArray, List.set_cons_zero, List.set_cons_succ]
    refine take_val (i := 44) (.agg #[.slice none 0 0, .slice none 0 0]) rfl (by kernel_rfl) (by kernel_rfl) (by kernel_rfl) (fun _ _ _ h => h) (by rfl) (fun w hSw => by go_simp) hHeld ?_
    simp only [Act.put, List.setIfInBounds_toArray, List.set_cons_zero, List.set_cons_succ]
    clear hHeld
    have HQ := hid (HEQ.out w8 ⟨none, 0, [], none, 0, []⟩ HB8.out ⟨KK.is_nil w8, KRx.is_nil w8, fun r hr => by cases hr⟩ ⟨by decide, by decide⟩)
    rw [show decide (gmM = (⟨none, 0, [], none, 0, []⟩ : Mx).mk') = false from gm_ne] at HQ
    simp only [Mx.ksl, Mx.rsl, List.length_nil] at HQ
    refine wpAnyH_ready (rs := [45]) (by kernel_rfl) (by simp) ?_
    refine AllReadyH.cons (at_drop0 rfl) (fun K hK => ?_) AllReadyH.nil
    rw [if_pos (by rfl)]
    go_simp
    refine HQ.out.mono ?_
    rintro e w9 ⟨rfl, hb9⟩
    have HB9 : Hid (Below w'.heap.size w' w9) := bel_then HB8.out HB8.out.size hb9
    clear hb9 HB8 HQ
    go_wp2_with fail
    refine hK.out _ _ ((HIN.out w9 HB9.out).1) (fun hHeld => ?_)
    clear hK K
    try simp only [Act.put, List.setIfInBounds_toArray, List.set_cons_zero, List.set_cons_succ]
    refine take_val (i := 46) (.bool true) rfl (by kernel_rfl) (by kernel_rfl) (by kernel_rfl) (fun _ _ _ h => h) (by rfl) (fun w hSw => by go_simp) hHeld ?_
    simp only [Act.put, List.setIfInBounds_toArray, List.set_cons_zero, List.set_cons_succ]
    refine take_val (i := 47) (.bool true) rfl (by kernel_rfl) (by kernel_rfl) (by kernel_rfl) (fun _ _ _ h => h) (by rfl) (fun w hSw => by go_simp) hHeld ?_
    simp only [Act.put, List.setIfInBounds_toArray, List.set_cons_zero, List.set_cons_succ]
    refine take_val (i := 48) (.bool true) rfl (by kernel_rfl) (by kernel_rfl) (by kernel_rfl) (fun _ _ _ h => h) (by rfl) (fun w hSw => by go_simp) hHeld ?_
    simp only [Act.put, List.setIfInBounds_toArray, List.set_cons_zero, List.set_cons_succ]
    refine wpAnyH_done (by kernel_rfl) ?_ _
    clear hHeld
    have HM9 := hid (HMI.out w9 HB9.out)
    go_wp2_with fail
    go_ret
    exact ⟨rfl, HM9.out⟩

end Go.Proofs.Ythdakljoabbghaa

/-
  Openings (stage 12): marks that came in, with how many terms their ranges have.
-/
namespace Go.Proofs.Ythdakljoabbghaa
open Go.ChangeShapes Go.WideShapes Go.ChangeAt Go.RowKit Go.Lib Go.Deep Go.Joins

section
variable {H : Type} {enc : TypeId × Value → H} {W : World}

set_option maxRecDepth 100000 in
/-- One range, from its two cells. -/
theorem open_rgT {n : Nat} {cs : List Value} {x : DataW H × List MemPlace} (h : DataW.trod enc Try.prog W 0 (fun _ => true) true n 34 cs = some x) (hZ : ∀ n ∈ x.1.weights Try.prog 34, n ≤ reachBytes) :
    ∃ b : Rx, cs = encRx b ∧ b.at W ∧ b.tm.length ≤ Rows.uptoBulk x.1 := by
  obtain ⟨xs, k, _, hx, hlen, hxl, hf⟩ := DataW.trod_struct Try.underlying34 h
  rw [Try.cellsMRg] at hlen
  match cs, hlen with
  | [v0, v1], _ =>
    match xs, hxl with
    | [y0, y1], _ =>
      have g0 := hf 0 _ rfl
      have g1 := hf 1 _ rfl
      simp [Try.cellsWStr, Try.cellsWTs] at g0 g1
      obtain ⟨a, ea, _, _⟩ := DataW.trod_string Try.underlying9 g0
      have hz1 : ∀ n ∈ y1.1.weights Try.prog 32, n ≤ reachBytes := fun n hn => hZ n (by
        rw [hx]
        simp only [List.map_cons, List.map_nil, DataW.weights, Try.underlying34]
        exact List.mem_append.2 (Or.inr (List.mem_append.2 (Or.inl hn))))
      obtain ⟨t, ht, hft, htl⟩ := open_termsT (dd := y1.1) (p := y1.2) g1 hz1
      simp only [List.cons.injEq, and_true] at ea
      obtain ⟨q, qc, rfl, _⟩ := id ht
      have hb1 : Rows.uptoBulk y1.1 ≤ Rows.uptoBulk x.1 := by
        rw [hx]
        simp only [Rows.uptoBulk]
        have := bulkW_mem (d := y1.1) (l := [y0, y1].map Prod.fst) (by simp)
        simp only [List.map_cons, List.map_nil] at this ⊢
        omega
      exact ⟨⟨a, q, qc, t⟩, by rw [ea]; rfl, ⟨ht, hft⟩, Nat.le_trans htl hb1⟩

set_option maxRecDepth 100000 in
theorem open_rsT {fuel : Nat} {v : Value} {dd : DataW H} {p : List MemPlace}
    (hf : DataW.trod enc Try.prog W 0 (fun _ => true) true fuel 23 [v] = some (dd, p)) (hZ : ∀ n ∈ dd.weights Try.prog 23, n ≤ reachBytes) :
    ∃ q : List Rx, KRx.Is W v q ∧ (∀ r ∈ q, r.at W) ∧ q.length ≤ Rows.uptoBulk dd ∧ q.length < 4500000000000 ∧ ∀ r ∈ q, r.tm.length ≤ Rows.uptoBulk dd := by
  have hrb := reachBytes_lt
  obtain ⟨q, h1, h2, h3, _, h5⟩ := open_rowZ KRx Try.underlying23 Try.cellsMRg Try.bytesMRg (fun r d => r.at W ∧ r.tm.length ≤ Rows.uptoBulk d) (fun n cs x h hz => open_rgT h hz) hf hZ
  refine ⟨q, h1, fun r hr => (h2 r hr).choose_spec.2.1, h5, by omega, fun r hr => ?_⟩
  obtain ⟨d, hd, _, hl⟩ := h2 r hr
  exact Nat.le_trans hl hd

set_option maxRecDepth 100000 in
/-- Marks that came in, with how many terms their ranges have. -/
theorem open_marksT {b0 : Nat} {v : Value} {dd : DataW H} {p : List MemPlace} (hv : Value.okWide Try.prog W .any b0 25 v) (h : DataW.Trod enc Try.prog W 0 (fun _ => true) true 25 v dd p) (hZ : ∀ n ∈ dd.weights Try.prog 25, n ≤ reachBytes) :
    ∃ m : Mx, v = .agg (encMx m).toArray ∧ MIn W m ∧ (∀ k ∈ m.ks, FitKy12 k) ∧ m.ks.length ≤ Rows.uptoBulk dd ∧ m.rs.length ≤ Rows.uptoBulk dd ∧ LenM m ∧ ∀ r ∈ m.rs, r.tm.length ≤ Rows.uptoBulk dd := by
  obtain ⟨cs, rfl, hsz⟩ := okWide_struct Try.underlying25 hv
  obtain ⟨fuel, hf0⟩ := h
  have hf1 : DataW.trod enc Try.prog W 0 (fun _ => true) true fuel 25 cs.toList = some (dd, p) := by simpa [Value.cells] using hf0
  obtain ⟨xs, k, _, hx, hlen, hxl, hf⟩ := DataW.trod_struct Try.underlying25 hf1
  rw [Try.cellsMMk] at hlen
  obtain ⟨v0, v1, hcs⟩ : ∃ v0 v1, cs.toList = [v0, v1] := by
    match hc : cs.toList, hlen with
    | [v0, v1], _ => exact ⟨v0, v1, rfl⟩
  rw [hcs] at hf
  match xs, hxl with
  | [y0, y1], _ =>
    have g0 := hf 0 _ rfl
    have g1 := hf 1 _ rfl
    simp [Try.cellsMKs, Try.cellsMRs] at g0 g1
    have hdd : dd = .agg ([y0, y1].map Prod.fst) := congrArg Prod.fst hx
    have hz0 : ∀ n ∈ y0.1.weights Try.prog 22, n ≤ reachBytes := fun n hn => hZ n (by
      rw [hdd]
      simp only [List.map_cons, List.map_nil, DataW.weights, Try.underlying25]
      exact List.mem_append.2 (Or.inl hn))
    have hz1 : ∀ n ∈ y1.1.weights Try.prog 23, n ≤ reachBytes := fun n hn => hZ n (by
      rw [hdd]
      simp only [List.map_cons, List.map_nil, DataW.weights, Try.underlying25]
      exact List.mem_append.2 (Or.inr (List.mem_append.2 (Or.inl hn))))
    obtain ⟨ks, hk1, hk2, hk3, hk4⟩ := open_ksM (dd := y0.1) (p := y0.2) g0 hz0
    obtain ⟨rs, hr1, hr2, hr3, hr4, hr5⟩ := open_rsT (dd := y1.1) (p := y1.2) g1 hz1
    have hb0 : Rows.uptoBulk y0.1 ≤ Rows.uptoBulk dd := by
      rw [hdd]
      simp only [Rows.uptoBulk]
      have := bulkW_mem (d := y0.1) (l := [y0, y1].map Prod.fst) (by simp)
      simp only [List.map_cons, List.map_nil] at this ⊢
      omega
    have hb1 : Rows.uptoBulk y1.1 ≤ Rows.uptoBulk dd := by
      rw [hdd]
      simp only [Rows.uptoBulk]
      have := bulkW_mem (d := y1.1) (l := [y0, y1].map Prod.fst) (by simp)
      simp only [List.map_cons, List.map_nil] at this ⊢
      omega
    obtain ⟨kp, kc, rfl, _⟩ := id hk1
    obtain ⟨rp, rc, rfl, _⟩ := id hr1
    refine ⟨⟨kp, kc, ks, rp, rc, rs⟩, ?_, ⟨hk1, hr1, hr2⟩, hk2, Nat.le_trans hk3 hb0, Nat.le_trans hr3 hb1, ⟨hk4, hr4⟩, fun r hr => Nat.le_trans (hr5 r hr) hb1⟩
    have : cs = #[.slice kp ks.length kc, .slice rp rs.length rc] := Array.ext' (by rw [hcs])
    rw [this]
    rfl
end

end Go.Proofs.Ythdakljoabbghaa

/-
  For every two marks and every key of bulk at most 1048576 the Go function MarksKeeps of package foliolaw12 returns true, and its arguments read behind the call as they read before; over the contracts of package marks.
-/
namespace Go.Proofs.Ythdakljoabbghaa
open Go.ChangeShapes Go.WideShapes Go.ChangeAt Go.RowKit Go.Joins

set_option maxRecDepth 100000 in
theorem markskeeps_walked (S : MarksApi) {H : Type} {enc : TypeId × Value → H} (W : World) (base : Nat) (args : Array Value) (ds gs : List (DataW H)) (before : List MemPlace)
    (hval : ∀ (j : Nat) t v, Try.f7.params[j]? = some t → args[j]? = some v → Value.okWide Try.prog W .any base t v)
    (hW : DataW.Whole enc Try.prog Try.f7.params.toList Rows.marksKeepsSpec.vars false W args.toList ds gs before)
    (hZ : (DataW.weightsEach Try.prog (Try.f7.params.toList ++ (OpenSpec.ofChange Rows.marksKeepsSpec).bare.plain.varTypes Try.prog) (ds ++ gs)).all (· ≤ reachBytes) = true) (hk : Rows.uptoSmall H (ds ++ gs) = true) :
    Calls Try.prog 7 args W fun e W' => ∃ v, e = .returned v ∧ Rows.marksKeepsSpec.post enc Try.prog Try.f7 false true false false W args v W' := by
  have hW' := hW
  obtain ⟨p, q, hA0, hV, rfl, _, _⟩ := hW
  have hA : DataW.TrodAll enc Try.prog W 0 (fun _ => true) true Try.f7.params.toList args.toList ds p := hA0
  rw [Try.params7] at hA hval hZ
  obtain ⟨v0, vs0, d0, ds0, p0, q0, hargs, rfl, rfl, h0, r0⟩ := trodAll_cons hA
  obtain ⟨v1, vs1, d1, ds1, p1, q1, rfl, rfl, rfl, h1, r1⟩ := trodAll_cons r0
  obtain ⟨v2, vs2, d2, ds2, p2, q2, rfl, rfl, rfl, h2, r2⟩ := trodAll_cons r1
  obtain ⟨rfl, rfl, rfl⟩ := trodAll_nil r2
  obtain rfl : args = #[v0, v1, v2] := by cases args; simp_all
  obtain ⟨rfl, rfl⟩ := trodVars_none hV
  have lt0 : ∀ x ∈ p0, x.block < W.heap.size := by obtain ⟨m, hm⟩ := h0; exact DataW.trod_lt m _ _ _ hm
  have lt1 : ∀ x ∈ p1, x.block < W.heap.size := by obtain ⟨m, hm⟩ := h1; exact DataW.trod_lt m _ _ _ hm
  have lt2 : ∀ x ∈ p2, x.block < W.heap.size := by obtain ⟨m, hm⟩ := h2; exact DataW.trod_lt m _ _ _ hm
  have k0 := h0
  have k1 := h1
  have k2 := h2
  have hb : Rows.uptoBulk d0 + Rows.uptoBulk d1 + Rows.uptoBulk d2 ≤ 1048576 := by
    have := of_decide_eq_true hk
    simp only [List.append_nil, Rows.uptoBulkAll] at this
    omega
  have hwalk : Calls Try.prog 7 #[v0, v1, v2] W fun e w' => e = .returned (.bool true) ∧ Below W.heap.size W w' := by
    have z0 : ∀ n ∈ d0.weights Try.prog 25, n ≤ reachBytes := fun n hn => by
      have := List.all_eq_true.1 hZ n (DataW.weights_mem_each (j := 0) rfl rfl n hn)
      simpa using this
    have z1 : ∀ n ∈ d1.weights Try.prog 25, n ≤ reachBytes := fun n hn => by
      have := List.all_eq_true.1 hZ n (DataW.weights_mem_each (j := 1) rfl rfl n hn)
      simpa using this
    obtain ⟨a, rfl, hai, hak, ha1, ha2, hal, hat⟩ := open_marksT (hval 0 25 v0 rfl rfl) h0 z0
    obtain ⟨b, rfl, hbi, hbk, hb1, hb2, hbl, hbt⟩ := open_marksT (hval 1 25 v1 rfl rfl) h1 z1
    obtain ⟨k, rfl, hkf⟩ := open_keyW (hval 2 27 v2 rfl rfl) h2
    exact mkeeps12_any S (fixed12_any S) a b k W hai hbi ⟨by omega, by omega, by omega, by omega⟩ (fun r hr => by have := hat r hr; omega) (fun r hr => by have := hbt r hr; omega) hak hbk hkf
  clear hA0
  refine hwalk.mono fun o W' ⟨he, bel⟩ => ?_
  subst he
  exact ⟨_, rfl, _, _, _, [], _, [], hW', trodAll_mk1 (shut_bool Try.underlying4 _),
    (trodAll_cons_mk (Below.trod Try.laidOut (by kernel_rfl) (of_decide_eq_true (by kernel_rfl)) k0 bel lt0) (trodAll_cons_mk (Below.trod Try.laidOut (by kernel_rfl) (of_decide_eq_true (by kernel_rfl)) k1 bel lt1) (trodAll_cons_mk (Below.trod Try.laidOut (by kernel_rfl) (of_decide_eq_true (by kernel_rfl)) k2 bel lt2) trodAll_mk0))), rfl, bel.frame _, fun h => by cases h⟩

theorem markskeeps_reads (os : Os) {H : Type} (enc : TypeId × Value → H) : ∃ places, DataW.whole enc Try.prog ((World.laidAll Try.prog os []).forCall (fun _ _ => 0) ⟨#[], #[.agg #[.slice none 0 0, .slice none 0 0], .agg #[.slice none 0 0, .slice none 0 0], .agg #[.string ⟨#[]⟩, .string ⟨#[]⟩]], []⟩).memory Try.f7.params.toList Rows.marksKeepsSpec.vars false #[Value.agg #[.slice none 0 0, .slice none 0 0], .agg #[.slice none 0 0, .slice none 0 0], .agg #[.string ⟨#[]⟩, .string ⟨#[]⟩]].toList 8 = some ([.agg [.nil, .nil], .agg [.nil, .nil], .agg [.lit (.string []), .lit (.string [])]], [], places) :=
  ⟨[], by kernel_rfl⟩

set_option maxRecDepth 100000 in
theorem markskeeps_lifted (S : MarksApi) (os : Os) (started : os.Started) (H : Type) (enc : TypeId × Value → H) (F : Stop.Interp) :
    ReturnsInHanded {} Try.checked os 7 .any ((Rows.OpenSpec.upto Rows.marksKeepsSpec).preRow enc Try.prog Try.f7 Rows.marksKeepsUptoRow.domain false Rows.marksKeepsUptoRow.laid) (((Rows.OpenSpec.upto Rows.marksKeepsSpec).at F).post enc Try.prog Try.f7 false true false false) := by
  obtain ⟨places, hx⟩ := markskeeps_reads os enc
  refine returnsInHanded_of_row (C := Try.checked) (s := Rows.OpenSpec.upto Rows.marksKeepsSpec) Try.own started (by kernel_rfl) Try.func7
    (witness_row_at (enc := enc) (C := Try.checked) false (World.laidAll Try.prog os []) #[.agg #[.slice none 0 0, .slice none 0 0], .agg #[.slice none 0 0, .slice none 0 0], .agg #[.string ⟨#[]⟩, .string ⟨#[]⟩]] (World.laidAll_os _ _ _) (by kernel_rfl) (by kernel_rfl) (by kernel_rfl)
      (OpenSpec.preRow_of_cond 8 hx (by kernel_rfl) (fun k hk => by cases hk; kernel_rfl) (by kernel_rfl)
        (by rw [MakeChecks.laidMetH_plain _ _ _ (by kernel_rfl)]; exact laidMet_laidAll (laid := []) _ (by kernel_rfl) (by kernel_rfl)))) ?_
  intro W base args ds gs before hval hW _ hcond hZ _ _ _
  exact markskeeps_walked S W base args ds gs before hval hW hZ (hcond _ rfl)

theorem markskeeps_of (S : MarksApi) : Rows.MarksKeepsUptoSaid :=
  OpenClaim.holds_of_cond 7 Try.f7 rfl rfl rfl rfl rfl rfl rfl ⟨rfl, rfl, rfl, rfl, rfl⟩ rfl rfl rfl rfl rfl (by kernel_rfl) Try.func7 (by kernel_rfl)
    (of_decide_eq_true (by kernel_rfl)) (by unfold Func.isWrapper; first | (rw [if_pos (by decide +kernel)]; kernel_rfl) | (rw [if_neg (by decide +kernel)]; exact ⟨rfl, rfl⟩))
    (fun os started H enc _ F => by rw [OpenClaim.pre_eq_preRow]; exact markskeeps_lifted S os started H enc F)

end Go.Proofs.Ythdakljoabbghaa
