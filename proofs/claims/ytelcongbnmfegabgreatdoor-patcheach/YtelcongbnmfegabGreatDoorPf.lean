/-
  Texts of this claim, one behind the other: Edx Hfx.
-/
import Derived.Test.YtelcongbnmfegabGreatDoorPc
import Derived.Test.YtelcongbnmfegabGreatDoorPe
/-
  The chapter's examples of edits, as data.
-/
namespace Go.Proofs.YtelcongbnmfegabGreatDoor
open Go.RowKit Go.Lib

def pxV : List Fld := [(⟨#[97]⟩, [⟨#[120]⟩, ⟨#[121]⟩, ⟨#[120]⟩]), (⟨#[98]⟩, [⟨#[49]⟩])]
def pxW : List Fld := [(⟨#[98]⟩, [⟨#[49]⟩]), (⟨#[99]⟩, [⟨#[50]⟩, ⟨#[51]⟩])]
def pxU : List Fld := [(⟨#[97]⟩, [⟨#[121]⟩]), (⟨#[98]⟩, [⟨#[50]⟩])]
def pxL : List Ed := [(4, ⟨#[97]⟩, ⟨#[]⟩), (1, ⟨#[99]⟩, ⟨#[50]⟩), (2, ⟨#[99]⟩, ⟨#[51]⟩)]
def pxP : List Ed := [(3, ⟨#[97]⟩, ⟨#[120]⟩), (1, ⟨#[98]⟩, ⟨#[50]⟩)]
/-- The two lines. -/
def pxS : ByteArray := ⟨#[97, 126, 32, 99, 58, 61, 50, 32, 99, 43, 61, 51]⟩
def pxT : ByteArray := ⟨#[97, 45, 61, 120, 32, 98, 58, 61, 50]⟩

theorem px_ab : ltB ⟨#[97]⟩ ⟨#[98]⟩ = true := by decide
theorem px_bc : ltB ⟨#[98]⟩ ⟨#[99]⟩ = true := by decide

theorem pxV_may : mayB pxV = true := mayR_of (by decide) (by decide) (List.pairwise_cons.2 ⟨fun f hf => by rw [List.mem_singleton.1 hf]; exact px_ab, List.pairwise_singleton _ _⟩)
theorem pxW_may : mayB pxW = true := mayR_of (by decide) (by decide) (List.pairwise_cons.2 ⟨fun f hf => by rw [List.mem_singleton.1 hf]; exact px_bc, List.pairwise_singleton _ _⟩)
theorem pxU_may : mayB pxU = true := mayR_of (by decide) (by decide) (List.pairwise_cons.2 ⟨fun f hf => by rw [List.mem_singleton.1 hf]; exact px_ab, List.pairwise_singleton _ _⟩)

theorem px_diff : diffE pxV pxW = pxL := by
  unfold pxV pxW
  rw [diffE, if_pos px_ab, diffE, if_neg (by rw [ltB_irrefl]; decide), if_pos rfl, if_pos rfl, diffE, diffE]
  rfl

theorem pxL_may : mayE pxL = 0 := by decide
theorem pxP_may : mayE pxP = 0 := by decide
theorem px_none : mayE [(0, ⟨#[]⟩, ⟨#[]⟩)] = 2 := by decide

theorem px_code : codeDf pxV pxW = 0 := by rw [codeDf_of pxV_may pxW_may, px_diff]; decide
theorem px_ans : ansDf pxV pxW = pxL := by unfold ansDf; rw [if_pos px_code, px_diff]
theorem px_line : prE pxL = pxS := by unfold prE; rw [if_pos pxL_may]; rfl
theorem px_words : editsW (wordsAns pxT.data.toList) = some pxP := by
  have e : pxT = lineE pxP := rfl
  rw [e]
  obtain ⟨_, h1, h2, _⟩ := mayE_zero pxP_may
  exact lineE_back pxP fun x hx => ⟨h1 x hx, h2 x hx⟩
theorem px_read : codeL (editsW (wordsAns pxT.data.toList)) = 0 ∧ ansL (editsW (wordsAns pxT.data.toList)) = pxP := by
  rw [px_words]
  exact ⟨pxP_may, by unfold ansL; simp only; rw [if_pos pxP_may]⟩
theorem px_run : runE pxV pxP = (0, pxU) := by rfl
theorem px_apply : codeA pxV pxP = 0 := codeA_of pxV_may pxP_may (by rw [px_run]) (by rw [px_run]; exact pxU_may)
theorem px_made : ansA pxV pxP = pxU := by unfold ansA; rw [if_pos px_apply, px_run]

end Go.Proofs.YtelcongbnmfegabGreatDoor

/-
  The chapter's examples of edits, walked (stage 8).
-/
namespace Go.Proofs.YtelcongbnmfegabGreatDoor
open Go.RowKit

theorem mayE_fit {l : List Ed} (h : mayE l = 0) : FitE l := by
  obtain ⟨h1, h2, h3, h4⟩ := mayE_zero h
  refine ⟨by unfold maxLen; omega, fun x hx => ?_⟩
  have e1 : x.2.1.size ≤ 32 := by simpa using fieldB_len (h2 x hx)
  have e2 := of_decide_eq_true (h4 x hx)
  have e3 := h3 x hx
  unfold rightE at e3
  simp only [Bool.and_eq_true, decide_eq_true_eq] at e3
  exact ⟨by unfold maxLen; omega, by unfold maxLen; omega, by omega, by omega⟩

theorem ansA_fit {V : List Fld} {l : List Ed} {o : List Fx} (h : o.map Fx.fld = ansA V l) : FitX o := by
  by_cases hc : codeA V l = 0
  · exact may_fitE (by rw [h]; exact ansA_may hc)
  · rw [ansA_none hc] at h
    have : o = [] := List.map_eq_nil_iff.1 h
    subst this
    exact ⟨Nat.zero_le _, fun x hx => by cases hx⟩

/-- Two fields laid as a literal: their texts, one behind the other, then the row. -/
theorem lay_two (w : World) (n1 n2 : ByteArray) (t1 t2 : List ByteArray) (W : World)
    (hW : ((w.alloc (.cells (t1.map Value.string).toArray 9)).alloc (.cells (t2.map Value.string).toArray 9)).alloc (.cells #[.string n1, .slice (some ⟨w.heap.size, 0, none⟩) t1.length t1.length, .string n2, .slice (some ⟨w.heap.size + 1, 0, none⟩) t2.length t2.length] 35) = W) :
    (∃ d : List Fx, d.map Fx.fld = [(n1, t1), (n2, t2)] ∧ IsXs W (.slice (some ⟨w.heap.size + 2, 0, none⟩) 2 2) d) ∧ Below w.heap.size w W ∧ W.heap.size = w.heap.size + 3 := by
  have h1 : W.heap[w.heap.size]? = some (.cells (t1.map Value.string).toArray 9 (0, 0)) := by
    rw [← hW]
    exact (Below.heap_alloc _ _ _ (by simp; omega)).trans ((Below.heap_alloc _ _ _ (by simp)).trans (heap_alloc_new w _))
  have h2 : W.heap[w.heap.size + 1]? = some (.cells (t2.map Value.string).toArray 9 (0, 0)) := by
    rw [← hW]
    refine (Below.heap_alloc _ _ _ (by simp)).trans ?_
    have := heap_alloc_new (w.alloc (.cells (t1.map Value.string).toArray 9)) (.cells (t2.map Value.string).toArray 9)
    rwa [World.size_alloc] at this
  have h3 : W.heap[w.heap.size + 2]? = some (.cells #[.string n1, .slice (some ⟨w.heap.size, 0, none⟩) t1.length t1.length, .string n2, .slice (some ⟨w.heap.size + 1, 0, none⟩) t2.length t2.length] 35 (0, 0)) := by
    rw [← hW]
    have := heap_alloc_new ((w.alloc (.cells (t1.map Value.string).toArray 9)).alloc (.cells (t2.map Value.string).toArray 9)) (.cells #[.string n1, .slice (some ⟨w.heap.size, 0, none⟩) t1.length t1.length, .string n2, .slice (some ⟨w.heap.size + 1, 0, none⟩) t2.length t2.length] 35)
    rwa [World.size_alloc, World.size_alloc] at this
  refine ⟨⟨[⟨n1, some ⟨w.heap.size, 0, none⟩, t1.length, t1⟩, ⟨n2, some ⟨w.heap.size + 1, 0, none⟩, t2.length, t2⟩], rfl, _, 2, rfl, Or.inr ⟨_, 0, rfl, fun i hi => ?_⟩, fun x hx => ?_⟩, ?_, by rw [← hW]; simp⟩
  · have hi2 : i < 2 := hi
    rcases (show i = 0 ∨ i = 1 by omega) with rfl | rfl
    · rw [Lib.cell_of_heap h3, Lib.cell_of_heap h3]
      exact ⟨rfl, rfl⟩
    · rw [Lib.cell_of_heap h3, Lib.cell_of_heap h3]
      exact ⟨rfl, rfl⟩
  · simp only [List.mem_cons, List.not_mem_nil, or_false] at hx
    rcases hx with rfl | rfl
    · refine Or.inr ⟨_, 0, rfl, fun i hi => ?_⟩
      rw [Lib.cell_of_heap h1]
      simp only at hi
      simp [hi]
    · refine Or.inr ⟨_, 0, rfl, fun i hi => ?_⟩
      rw [Lib.cell_of_heap h2]
      simp only at hi
      simp [hi]
  · rw [← hW]
    exact (((Below.refl _ _).alloc (Nat.le_refl _) _).alloc (by simp) _).alloc (by simp; omega) _

theorem two_fields {o : List Fx} {f g : Fld} (h : o.map Fx.fld = [f, g]) : ∃ p1 c1 p2 c2, o = [⟨f.1, p1, c1, f.2⟩, ⟨g.1, p2, c2, g.2⟩] := by
  match o, h with
  | [x, y], h =>
    obtain ⟨n, p, c, t⟩ := x
    obtain ⟨m, q, d, u⟩ := y
    simp only [Fx.fld, List.map_cons, List.map_nil, List.cons.injEq, and_true] at h
    obtain ⟨rfl, rfl⟩ := h
    exact ⟨p, c, q, d, rfl⟩

theorem ke_one (w : World) (x : Ed) : KE.Is (w.alloc (.cells #[.int .i64 x.1, .string x.2.1, .string x.2.2] 24)) (.slice (some ⟨w.heap.size, 0, none⟩) 1 1) [x] := by
  refine ⟨_, 1, rfl, Or.inr ⟨_, 0, rfl, fun i hi j u hu => ?_⟩⟩
  have h0 : i = 0 := by simp at hi; omega
  subst h0
  have := KE.news w x j u (by rw [KE.cells_one]; exact hu)
  rw [addr_add] at this
  rw [Nat.zero_mul, Nat.add_zero]
  exact this

set_option maxHeartbeats 8000000 in
set_option maxRecDepth 100000 in
theorem hfixed_any (w : World) (hp : GoodAt w) : Calls Tryz.prog 4 #[] w fun e w' => e = .returned (.bool true) ∧ Below w.heap.size w w' := by
  obtain ⟨W1, hW1⟩ : ∃ W1, ((w.alloc (.cells #[.string ⟨#[120]⟩, .string ⟨#[121]⟩, .string ⟨#[120]⟩] 9)).alloc (.cells #[.string ⟨#[49]⟩] 9)).alloc (.cells #[.string ⟨#[97]⟩, .slice (some ⟨w.heap.size, 0, none⟩) 3 3, .string ⟨#[98]⟩, .slice (some ⟨w.heap.size + 1, 0, none⟩) 1 1] 35) = W1 := ⟨_, rfl⟩
  obtain ⟨⟨dV, hmV, hv1⟩, hb1, hs1⟩ := lay_two w ⟨#[97]⟩ ⟨#[98]⟩ [⟨#[120]⟩, ⟨#[121]⟩, ⟨#[120]⟩] [⟨#[49]⟩] W1 hW1
  obtain ⟨W2, hW2⟩ : ∃ W2, ((W1.alloc (.cells #[.string ⟨#[49]⟩] 9)).alloc (.cells #[.string ⟨#[50]⟩, .string ⟨#[51]⟩] 9)).alloc (.cells #[.string ⟨#[98]⟩, .slice (some ⟨w.heap.size + 3, 0, none⟩) 1 1, .string ⟨#[99]⟩, .slice (some ⟨w.heap.size + 4, 0, none⟩) 2 2] 35) = W2 := ⟨_, rfl⟩
  obtain ⟨⟨dW, hmW, hv2⟩, hb2, hs2⟩ := lay_two W1 ⟨#[98]⟩ ⟨#[99]⟩ [⟨#[49]⟩] [⟨#[50]⟩, ⟨#[51]⟩] W2 (by rw [hs1]; exact hW2)
  rw [hs1] at hv2
  have hv1' := hv1.kept hb2
  have hbw := bel_then hb1 hb1.size hb2
  have HB2 := hid hbw
  have hmV : dV.map Fx.fld = pxV := hmV
  have hmW : dW.map Fx.fld = pxW := hmW
  have hfV : FitX dV := may_fitE (by rw [hmV]; exact pxV_may)
  have hfW : FitX dW := may_fitE (by rw [hmW]; exact pxW_may)
  have HDI : Hid (Calls Tryz.prog 10 #[.slice (some ⟨w.heap.size + 2, 0, none⟩) 2 2, .slice (some ⟨w.heap.size + 5, 0, none⟩) 2 2] W2 fun e w' => (∃ u, e = .returned (.tuple #[u, .int .i64 0]) ∧ KE.Own W2.heap.size w' u pxL) ∧ Below W2.heap.size W2 w') := by
    refine (pdiff_any _ _ dV dW W2 hv1' hv2 hfV hfW (hp.on hbw)).mono ?_
    rintro e w' ⟨u, rfl, ho, hb⟩
    rw [hmV, hmW, px_ans] at ho
    rw [hmV, hmW, px_code]
    exact ⟨⟨u, rfl, ho⟩, hb⟩
  have HPR : Hid (∀ W u, Below w.heap.size w W → KE.Is W u pxL → Calls Tryz.prog 11 #[u] W fun e w' => e = .returned (.tuple #[.string ⟨#[97, 126, 32, 99, 58, 61, 50, 32, 99, 43, 61, 51]⟩, .int .i64 0]) ∧ Below W.heap.size W w') := fun W u hW hu => by
    have := pprintE_any u pxL W hu (mayE_fit pxL_may) (hp.on hW)
    rw [px_line, pxL_may] at this
    exact this
  have HPA : Hid (∀ W, Below w.heap.size w W → Calls Tryz.prog 12 #[.string ⟨#[97, 45, 61, 120, 32, 98, 58, 61, 50]⟩] W fun e w' => (∃ u, e = .returned (.tuple #[u, .int .i64 0]) ∧ KE.Own W.heap.size w' u pxP) ∧ Below W.heap.size W w') := fun W hW => by
    have := pparseE_any pxT W (by decide) (hp.on hW)
    refine this.mono ?_
    rintro e w' ⟨⟨u, rfl, ho⟩, hb⟩
    rw [px_read.2] at ho
    rw [px_read.1]
    exact ⟨⟨u, rfl, ho⟩, hb⟩
  have HAP : Hid (∀ W u, Below W2.heap.size W2 W → KE.Is W u pxP → Calls Tryz.prog 5 #[.slice (some ⟨w.heap.size + 2, 0, none⟩) 2 2, u] W fun e w' => (∃ u o, e = .returned (.tuple #[u, .int .i64 0]) ∧ IsXs w' u o ∧ o.map Fx.fld = pxU) ∧ Below W.heap.size W w') := fun W u hW hu => by
    have := papply_any _ u dV pxP W (hv1'.kept hW) hfV hu (mayE_fit pxP_may) (hp.on (bel_then hbw hbw.size hW))
    refine this.mono ?_
    rintro e w' ⟨u, o, rfl, hi, hm, hb⟩
    rw [hmV, px_made] at hm
    rw [hmV, px_apply]
    exact ⟨⟨u, o, rfl, hi, hm⟩, hb⟩
  have HMY : Hid (∀ W u, Below w.heap.size w W → KE.Is W u pxP → Calls Tryz.prog 7 #[u] W fun e w' => e = .returned (.int .i64 0) ∧ Below W.heap.size W w') := fun W u hW hu => by
    have := pmayE_any u pxP W hu (mayE_fit pxP_may) (hp.on hW)
    rw [pxP_may] at this
    exact this
  have HMZ : Hid (∀ W : World, Below w.heap.size w W → Calls Tryz.prog 7 #[.slice (some ⟨W.heap.size, 0, none⟩) 1 1] (W.alloc (.cells #[.int .i64 0, .string ⟨#[]⟩, .string ⟨#[]⟩] 24)) fun e w' => e = .returned (.int .i64 2) ∧ Below (W.heap.size + 1) (W.alloc (.cells #[.int .i64 0, .string ⟨#[]⟩, .string ⟨#[]⟩] 24)) w') := fun W hW => by
    have := pmayE_any _ [(0, ⟨#[]⟩, ⟨#[]⟩)] _ (ke_one W (0, ⟨#[]⟩, ⟨#[]⟩)) ⟨by decide, fun x hx => by rw [List.mem_singleton.1 hx]; exact ⟨by decide, by decide, by decide, by decide⟩⟩ (hp.on (hW.alloc hW.size _))
    rw [px_none, World.size_alloc] at this
    exact this
  clear hv1 hv2 hv1' hmV hmW hfV hfW hb1 hb2 hs2 hbw hp
  go_enter Tryz.func4, Tryz.ntmps4
  go_wp2_with fail
  try rw [hW1, hW2]
  clear hW1 hW2 hs1
  refine HDI.out.mono ?_
  rintro e w3 ⟨⟨u3, rfl, ho3⟩, q3⟩
  have HB3 := hid (bel_then HB2.out HB2.out.size q3)
  have HQ3 := hid q3
  have HO3 := hid ho3
  clear ho3 q3 HDI
  go_wp2_with fail
  refine (HPR.out w3 u3 HB3.out (Kind.own_is HO3.out)).mono ?_
  rintro e w4 ⟨rfl, q4⟩
  have HB4 := hid (bel_then HB3.out HB3.out.size q4)
  have HQ4 := hid (bel_then HQ3.out HQ3.out.size q4)
  clear q4 HPR HO3
  go_wp2_with fail
  refine (HPA.out w4 HB4.out).mono ?_
  rintro e w5 ⟨⟨u5, rfl, ho5⟩, q5⟩
  have HB5 := hid (bel_then HB4.out HB4.out.size q5)
  have HQ5 := hid (bel_then HQ4.out HQ4.out.size q5)
  have HO5 := hid ho5
  obtain ⟨p5, c5, hu5⟩ := Kind.own_shape ho5
  subst hu5
  clear ho5 q5 HPA
  go_wp2_with fail
  refine (HAP.out w5 _ HQ5.out (Kind.own_is HO5.out)).mono ?_
  rintro e w6 ⟨⟨u6, o6, rfl, hi6, hm6⟩, q6⟩
  have HB6 := hid (bel_then HB5.out HB5.out.size q6)
  have HO6 := hid (Kind.own_on HO5.out q6)
  obtain ⟨p1, c1, p2, c2, ho6⟩ := two_fields hm6
  subst ho6
  obtain ⟨pu, cu, hu6, hd6, ht6⟩ := hi6
  obtain ⟨b6, f6, hp6, hx6⟩ : ∃ b off, pu = some ⟨b, off, none⟩ ∧ XsAt w6 b off [⟨⟨#[97]⟩, p1, c1, [⟨#[121]⟩]⟩, ⟨⟨#[98]⟩, p2, c2, [⟨#[50]⟩]⟩] := by
    rcases hd6 with h | h
    · cases h
    · exact h
  have ht1 := ht6 _ (List.mem_cons_self ..)
  obtain ⟨b7, f7, hp7, ht7⟩ : ∃ b o, p1 = some ⟨b, o, none⟩ ∧ w6.cell? ⟨b, o, none⟩ = some (.string ⟨#[121]⟩) := by
    rcases ht1 with h | ⟨b, o, h, hc⟩
    · cases h
    · exact ⟨b, o, h, hc 0 (by simp)⟩
  have hc6 := (hx6 0 (by simp)).2
  simp only [Fx.sl, Nat.zero_mul, Nat.add_zero, List.getElem_cons_zero] at hc6
  subst hp7 hp6 hu6
  clear hm6 hd6 ht6 ht1 hx6 q6 HAP HO5
  go_wp2_with fail
  refine (HMY.out w6 _ HB6.out (Kind.own_is HO6.out)).mono ?_
  rintro e w7 ⟨rfl, q7⟩
  have HB7 := hid (bel_then HB6.out HB6.out.size q7)
  clear q7 HMY
  go_wp2_with fail
  refine (HMZ.out w7 HB7.out).mono ?_
  rintro e w8 ⟨rfl, q8⟩
  have hb8 := HB7.out.alloc HB7.out.size (.cells #[.int .i64 0, .string ⟨#[]⟩, .string ⟨#[]⟩] 24)
  have HB8 := hid (hb8.trans (q8.mono (by have := HB7.out.size; omega)))
  clear q8 hb8 HMZ
  go_wp2_with fail
  go_ret
  exact ⟨rfl, HB8.out⟩

end Go.Proofs.YtelcongbnmfegabGreatDoor
