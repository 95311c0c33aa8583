/-
  Texts of this claim, one behind the other: Wfd Wfw Wst Wsp Wpl Wa1.
-/
import Derived.Test.YtjehjjpdicimhaaGreatPd
import Derived.Test.YtjehjjpdicimhaaGreatRows
import Derived.Test.YtjehjjpdicimhaaGreatPf
/-
  The laws of stage 11: the chapter's examples, as data.
-/
namespace Go.Proofs.YtjehjjpdicimhaaGreat
open Go.RowKit

def gxT : ByteArray := ⟨#[65]⟩
def gxa : Ky := (⟨#[65]⟩, ⟨#[97]⟩)
def gxb : Ky := (⟨#[65]⟩, ⟨#[98]⟩)
def gxd : Ky := (⟨#[65]⟩, ⟨#[100]⟩)
def gxV : List Fld := [(⟨#[110]⟩, [⟨#[120]⟩])]
theorem gx_may : mayB gxV = true := by decide
theorem gx_ka : keyB gxa.1 gxa.2 = true := by decide
theorem gx_kb : keyB gxb.1 gxb.2 = true := by decide
theorem gx_k0 : keyB (⟨#[]⟩ : ByteArray) ⟨#[]⟩ = false := by decide
theorem gx_ab : gxa ≠ gxb := fun h => by
  have := congrArg (fun k : Ky => k.2.data.toList) h
  simp [gxa, gxb] at this
theorem gx_ad : gxa ≠ gxd := fun h => by
  have := congrArg (fun k : Ky => k.2.data.toList) h
  simp [gxa, gxd] at this
theorem gx_bd : gxb ≠ gxd := fun h => by
  have := congrArg (fun k : Ky => k.2.data.toList) h
  simp [gxb, gxd] at this
theorem gx_lt : ltKy gxb gxa = false := by decide
theorem gx_lt2 : ltKy gxa gxd = true := by decide

def gW1 : List RowW := [(gxa, some gxV)]
def gW2 : List RowW := [(gxa, some gxV), (gxb, none)]
theorem gc1 : codePW gxa gxV = 0 := by unfold codePW; rw [if_neg (by rw [gx_ka]; simp), if_neg (by rw [gx_may]; simp)]
theorem gc2 : codeDW gxb = 0 := by unfold codeDW; rw [if_neg (by rw [gx_kb]; simp)]
theorem gc3 : codePW (⟨#[]⟩, ⟨#[]⟩) [] = 2 := by unfold codePW; rw [if_pos gx_k0]
theorem gp1 : putW [] gxa gxV = gW1 := by unfold putW; rw [if_pos gc1]; rfl
theorem gp2 : dltW gW1 gxb = gW2 := by
  unfold dltW
  rw [if_pos gc2]
  unfold layW delW gW1
  rw [List.filter_cons, decide_eq_false gx_ab]
  simp only [Bool.not_false, if_true, List.filter_nil]
  unfold insP
  rw [gx_lt]
  rfl
theorem gp3 : putW gW2 (⟨#[]⟩, ⟨#[]⟩) [] = gW2 := by unfold putW; rw [gc3]; rfl
theorem gg1 : getW gW2 gxa = some (some gxV) := by unfold gW2 getW; rw [if_pos rfl]
theorem gg2 : getW gW2 gxb = some none := by unfold gW2 getW; rw [if_neg gx_ab]; unfold getW; rw [if_pos rfl]
theorem gg3 : getW gW2 gxd = none := by unfold gW2 getW; rw [if_neg gx_ad]; unfold getW; rw [if_neg gx_bd]; rfl
theorem gg4 : getW (delW gW2 gxb) gxb = none := by rw [getW_del, if_pos rfl]

def gF : List Fnd := [(gxb, ⟨0, 0, 0, false, []⟩), (gxd, ⟨0, 0, 0, false, []⟩)]
theorem gover : overW gW2 gF gxT (matchM []) = [(gxa, ⟨0, 0, 0, true, gxV⟩), (gxd, ⟨0, 0, 0, false, []⟩)] := by
  have h1 : freeW gW2 gF = [(gxd, ⟨0, 0, 0, false, []⟩)] := by
    unfold freeW gF
    have e1 : (getW gW2 ((gxb, (⟨0, 0, 0, false, []⟩ : Vr)) : Fnd).1).isNone = false := by rw [gg2]; rfl
    have e2 : (getW gW2 ((gxd, (⟨0, 0, 0, false, []⟩ : Vr)) : Fnd).1).isNone = true := by rw [gg3]; rfl
    rw [List.filter_cons, List.filter_cons, e1, e2]
    rfl
  have h2 : hitsW gW2 gxT (matchM []) = [(gxa, ⟨0, 0, 0, true, gxV⟩)] := by
    unfold hitsW gW2
    rw [List.filterMap_cons]
    have : hitW gxT (matchM []) (gxa, some gxV) = some (gxa, ⟨0, 0, 0, true, gxV⟩) := by
      unfold hitW
      simp only
      rw [if_pos ⟨rfl, rfl⟩]
    rw [this]
    rfl
  unfold overW
  rw [h1, h2]
  show insP (gxa, _) [(gxd, _)] = _
  unfold insP
  show (if ltKy gxa gxd = true then _ else _) = _
  rw [gx_lt2]
  rfl

theorem fitKy_a : FitKy gxa := ⟨by decide, by decide⟩
theorem fitKy_b : FitKy gxb := ⟨by decide, by decide⟩
theorem fitKy_0 : FitKy ((⟨#[]⟩ : ByteArray), ⟨#[]⟩) := ⟨by decide, by decide⟩

end Go.Proofs.YtjehjjpdicimhaaGreat

/-
  The laws of stage 11: the chapter's examples, walked.
-/
namespace Go.Proofs.YtjehjjpdicimhaaGreat
open Go.RowKit

/-- The field n with the text x, as it lies: two blocks. -/
def gXs (b : Nat) : List Fx := [⟨⟨#[110]⟩, some ⟨b, 0, none⟩, 1, [⟨#[120]⟩]⟩]
theorem gxs_is {W : World} {b c : Nat} (h1 : W.heap[c]? = some (.cells #[.string ⟨#[110]⟩, .slice (some ⟨b, 0, none⟩) 1 1] 63 (0, 0))) (h2 : W.heap[b]? = some (.cells #[.string ⟨#[120]⟩] 9 (0, 0))) : IsXs W (.slice (some ⟨c, 0, none⟩) 1 1) (gXs b) := by
  refine ⟨_, _, rfl, Or.inr ⟨_, _, rfl, fun i hi => ?_⟩, fun x hx => ?_⟩
  · have hi' : i = 0 := by simpa [gXs] using hi
    subst hi'
    exact ⟨by rw [Lib.cell_of_heap h1]; rfl, by rw [Lib.cell_of_heap h1]; rfl⟩
  · rw [gXs, List.mem_singleton] at hx
    subst hx
    refine Or.inr ⟨_, _, rfl, fun i hi => ?_⟩
    have hi' : i = 0 := by simpa using hi
    subst hi'
    rw [Lib.cell_of_heap h2]; rfl
theorem gxs_fit (b : Nat) : FitX (gXs b) := (may_fit (o := gXs b) gx_may).1

/-- The two finds of the example, as they lie. -/
def gFd : List Fd := [⟨⟨#[65]⟩, ⟨#[98]⟩, ⟨0, 0, 0, false, none, 0, []⟩⟩, ⟨⟨#[65]⟩, ⟨#[100]⟩, ⟨0, 0, 0, false, none, 0, []⟩⟩]
theorem gfd_in {W : World} {c : Nat} (h : W.heap[c]? = some (.cells #[.string ⟨#[65]⟩, .string ⟨#[98]⟩, .int .i64 0, .int .u64 0, .int .i64 0, .bool false, .slice none 0 0, .string ⟨#[65]⟩, .string ⟨#[100]⟩, .int .i64 0, .int .u64 0, .int .i64 0, .bool false, .slice none 0 0] 53 (0, 0))) : FoundIn W (.slice (some ⟨c, 0, none⟩) 2 2) gFd := by
  refine ⟨⟨_, _, rfl, Or.inr ⟨c, 0, rfl, fun i hi j u hu => ?_⟩⟩, fun f hf => ?_, fun f hf => ?_⟩
  · have hi' : i = 0 ∨ i = 1 := by simp [gFd] at hi; omega
    rw [Lib.cell_of_heap h]
    rcases hi' with rfl | rfl
    · have hj := (List.getElem?_eq_some_iff.1 hu).1
      have : j < 7 := hj
      rcases j with _ | _ | _ | _ | _ | _ | _ | j
      all_goals first | exact hu | omega
    · have hj := (List.getElem?_eq_some_iff.1 hu).1
      have : j < 7 := hj
      rcases j with _ | _ | _ | _ | _ | _ | _ | j
      all_goals first | exact hu | omega
  · have : f.v = ⟨0, 0, 0, false, none, 0, []⟩ := by
      simp only [gFd, List.mem_cons, List.not_mem_nil, or_false] at hf
      rcases hf with rfl | rfl <;> rfl
    rw [this]
    exact ⟨(isXs_nil W).1, (isXs_nil W).2.1, (isXs_nil W).2.2⟩
  · simp only [gFd, List.mem_cons, List.not_mem_nil, or_false] at hf
    rcases hf with rfl | rfl
    · exact ⟨by decide, by decide⟩
    · exact ⟨by decide, by decide⟩

set_option linter.unusedSimpArgs false in
set_option maxHeartbeats 8000000 in
set_option maxRecDepth 100000 in
theorem fixed11_any (S : SetApi) (w : World) : Calls Tryz.prog 5 #[] w fun e w' => e = .returned (.bool true) ∧ Below w.heap.size w w' := by
  have HN := hid (S.new w.heap.size w (Nat.le_refl _))
  go_enter Tryz.func5, Tryz.ntmps5
  go_wp2_with fail
  refine HN.out.mono ?_
  rintro e w1 ⟨B, g, rfl, hp1, hb1, hB⟩
  obtain ⟨N, hN⟩ : ∃ N, w.heap.size = N := ⟨_, rfl⟩
  obtain ⟨A, hA⟩ : ∃ A, w1.heap.size = A := ⟨_, rfl⟩
  have hNA : N ≤ A := by have := hb1.size; omega
  obtain ⟨W2, hW2⟩ : ∃ W2, (w1.alloc (.cells #[.string ⟨#[65]⟩, .string ⟨#[97]⟩] 31)).alloc (.cells #[.string ⟨#[65]⟩, .string ⟨#[98]⟩] 31) = W2 := ⟨_, rfl⟩
  have hbW2 : Below w1.heap.size w1 W2 := by rw [← hW2]; exact ((Below.refl _ _).alloc (Nat.le_refl _) _).alloc (by simp) _
  have hsW2 : W2.heap.size = A + 2 := by rw [← hW2, ← hA]; simp
  have hka : W2.heap[A]? = some (.cells #[.string ⟨#[65]⟩, .string ⟨#[97]⟩] 31 (0, 0)) := by rw [← hW2, ← hA, Below.heap_alloc _ _ _ (by simp)]; exact heap_alloc_new w1 _
  have hkb : W2.heap[A + 1]? = some (.cells #[.string ⟨#[65]⟩, .string ⟨#[98]⟩] 31 (0, 0)) := by
    rw [← hW2, ← hA]; have := heap_alloc_new (w1.alloc (.cells #[.string ⟨#[65]⟩, .string ⟨#[97]⟩] 31)) (.cells #[.string ⟨#[65]⟩, .string ⟨#[98]⟩] 31); simpa using this
  have hBA : ∀ k, B k → N ≤ k ∧ k < A := fun k hk => by have := S.blk hp1 k hk; omega
  have KEY : Hid (∀ L W, OneW S N W2 B g L W → (W.cell? ⟨A, 0, none⟩ = some (.string ⟨#[65]⟩) ∧ W.cell? ⟨A, 1, none⟩ = some (.string ⟨#[97]⟩) ∧ W.cell? ⟨A + 1, 0, none⟩ = some (.string ⟨#[65]⟩) ∧ W.cell? ⟨A + 1, 1, none⟩ = some (.string ⟨#[98]⟩)) ∧ N ≤ W.heap.size ∧ A + 2 ≤ W.heap.size) := fun L W h => by
    have h1 := (h.block (b := A) (by omega) (fun hb => by have := hBA A hb; omega)).trans hka
    have h2 := (h.block (b := A + 1) (by omega) (fun hb => by have := hBA _ hb; omega)).trans hkb
    have h3 := h.size
    exact ⟨⟨by rw [Lib.cell_of_heap h1]; rfl, by rw [Lib.cell_of_heap h1]; rfl, by rw [Lib.cell_of_heap h2]; rfl, by rw [Lib.cell_of_heap h2]; rfl⟩, by omega, by omega⟩
  have HBW : Hid (∀ L W, OneW S N W2 B g L W → Below N w W) := fun L W h => (by rw [← hN]; exact bel_then hb1 hb1.size hbW2 : Below N w W2).trans (h.below (by omega) fun k hk => (hBA k hk).1)
  have H2 : Hid (OneW S N W2 B g [] W2) := OneW.start (by rw [← hN]; exact S.on hp1 hbW2)
  obtain ⟨⟨a0, a1, b0, b1⟩, _⟩ := KEY.out _ _ H2.out
  -- the value's two blocks
  obtain ⟨W3, hW3⟩ : ∃ W3, (W2.drew.alloc (.cells #[.string ⟨#[120]⟩] 9)) = W3 := ⟨_, rfl⟩
  obtain ⟨W4, hW4⟩ : ∃ W4, W3.alloc (.cells #[.string ⟨#[110]⟩, .slice (some ⟨A + 2, 0, none⟩) 1 1] 63) = W4 := ⟨_, rfl⟩
  have hb3 : Below W2.heap.size W2 W3 := by rw [← hW3]; exact (bel_drewN (Below.refl _ _) 1).alloc (Nat.le_refl _) _
  have hs3 : W3.heap.size = A + 3 := by rw [← hW3]; simp [hsW2]
  have hb4 : Below W3.heap.size W3 W4 := by rw [← hW4]; exact (Below.refl _ _).alloc (Nat.le_refl _) _
  have h32 : W3.heap[A + 2]? = some (.cells #[.string ⟨#[120]⟩] 9 (0, 0)) := by rw [← hW3, ← hsW2]; exact heap_alloc_new W2.drew _
  have h43 : W4.heap[A + 3]? = some (.cells #[.string ⟨#[110]⟩, .slice (some ⟨A + 2, 0, none⟩) 1 1] 63 (0, 0)) := by rw [← hW4, ← hs3]; exact heap_alloc_new W3 _
  have h42 : W4.heap[A + 2]? = some (.cells #[.string ⟨#[120]⟩] 9 (0, 0)) := (hb4.block _ (by omega)).trans h32
  have o3 := H2.out.on hb3
  have o4 := o3.on hb4
  obtain ⟨⟨c0, c1, d0, d1⟩, _⟩ := KEY.out _ _ o3
  obtain ⟨⟨e0, e1, f0, f1⟩, hn4, _⟩ := KEY.out _ _ o4
  have HP1 := hid (onew_put o4 hn4 (by decide) gxa fitKy_a _ (gXs (A + 2)) gxV (gxs_is h43 h42) (gxs_fit _) rfl)
  rw [gc1, gp1] at HP1
  simp only [gxa] at HP1
  clear hp1 hb1 hB hka hkb hbW2 hb3 hb4 h32 h43 h42 o3 o4 HN hn4
  go_upto_region 5 with fail
  try rw [hA]
  try rw [hW2]
  refine wp_region_held_drew (S := fun w' => w'.cell? ⟨A, 0, none⟩ = some (.string ⟨#[65]⟩) ∧ w'.cell? ⟨A, 1, none⟩ = some (.string ⟨#[97]⟩) ∧ w'.cell? ⟨A + 1, 0, none⟩ = some (.string ⟨#[65]⟩) ∧ w'.cell? ⟨A + 1, 1, none⟩ = some (.string ⟨#[98]⟩)) (by kernel_rfl) ⟨a0, a1, b0, b1⟩ (fun hHeld => ?_)
  refine take_val (i := 0) (.pointer (some ⟨g, 0, none⟩)) rfl (by kernel_rfl) (by kernel_rfl) (by kernel_rfl) (fun _ _ _ h => h) (by rfl) (fun w hSw => by go_simp) hHeld ?_
  simp only [Act.put, List.setIfInBounds_toArray, List.set_cons_zero, List.set_cons_succ]
  refine take_val (i := 1) (.agg #[.string ⟨#[65]⟩, .string ⟨#[97]⟩]) rfl (by kernel_rfl) (by kernel_rfl) (by kernel_rfl) (fun _ _ _ h => h) (by rfl) (fun w hSw => by go_simp) hHeld ?_
  simp only [Act.put, List.setIfInBounds_toArray, List.set_cons_zero, List.set_cons_succ]
  refine take_val (i := 6) (.pointer (some ⟨g, 0, none⟩)) rfl (by kernel_rfl) (by kernel_rfl) (by kernel_rfl) (fun _ _ _ h => h) (by rfl) (fun w hSw => by go_simp) hHeld ?_
  simp only [Act.put, List.setIfInBounds_toArray, List.set_cons_zero, List.set_cons_succ]
  refine take_val (i := 7) (.agg #[.string ⟨#[65]⟩, .string ⟨#[98]⟩]) rfl (by kernel_rfl) (by kernel_rfl) (by kernel_rfl) (fun _ _ _ h => h) (by rfl) (fun w hSw => by go_simp) hHeld ?_
  simp only [Act.put, List.setIfInBounds_toArray, List.set_cons_zero, List.set_cons_succ]
  refine take_val (i := 9) (.pointer (some ⟨g, 0, none⟩)) rfl (by kernel_rfl) (by kernel_rfl) (by kernel_rfl) (fun _ _ _ h => h) (by rfl) (fun w hSw => by go_simp) hHeld ?_
  simp only [Act.put, List.setIfInBounds_toArray, List.set_cons_zero, List.set_cons_succ]
  refine take_val (i := 10) (.agg #[.string ⟨#[]⟩, .string ⟨#[]⟩]) rfl (by kernel_rfl) (by kernel_rfl) (by kernel_rfl) (fun _ _ _ h => h) (by rfl) (fun w hSw => by go_simp) hHeld ?_
  simp only [Act.put, List.setIfInBounds_toArray, List.set_cons_zero, List.set_cons_succ]
  clear hHeld
  refine wpAnyH_ready (rs := [2]) (by kernel_rfl) (by simp) ?_
  refine AllReadyH.cons (at_drop0 rfl) (fun K hK => ?_) AllReadyH.nil
  rw [if_pos (by rfl)]
  go_simp
  go_wp2_with fail
  try rw [hW3]
  refine hK.out _ _ (⟨c0, c1, d0, d1⟩) (fun hHeld => ?_)
  clear hK K
  try simp only [Act.put, List.setIfInBounds_toArray, List.set_cons_zero, List.set_cons_succ]
  refine take_val (i := 3) (.agg #[.string ⟨#[110]⟩, .slice (some ⟨A + 2, 0, none⟩) 1 1]) rfl (by kernel_rfl) (by kernel_rfl) (by kernel_rfl) (fun _ _ _ h => h) (by rfl) (fun w hSw => by go_simp) hHeld ?_
  simp only [Act.put, List.setIfInBounds_toArray, List.set_cons_zero, List.set_cons_succ]
  clear hHeld
  refine wpAnyH_ready (rs := [4]) (by kernel_rfl) (by simp) ?_
  refine AllReadyH.cons (at_drop0 rfl) (fun K hK => ?_) AllReadyH.nil
  rw [if_pos (by rfl)]
  go_simp
  go_wp2_with fail
  try rw [hW4]
  refine hK.out _ _ (⟨e0, e1, f0, f1⟩) (fun hHeld => ?_)
  clear hK K
  try simp only [Act.put, List.setIfInBounds_toArray, List.set_cons_zero, List.set_cons_succ]
  clear hHeld
  refine wpAnyH_ready (rs := [5]) (by kernel_rfl) (by simp) ?_
  refine AllReadyH.cons (at_drop0 rfl) (fun K hK => ?_) AllReadyH.nil
  rw [if_pos (by rfl)]
  go_simp
  refine HP1.out.mono ?_
  rintro e w5 ⟨rfl, o5⟩
  obtain ⟨⟨a0, a1, b0, b1⟩, hn5, _⟩ := KEY.out _ _ o5
  have HP2 := hid (onew_del o5 hn5 (by decide) gxb fitKy_b)
  rw [gc2, gp2] at HP2
  simp only [gxb] at HP2
  clear o5 HP1 hn5
  go_wp2_with fail
  refine hK.out _ _ (⟨a0, a1, b0, b1⟩) (fun hHeld => ?_)
  clear hK K
  try simp only [Act.put, List.setIfInBounds_toArray, List.set_cons_zero, List.set_cons_succ]
  clear hHeld
  refine wpAnyH_ready (rs := [8]) (by kernel_rfl) (by simp) ?_
  refine AllReadyH.cons (at_drop0 rfl) (fun K hK => ?_) AllReadyH.nil
  rw [if_pos (by rfl)]
  go_simp
  refine HP2.out.mono ?_
  rintro e w6 ⟨rfl, o6⟩
  obtain ⟨⟨a0, a1, b0, b1⟩, hn6, _⟩ := KEY.out _ _ o6
  have HP3 := hid (onew_put o6 hn6 (by decide) (⟨#[]⟩, ⟨#[]⟩) fitKy_0 (.slice none 0 0) [] [] (isXs_nil _).1 (isXs_nil w6).2.1 rfl)
  rw [gc3, gp3] at HP3
  clear o6 HP2 hn6
  go_wp2_with fail
  refine hK.out _ _ (⟨a0, a1, b0, b1⟩) (fun hHeld => ?_)
  clear hK K
  try simp only [Act.put, List.setIfInBounds_toArray, List.set_cons_zero, List.set_cons_succ]
  clear hHeld
  refine wpAnyH_ready (rs := [11]) (by kernel_rfl) (by simp) ?_
  refine AllReadyH.cons (at_drop0 rfl) (fun K hK => ?_) AllReadyH.nil
  rw [if_pos (by rfl)]
  go_simp
  refine HP3.out.mono ?_
  rintro e w7 ⟨rfl, o7⟩
  obtain ⟨⟨a0, a1, b0, b1⟩, hn7, hn7'⟩ := KEY.out _ _ o7
  have HG := hid (onew_get o7 (by decide) gxa fitKy_a)
  have HO7 := hid o7
  simp only [gxa] at HG
  clear o7 HP3
  go_wp2_with fail
  refine hK.out _ _ (⟨a0, a1, b0, b1⟩) (fun hHeld => ?_)
  clear hK K
  try simp only [Act.put, List.setIfInBounds_toArray, List.set_cons_zero, List.set_cons_succ]
  refine take_val (i := 12) (.int .i64 0) rfl (by kernel_rfl) (by kernel_rfl) (by kernel_rfl) (fun _ _ _ h => h) (by rfl) (fun w hSw => by go_simp) hHeld ?_
  simp only [Act.put, List.setIfInBounds_toArray, List.set_cons_zero, List.set_cons_succ]
  refine take_val (i := 13) (.int .i64 0) rfl (by kernel_rfl) (by kernel_rfl) (by kernel_rfl) (fun _ _ _ h => h) (by rfl) (fun w hSw => by go_simp) hHeld ?_
  simp only [Act.put, List.setIfInBounds_toArray, List.set_cons_zero, List.set_cons_succ]
  refine take_val (i := 14) (.int .i64 2) rfl (by kernel_rfl) (by kernel_rfl) (by kernel_rfl) (fun _ _ _ h => h) (by rfl) (fun w hSw => by go_simp) hHeld ?_
  simp only [Act.put, List.setIfInBounds_toArray, List.set_cons_zero, List.set_cons_succ]
  refine wpAnyH_done (by kernel_rfl) ?_ _
  clear hHeld
  go_wp2_with fail
  refine HG.out.mono ?_
  rintro e w8 ⟨p, c, o, rfl, _, ho, hb8⟩
  have hgg := gg1
  rw [gxa] at hgg
  rw [hgg] at ho ⊢
  have hlv : liveW (some (some gxV)) = true := rfl
  rw [hlv]
  have hol : o.length = 1 := by
    have := congrArg List.length ho
    simpa [valW, gxV] using this
  have o8 := HO7.out.on hb8
  obtain ⟨⟨a0, a1, b0, b1⟩, hn8, hn8'⟩ := KEY.out _ _ o8
  rw [hol]
  clear ho hb8 HO7 HG hn7 hn7' hol hgg
  obtain ⟨A8, hA8⟩ : ∃ A8, w8.heap.size = A8 := ⟨_, rfl⟩
  obtain ⟨W9, hW9⟩ : ∃ W9, w8.alloc (.cells #[.string ⟨#[65]⟩, .string ⟨#[98]⟩, .int .i64 0, .int .u64 0, .int .i64 0, .bool false, .slice none 0 0, .string ⟨#[65]⟩, .string ⟨#[100]⟩, .int .i64 0, .int .u64 0, .int .i64 0, .bool false, .slice none 0 0] 53) = W9 := ⟨_, rfl⟩
  have hb9 : Below w8.heap.size w8 W9 := by rw [← hW9]; exact (Below.refl _ _).alloc (Nat.le_refl _) _
  have hob9 : W9.heap[A8]? = some (.cells #[.string ⟨#[65]⟩, .string ⟨#[98]⟩, .int .i64 0, .int .u64 0, .int .i64 0, .bool false, .slice none 0 0, .string ⟨#[65]⟩, .string ⟨#[100]⟩, .int .i64 0, .int .u64 0, .int .i64 0, .bool false, .slice none 0 0] 53 (0, 0)) := by rw [← hW9, ← hA8]; exact heap_alloc_new w8 _
  have o9 := o8.on hb9
  have HOV := hid (onew_over o9 _ gFd (gfd_in hob9) gxT (.slice none 0 0) [] (Kind.is_nil KM W9) ⟨Nat.zero_le _, fun _ h => by simp at h⟩ (by decide))
  have hgm : gFd.map Fd.fnd = gF := rfl
  rw [hgm, gover] at HOV
  simp only [gxT] at HOV
  have HO9 := hid o9
  clear o8 o9 hb9 hob9 hgm hn8 hn8'
  go_wp2_with fail
  try rw [hA8]
  try rw [hW9]
  refine HOV.out.mono ?_
  rintro e w10 ⟨u, fs, rfl, hown, _, _, hfs, hb10⟩
  obtain ⟨f0, f1, rfl⟩ : ∃ f0 f1, fs = [f0, f1] := by
    have := congrArg List.length hfs
    match fs, this with
    | [x, y], _ => exact ⟨x, y, rfl⟩
  obtain ⟨pu, cap, rfl⟩ := Kind.own_shape hown
  obtain ⟨G, rfl, _, _, hat, _⟩ := Kind.own_form hown (by simp)
  have o10 := HO9.out.on hb10
  obtain ⟨k0, k1, _⟩ := kfd_at hat 0 (by simp)
  have hf0 : f0.fnd = (gxa, ⟨0, 0, 0, true, gxV⟩) := by
    simp only [List.map_cons, List.map_nil] at hfs
    injection hfs
  have ha0 : f0.a = ⟨#[65]⟩ := congrArg (fun x : Fnd => x.1.1) hf0
  have hb0 : f0.b = ⟨#[97]⟩ := congrArg (fun x : Fnd => x.1.2) hf0
  simp only [List.getElem_cons_zero, Nat.zero_mul, Nat.zero_add, ha0, hb0] at k0 k1
  have hGs := cell_block k0
  clear hfs hat hf0 ha0 hb0
  have hGn : W9.heap.size ≤ G := (World.ownsRow.lt hown G rfl).1
  obtain ⟨B9, hp9, hf9, hB9⟩ := HO9.out
  have hs29 := hf9.size
  have hs10 := hb10.size
  have KEY2 : Hid (∀ L W, OneW S N w10 B9 g L W → (W.cell? ⟨A, 0, none⟩ = some (.string ⟨#[65]⟩) ∧ W.cell? ⟨A, 1, none⟩ = some (.string ⟨#[97]⟩) ∧ W.cell? ⟨A + 1, 0, none⟩ = some (.string ⟨#[65]⟩) ∧ W.cell? ⟨A + 1, 1, none⟩ = some (.string ⟨#[98]⟩) ∧ W.cell? ⟨G, 0, none⟩ = some (.string ⟨#[65]⟩) ∧ W.cell? ⟨G, 1, none⟩ = some (.string ⟨#[97]⟩)) ∧ N ≤ W.heap.size ∧ Below N w W) := fun L W h => by
    have hA9 : ∀ k, k = A ∨ k = A + 1 → ¬ B9 k := fun k hk hb => by
      rcases hB9 k hb with h1 | h1
      · have := hBA k h1; omega
      · omega
    obtain ⟨⟨z0, z1, z2, z3⟩, z4, _⟩ := KEY.out _ _ o10
    have hbl : ∀ b o v, w10.cell? ⟨b, o, none⟩ = some v → ¬ B9 b → W.cell? ⟨b, o, none⟩ = some v := fun b o v hc hb => (World.cell?_of_block (a := ⟨b, o, none⟩) (h.block (b := b) (cell_block hc) hb)).trans hc
    have hG9 : ¬ B9 G := fun hb => by have := (S.blk hp9 G hb).2; omega
    exact ⟨⟨hbl _ _ _ z0 (hA9 A (Or.inl rfl)), hbl _ _ _ z1 (hA9 A (Or.inl rfl)), hbl _ _ _ z2 (hA9 _ (Or.inr rfl)), hbl _ _ _ z3 (hA9 _ (Or.inr rfl)), hbl _ _ _ k0 hG9, hbl _ _ _ k1 hG9⟩, Nat.le_trans z4 h.size, (HBW.out _ _ o10).trans (h.below z4 fun k hk => (S.blk hp9 k hk).1)⟩
  have q10 : OneW S N w10 B9 g gW2 w10 := OneW.start (S.on hp9 hb10)
  have qd : OneW S N w10 B9 g gW2 w10.drew := q10.on (bel_drewN (Below.refl _ _) 1)
  obtain ⟨⟨a0, a1, b0, b1, g0, g1⟩, _⟩ := KEY2.out _ _ q10
  have HL := hid (onew_len qd (by decide))
  have HQD := hid qd
  have hgl : gW2.length = 2 := rfl
  rw [hgl] at HL
  have heq := fun W => Z.eql_key ⟨#[65]⟩ ⟨#[97]⟩ ⟨#[65]⟩ ⟨#[97]⟩ W
  rw [Z.eqK_iff (⟨#[65]⟩, ⟨#[97]⟩) (⟨#[65]⟩, ⟨#[97]⟩), decide_eq_true rfl] at heq
  clear hown HO9 hp9 hf9 hB9 hb10 o10 q10 qd KEY HBW H2 HOV hW2 hW3 hW4 hW9 k0 k1 hGs hgl
  go_wp2_with fail
  refine wp_region_held_drew (S := fun w' => w'.cell? ⟨A, 0, none⟩ = some (.string ⟨#[65]⟩) ∧ w'.cell? ⟨A, 1, none⟩ = some (.string ⟨#[97]⟩) ∧ w'.cell? ⟨A + 1, 0, none⟩ = some (.string ⟨#[65]⟩) ∧ w'.cell? ⟨A + 1, 1, none⟩ = some (.string ⟨#[98]⟩) ∧ w'.cell? ⟨G, 0, none⟩ = some (.string ⟨#[65]⟩) ∧ w'.cell? ⟨G, 1, none⟩ = some (.string ⟨#[97]⟩)) (by kernel_rfl) ⟨a0, a1, b0, b1, g0, g1⟩ (fun hHeld => ?_)
  refine take_val (i := 0) (.int .i64 0) rfl (by kernel_rfl) (by kernel_rfl) (by kernel_rfl) (fun _ _ _ h => h) (by rfl) (fun w hSw => by go_simp) hHeld ?_
  simp only [Act.put, List.setIfInBounds_toArray, List.set_cons_zero, List.set_cons_succ]
  refine take_val (i := 1) (.bool true) rfl (by kernel_rfl) (by kernel_rfl) (by kernel_rfl) (fun _ _ _ h => h) (by rfl) (fun w hSw => by go_simp) hHeld ?_
  simp only [Act.put, List.setIfInBounds_toArray, List.set_cons_zero, List.set_cons_succ]
  refine take_val (i := 2) (.bool true) rfl (by kernel_rfl) (by kernel_rfl) (by kernel_rfl) (fun _ _ _ h => h) (by rfl) (fun w hSw => by go_simp) hHeld ?_
  simp only [Act.put, List.setIfInBounds_toArray, List.set_cons_zero, List.set_cons_succ]
  refine take_val (i := 3) (.int .i64 0) rfl (by kernel_rfl) (by kernel_rfl) (by kernel_rfl) (fun _ _ _ h => h) (by rfl) (fun w hSw => by go_simp) hHeld ?_
  simp only [Act.put, List.setIfInBounds_toArray, List.set_cons_zero, List.set_cons_succ]
  refine take_val (i := 4) (.bool true) rfl (by kernel_rfl) (by kernel_rfl) (by kernel_rfl) (fun _ _ _ h => h) (by rfl) (fun w hSw => by go_simp) hHeld ?_
  simp only [Act.put, List.setIfInBounds_toArray, List.set_cons_zero, List.set_cons_succ]
  refine take_val (i := 5) (.bool true) rfl (by kernel_rfl) (by kernel_rfl) (by kernel_rfl) (fun _ _ _ h => h) (by rfl) (fun w hSw => by go_simp) hHeld ?_
  simp only [Act.put, List.setIfInBounds_toArray, List.set_cons_zero, List.set_cons_succ]
  refine take_val (i := 6) (.bool true) rfl (by kernel_rfl) (by kernel_rfl) (by kernel_rfl) (fun _ _ _ h => h) (by rfl) (fun w hSw => by go_simp) hHeld ?_
  simp only [Act.put, List.setIfInBounds_toArray, List.set_cons_zero, List.set_cons_succ]
  refine take_val (i := 7) (.int .i64 2) rfl (by kernel_rfl) (by kernel_rfl) (by kernel_rfl) (fun _ _ _ h => h) (by rfl) (fun w hSw => by go_simp) hHeld ?_
  simp only [Act.put, List.setIfInBounds_toArray, List.set_cons_zero, List.set_cons_succ]
  refine take_val (i := 8) (.bool true) rfl (by kernel_rfl) (by kernel_rfl) (by kernel_rfl) (fun _ _ _ h => h) (by rfl) (fun w hSw => by go_simp) hHeld ?_
  simp only [Act.put, List.setIfInBounds_toArray, List.set_cons_zero, List.set_cons_succ]
  refine take_val (i := 9) (.bool true) rfl (by kernel_rfl) (by kernel_rfl) (by kernel_rfl) (fun _ _ _ h => h) (by rfl) (fun w hSw => by go_simp) hHeld ?_
  simp only [Act.put, List.setIfInBounds_toArray, List.set_cons_zero, List.set_cons_succ]
  refine take_val (i := 10) (.bool true) rfl (by kernel_rfl) (by kernel_rfl) (by kernel_rfl) (fun _ _ _ h => h) (by rfl) (fun w hSw => by go_simp) hHeld ?_
  simp only [Act.put, List.setIfInBounds_toArray, List.set_cons_zero, List.set_cons_succ]
  refine take_val (i := 11) (.slice p 1 c) rfl (by kernel_rfl) (by kernel_rfl) (by kernel_rfl) (fun _ _ _ h => h) (by rfl) (fun w hSw => by go_simp) hHeld ?_
  simp only [Act.put, List.setIfInBounds_toArray, List.set_cons_zero, List.set_cons_succ]
  refine take_val (i := 12) (.int .i64 1) rfl (by kernel_rfl) (by kernel_rfl) (by kernel_rfl) (fun _ _ _ h => h) (by rfl) (fun w hSw => by go_simp) hHeld ?_
  simp only [Act.put, List.setIfInBounds_toArray, List.set_cons_zero, List.set_cons_succ]
  refine take_val (i := 13) (.bool true) rfl (by kernel_rfl) (by kernel_rfl) (by kernel_rfl) (fun _ _ _ h => h) (by rfl) (fun w hSw => by go_simp) hHeld ?_
  simp only [Act.put, List.setIfInBounds_toArray, List.set_cons_zero, List.set_cons_succ]
  refine take_val (i := 14) (.bool true) rfl (by kernel_rfl) (by kernel_rfl) (by kernel_rfl) (fun _ _ _ h => h) (by rfl) (fun w hSw => by go_simp) hHeld ?_
  simp only [Act.put, List.setIfInBounds_toArray, List.set_cons_zero, List.set_cons_succ]
  refine take_val (i := 15) (.bool true) rfl (by kernel_rfl) (by kernel_rfl) (by kernel_rfl) (fun _ _ _ h => h) (by rfl) (fun w hSw => by go_simp) hHeld ?_
  simp only [Act.put, List.setIfInBounds_toArray, List.set_cons_zero, List.set_cons_succ]
  refine take_val (i := 16) (.bool true) rfl (by kernel_rfl) (by kernel_rfl) (by kernel_rfl) (fun _ _ _ h => h) (by rfl) (fun w hSw => by go_simp) hHeld ?_
  simp only [Act.put, List.setIfInBounds_toArray, List.set_cons_zero, List.set_cons_succ]
  refine take_val (i := 17) (.bool true) rfl (by kernel_rfl) (by kernel_rfl) (by kernel_rfl) (fun _ _ _ h => h) (by rfl) (fun w hSw => by go_simp) hHeld ?_
  simp only [Act.put, List.setIfInBounds_toArray, List.set_cons_zero, List.set_cons_succ]
  refine take_val (i := 18) (.bool true) rfl (by kernel_rfl) (by kernel_rfl) (by kernel_rfl) (fun _ _ _ h => h) (by rfl) (fun w hSw => by go_simp) hHeld ?_
  simp only [Act.put, List.setIfInBounds_toArray, List.set_cons_zero, List.set_cons_succ]
  refine take_val (i := 19) (.bool true) rfl (by kernel_rfl) (by kernel_rfl) (by kernel_rfl) (fun _ _ _ h => h) (by rfl) (fun w hSw => by go_simp) hHeld ?_
  simp only [Act.put, List.setIfInBounds_toArray, List.set_cons_zero, List.set_cons_succ]
  refine take_val (i := 20) (.bool true) rfl (by kernel_rfl) (by kernel_rfl) (by kernel_rfl) (fun _ _ _ h => h) (by rfl) (fun w hSw => by go_simp) hHeld ?_
  simp only [Act.put, List.setIfInBounds_toArray, List.set_cons_zero, List.set_cons_succ]
  refine take_val (i := 21) (.bool true) rfl (by kernel_rfl) (by kernel_rfl) (by kernel_rfl) (fun _ _ _ h => h) (by rfl) (fun w hSw => by go_simp) hHeld ?_
  simp only [Act.put, List.setIfInBounds_toArray, List.set_cons_zero, List.set_cons_succ]
  refine take_val (i := 22) (.slice (some ⟨G, 0, none⟩) 2 cap) rfl (by kernel_rfl) (by kernel_rfl) (by kernel_rfl) (fun _ _ _ h => h) (by rfl) (fun w hSw => by go_simp) hHeld ?_
  simp only [Act.put, List.setIfInBounds_toArray, List.set_cons_zero, List.set_cons_succ]
  refine take_val (i := 23) (.int .i64 2) rfl (by kernel_rfl) (by kernel_rfl) (by kernel_rfl) (fun _ _ _ h => h) (by rfl) (fun w hSw => by go_simp) hHeld ?_
  simp only [Act.put, List.setIfInBounds_toArray, List.set_cons_zero, List.set_cons_succ]
  refine take_val (i := 24) (.bool true) rfl (by kernel_rfl) (by kernel_rfl) (by kernel_rfl) (fun _ _ _ h => h) (by rfl) (fun w hSw => by go_simp) hHeld ?_
  simp only [Act.put, List.setIfInBounds_toArray, List.set_cons_zero, List.set_cons_succ]
  refine take_val (i := 25) (.bool true) rfl (by kernel_rfl) (by kernel_rfl) (by kernel_rfl) (fun _ _ _ h => h) (by rfl) (fun w hSw => by go_simp) hHeld ?_
  simp only [Act.put, List.setIfInBounds_toArray, List.set_cons_zero, List.set_cons_succ]
  refine take_val (i := 26) (.bool true) rfl (by kernel_rfl) (by kernel_rfl) (by kernel_rfl) (fun _ _ _ h => h) (by rfl) (fun w hSw => by go_simp) hHeld ?_
  simp only [Act.put, List.setIfInBounds_toArray, List.set_cons_zero, List.set_cons_succ]
  refine take_val (i := 27) (.slice (some ⟨G, 0, none⟩) 2 cap) rfl (by kernel_rfl) (by kernel_rfl) (by kernel_rfl) (fun _ _ _ h => h) (by rfl) (fun w hSw => by go_simp) hHeld ?_
  simp only [Act.put, List.setIfInBounds_toArray, List.set_cons_zero, List.set_cons_succ]
  refine take_val (i := 28) (.pointer (some ⟨G, 0, none⟩)) rfl (by kernel_rfl) (by kernel_rfl) (by kernel_rfl) (fun _ _ _ h => h) (by rfl) (fun w hSw => by go_simp) hHeld ?_
  simp only [Act.put, List.setIfInBounds_toArray, List.set_cons_zero, List.set_cons_succ]
  refine take_val (i := 29) (.pointer (some ⟨G, 0, none⟩)) rfl (by kernel_rfl) (by kernel_rfl) (by kernel_rfl) (fun _ _ _ h => h) (by rfl) (fun w hSw => by go_simp) hHeld ?_
  simp only [Act.put, List.setIfInBounds_toArray, List.set_cons_zero, List.set_cons_succ]
  refine take_val (i := 30) (.agg #[.string ⟨#[65]⟩, .string ⟨#[97]⟩]) rfl (by kernel_rfl) (by kernel_rfl) (by kernel_rfl) (fun _ _ _ h => h) (by rfl) (fun w hSw => by go_simp) hHeld ?_
  simp only [Act.put, List.setIfInBounds_toArray, List.set_cons_zero, List.set_cons_succ]
  refine take_val (i := 31) (.agg #[.string ⟨#[65]⟩, .string ⟨#[97]⟩]) rfl (by kernel_rfl) (by kernel_rfl) (by kernel_rfl) (fun _ _ _ h => h) (by rfl) (fun w hSw => by go_simp) hHeld ?_
  simp only [Act.put, List.setIfInBounds_toArray, List.set_cons_zero, List.set_cons_succ]
  refine take_val (i := 32) (.bool true) rfl (by kernel_rfl) (by kernel_rfl) (by kernel_rfl) (fun _ _ _ h => h) (by rfl) (fun w hSw => by go_simp) hHeld ?_
  simp only [Act.put, List.setIfInBounds_toArray, List.set_cons_zero, List.set_cons_succ]
  refine take_val (i := 33) (.bool true) rfl (by kernel_rfl) (by kernel_rfl) (by kernel_rfl) (fun _ _ _ h => h) (by rfl) (fun w hSw => by go_simp) hHeld ?_
  simp only [Act.put, List.setIfInBounds_toArray, List.set_cons_zero, List.set_cons_succ]
  refine take_val (i := 34) (.bool true) rfl (by kernel_rfl) (by kernel_rfl) (by kernel_rfl) (fun _ _ _ h => h) (by rfl) (fun w hSw => by go_simp) hHeld ?_
  simp only [Act.put, List.setIfInBounds_toArray, List.set_cons_zero, List.set_cons_succ]
  refine take_val (i := 35) (.pointer (some ⟨g, 0, none⟩)) rfl (by kernel_rfl) (by kernel_rfl) (by kernel_rfl) (fun _ _ _ h => h) (by rfl) (fun w hSw => by go_simp) hHeld ?_
  simp only [Act.put, List.setIfInBounds_toArray, List.set_cons_zero, List.set_cons_succ]
  clear hHeld
  refine wpAnyH_ready (rs := [36]) (by kernel_rfl) (by simp) ?_
  refine AllReadyH.cons (at_drop0 rfl) (fun K hK => ?_) AllReadyH.nil
  rw [if_pos (by rfl)]
  go_simp
  refine HL.out.mono ?_
  rintro e w11 ⟨rfl, hb11⟩
  have q11 := HQD.out.on hb11
  obtain ⟨⟨a0, a1, b0, b1, g0, g1⟩, _⟩ := KEY2.out _ _ q11
  have HKS := hid (onew_keys q11 (by decide))
  have HQ11 := hid q11
  clear hb11 HL q11 HQD
  go_wp2_with fail
  refine hK.out _ _ (⟨a0, a1, b0, b1, g0, g1⟩) (fun hHeld => ?_)
  clear hK K
  try simp only [Act.put, List.setIfInBounds_toArray, List.set_cons_zero, List.set_cons_succ]
  refine take_val (i := 37) (.bool true) rfl (by kernel_rfl) (by kernel_rfl) (by kernel_rfl) (fun _ _ _ h => h) (by rfl) (fun w hSw => by go_simp) hHeld ?_
  simp only [Act.put, List.setIfInBounds_toArray, List.set_cons_zero, List.set_cons_succ]
  refine take_val (i := 38) (.bool true) rfl (by kernel_rfl) (by kernel_rfl) (by kernel_rfl) (fun _ _ _ h => h) (by rfl) (fun w hSw => by go_simp) hHeld ?_
  simp only [Act.put, List.setIfInBounds_toArray, List.set_cons_zero, List.set_cons_succ]
  refine take_val (i := 39) (.bool true) rfl (by kernel_rfl) (by kernel_rfl) (by kernel_rfl) (fun _ _ _ h => h) (by rfl) (fun w hSw => by go_simp) hHeld ?_
  simp only [Act.put, List.setIfInBounds_toArray, List.set_cons_zero, List.set_cons_succ]
  refine take_val (i := 40) (.pointer (some ⟨g, 0, none⟩)) rfl (by kernel_rfl) (by kernel_rfl) (by kernel_rfl) (fun _ _ _ h => h) (by rfl) (fun w hSw => by go_simp) hHeld ?_
  simp only [Act.put, List.setIfInBounds_toArray, List.set_cons_zero, List.set_cons_succ]
  clear hHeld
  refine wpAnyH_ready (rs := [41]) (by kernel_rfl) (by simp) ?_
  refine AllReadyH.cons (at_drop0 rfl) (fun K hK => ?_) AllReadyH.nil
  rw [if_pos (by rfl)]
  go_simp
  refine HKS.out.mono ?_
  rintro e w12 ⟨u, rfl, hu, hb12⟩
  obtain ⟨pk, ck, rfl⟩ := Kind.own_shape hu
  have hkl : (keysW gW2).length = 2 := rfl
  rw [hkl]
  have q12 := HQ11.out.on hb12
  obtain ⟨⟨a0, a1, b0, b1, g0, g1⟩, hn12, _⟩ := KEY2.out _ _ q12
  have HF1 := hid (onew_forget q12 hn12 (by decide) gxb fitKy_b)
  rw [gg2] at HF1
  simp only [gxb] at HF1
  clear hb12 HKS q12 HQ11 hu hkl hn12
  go_wp2_with fail
  refine hK.out _ _ (⟨a0, a1, b0, b1, g0, g1⟩) (fun hHeld => ?_)
  clear hK K
  try simp only [Act.put, List.setIfInBounds_toArray, List.set_cons_zero, List.set_cons_succ]
  refine take_val (i := 42) (.int .i64 2) rfl (by kernel_rfl) (by kernel_rfl) (by kernel_rfl) (fun _ _ _ h => h) (by rfl) (fun w hSw => by go_simp) hHeld ?_
  simp only [Act.put, List.setIfInBounds_toArray, List.set_cons_zero, List.set_cons_succ]
  refine take_val (i := 43) (.bool true) rfl (by kernel_rfl) (by kernel_rfl) (by kernel_rfl) (fun _ _ _ h => h) (by rfl) (fun w hSw => by go_simp) hHeld ?_
  simp only [Act.put, List.setIfInBounds_toArray, List.set_cons_zero, List.set_cons_succ]
  refine take_val (i := 44) (.bool true) rfl (by kernel_rfl) (by kernel_rfl) (by kernel_rfl) (fun _ _ _ h => h) (by rfl) (fun w hSw => by go_simp) hHeld ?_
  simp only [Act.put, List.setIfInBounds_toArray, List.set_cons_zero, List.set_cons_succ]
  refine take_val (i := 45) (.bool true) rfl (by kernel_rfl) (by kernel_rfl) (by kernel_rfl) (fun _ _ _ h => h) (by rfl) (fun w hSw => by go_simp) hHeld ?_
  simp only [Act.put, List.setIfInBounds_toArray, List.set_cons_zero, List.set_cons_succ]
  refine take_val (i := 46) (.pointer (some ⟨g, 0, none⟩)) rfl (by kernel_rfl) (by kernel_rfl) (by kernel_rfl) (fun _ _ _ h => h) (by rfl) (fun w hSw => by go_simp) hHeld ?_
  simp only [Act.put, List.setIfInBounds_toArray, List.set_cons_zero, List.set_cons_succ]
  refine take_val (i := 47) (.agg #[.string ⟨#[65]⟩, .string ⟨#[98]⟩]) rfl (by kernel_rfl) (by kernel_rfl) (by kernel_rfl) (fun _ _ _ h => h) (by rfl) (fun w hSw => by go_simp) hHeld ?_
  simp only [Act.put, List.setIfInBounds_toArray, List.set_cons_zero, List.set_cons_succ]
  clear hHeld
  refine wpAnyH_ready (rs := [48]) (by kernel_rfl) (by simp) ?_
  refine AllReadyH.cons (at_drop0 rfl) (fun K hK => ?_) AllReadyH.nil
  rw [if_pos (by rfl)]
  go_simp
  refine HF1.out.mono ?_
  rintro e w13 ⟨rfl, q13⟩
  obtain ⟨⟨a0, a1, b0, b1, g0, g1⟩, hn13, _⟩ := KEY2.out _ _ q13
  have HF2 := hid (onew_forget q13 hn13 (Nat.le_trans (delW_len _ _) (by decide)) gxb fitKy_b)
  have hg4 := gg4
  simp only [gxb] at hg4 HF2
  rw [hg4] at HF2
  clear HF1 q13 hn13 hg4
  go_wp2_with fail
  refine hK.out _ _ (⟨a0, a1, b0, b1, g0, g1⟩) (fun hHeld => ?_)
  clear hK K
  try simp only [Act.put, List.setIfInBounds_toArray, List.set_cons_zero, List.set_cons_succ]
  refine take_val (i := 49) (.bool true) rfl (by kernel_rfl) (by kernel_rfl) (by kernel_rfl) (fun _ _ _ h => h) (by rfl) (fun w hSw => by go_simp) hHeld ?_
  simp only [Act.put, List.setIfInBounds_toArray, List.set_cons_zero, List.set_cons_succ]
  refine take_val (i := 50) (.bool true) rfl (by kernel_rfl) (by kernel_rfl) (by kernel_rfl) (fun _ _ _ h => h) (by rfl) (fun w hSw => by go_simp) hHeld ?_
  simp only [Act.put, List.setIfInBounds_toArray, List.set_cons_zero, List.set_cons_succ]
  refine take_val (i := 51) (.pointer (some ⟨g, 0, none⟩)) rfl (by kernel_rfl) (by kernel_rfl) (by kernel_rfl) (fun _ _ _ h => h) (by rfl) (fun w hSw => by go_simp) hHeld ?_
  simp only [Act.put, List.setIfInBounds_toArray, List.set_cons_zero, List.set_cons_succ]
  refine take_val (i := 52) (.agg #[.string ⟨#[65]⟩, .string ⟨#[98]⟩]) rfl (by kernel_rfl) (by kernel_rfl) (by kernel_rfl) (fun _ _ _ h => h) (by rfl) (fun w hSw => by go_simp) hHeld ?_
  simp only [Act.put, List.setIfInBounds_toArray, List.set_cons_zero, List.set_cons_succ]
  clear hHeld
  refine wpAnyH_ready (rs := [53]) (by kernel_rfl) (by simp) ?_
  refine AllReadyH.cons (at_drop0 rfl) (fun K hK => ?_) AllReadyH.nil
  rw [if_pos (by rfl)]
  go_simp
  refine HF2.out.mono ?_
  rintro e w14 ⟨rfl, q14⟩
  obtain ⟨⟨a0, a1, b0, b1, g0, g1⟩, _, hb14⟩ := KEY2.out _ _ q14
  have HB14 := hid hb14
  clear HF2 q14 hb14
  go_wp2_with fail
  refine hK.out _ _ (⟨a0, a1, b0, b1, g0, g1⟩) (fun hHeld => ?_)
  clear hK K
  try simp only [Act.put, List.setIfInBounds_toArray, List.set_cons_zero, List.set_cons_succ]
  refine take_val (i := 54) (.bool true) rfl (by kernel_rfl) (by kernel_rfl) (by kernel_rfl) (fun _ _ _ h => h) (by rfl) (fun w hSw => by go_simp) hHeld ?_
  simp only [Act.put, List.setIfInBounds_toArray, List.set_cons_zero, List.set_cons_succ]
  refine take_val (i := 55) (.bool true) rfl (by kernel_rfl) (by kernel_rfl) (by kernel_rfl) (fun _ _ _ h => h) (by rfl) (fun w hSw => by go_simp) hHeld ?_
  simp only [Act.put, List.setIfInBounds_toArray, List.set_cons_zero, List.set_cons_succ]
  refine take_val (i := 56) (.bool true) rfl (by kernel_rfl) (by kernel_rfl) (by kernel_rfl) (fun _ _ _ h => h) (by rfl) (fun w hSw => by go_simp) hHeld ?_
  simp only [Act.put, List.setIfInBounds_toArray, List.set_cons_zero, List.set_cons_succ]
  refine wpAnyH_done (by kernel_rfl) ?_ _
  clear hHeld
  go_wp2_with fail
  go_ret
  rw [hN]
  exact ⟨rfl, HB14.out⟩

end Go.Proofs.YtjehjjpdicimhaaGreat

/-
  The program's set and the reference's, side by side (stage 11).
-/
namespace Go.Proofs.YtjehjjpdicimhaaGreat
open Go.RowKit

/-- Both sets, from V on: only C's blocks and new ones have turned. -/
def TwoW (S : SetApi) (n0 : Nat) (V : World) (C : Nat → Prop) (g h : Nat) (L L' : List RowW) (W : World) : Prop :=
  ∃ B d vs, S.Prg n0 W B g L ∧ RefW n0 W h d vs ∧ d.map Wx.row = L' ∧ (∀ k, B k → ¬ BlkW h d vs k) ∧ Fr C V W ∧ ∀ k, (B k ∨ BlkW h d vs k) → C k ∨ V.heap.size ≤ k

section
variable {S : SetApi} {n0 : Nat} {V : World} {C : Nat → Prop} {g h : Nat} {L L' : List RowW} {W : World}

theorem TwoW.on {W' : World} (t : TwoW S n0 V C g h L L' W) (hb : Below W.heap.size W W') : TwoW S n0 V C g h L L' W' := by
  obtain ⟨B, d, vs, h1, h2, h3, h4, h5, h6⟩ := t
  exact ⟨B, d, vs, S.on h1 hb, h2.on hb, h3, h4, Fr.then h5 (Fr.of_below (P := fun _ => False) hb) fun _ h => h.elim, h6⟩
theorem TwoW.size (t : TwoW S n0 V C g h L L' W) : V.heap.size ≤ W.heap.size := by
  obtain ⟨B, d, vs, h1, h2, h3, h4, h5, h6⟩ := t
  exact h5.size
theorem TwoW.block (t : TwoW S n0 V C g h L L' W) {b : Nat} (hb : b < V.heap.size) (hC : ¬ C b) : W.heap[b]? = V.heap[b]? := by
  obtain ⟨B, d, vs, h1, h2, h3, h4, h5, h6⟩ := t
  exact h5.block b hb hC
theorem TwoW.below (t : TwoW S n0 V C g h L L' W) {N : Nat} (hN : N ≤ V.heap.size) (hC : ∀ k, C k → N ≤ k) : Below N V W := by
  obtain ⟨B, d, vs, h1, h2, h3, h4, h5, h6⟩ := t
  exact h5.below hN hC
theorem TwoW.ok (t : TwoW S n0 V C g h L L' W) : OkW L ∧ OkW L' := by
  obtain ⟨B, d, vs, h1, h2, h3, h4, h5, h6⟩ := t
  exact ⟨S.ok h1, h3 ▸ h2.ok⟩
theorem TwoW.base (t : TwoW S n0 V C g h L L' W) : n0 ≤ W.heap.size := by
  obtain ⟨B, d, vs, h1, h2, h3, h4, h5, h6⟩ := t
  have := h2.low
  have := h2.lt
  omega
/-- Seen from where it stands. -/
theorem TwoW.now (t : TwoW S n0 V C g h L L' W) : ∃ C', TwoW S n0 W C' g h L L' W ∧ ∀ k, C' k → n0 ≤ k ∧ k < W.heap.size := by
  obtain ⟨B, d, vs, h1, h2, h3, h4, h5, h6⟩ := t
  refine ⟨fun k => B k ∨ BlkW h d vs k, ⟨B, d, vs, h1, h2, h3, h4, Fr.refl _ _, fun k hk => Or.inl hk⟩, fun k hk => ?_⟩
  rcases hk with hk | hk
  · exact S.blk h1 k hk
  · exact h2.blk k hk
theorem TwoW.len (t : TwoW S n0 V C g h L L' W) : ∃ p c, W.cell? ⟨h, 0, none⟩ = some (.slice p L'.length c) := by
  obtain ⟨B, d, vs, h1, h2, h3, h4, h5, h6⟩ := t
  obtain ⟨p, c, rfl⟩ := Kind.own_shape h2.row
  refine ⟨p, c, ?_⟩
  have := h2.cell
  rw [this, ← h3, List.length_map]

theorem TwoW.turn_p {B : Nat → Prop} {d : List Wx} {vs : Value} {L1 : List RowW} {w' : World} (hr : RefW n0 W h d vs) (hL : d.map Wx.row = L') (hd : ∀ k, B k → ¬ BlkW h d vs k) (f : Fr C V W) (hB : ∀ k, (B k ∨ BlkW h d vs k) → C k ∨ V.heap.size ≤ k)
    (ht : ∃ B', S.Prg n0 w' B' g L1 ∧ Fr B W w' ∧ ∀ k, B' k → B k ∨ W.heap.size ≤ k) : TwoW S n0 V C g h L1 L' w' := by
  obtain ⟨B', h1, h2, h3⟩ := ht
  refine ⟨B', d, vs, h1, hr.fr h2 fun k hk hb => hd k hb hk, hL, fun k hk hb => ?_, f.then h2 fun k hk => hB k (Or.inl hk), fun k hk => ?_⟩
  · rcases h3 k hk with h4 | h4
    · exact hd k h4 hb
    · have := (hr.blk k hb).2
      omega
  · rcases hk with hk | hk
    · exact (h3 k hk).elim (fun h => hB k (Or.inl h)) fun h => Or.inr (Nat.le_trans f.size h)
    · exact hB k (Or.inr hk)
theorem TwoW.turn_r {B : Nat → Prop} {d : List Wx} {vs : Value} {L1 : List RowW} {w' : World} (hp : S.Prg n0 W B g L) (_hr : RefW n0 W h d vs) (hd : ∀ k, B k → ¬ BlkW h d vs k) (f : Fr C V W) (hB : ∀ k, (B k ∨ BlkW h d vs k) → C k ∨ V.heap.size ≤ k)
    (ht : RTurnW n0 W h d vs L1 w') : TwoW S n0 V C g h L L1 w' := by
  obtain ⟨d', vs', h1, hL, h2, h3⟩ := ht
  refine ⟨B, d', vs', S.fr hp h2 fun k hk e => hd k hk (e ▸ Or.inl rfl), h1, hL, fun k hk hb => ?_, f.then h2 fun k hk => hB k (Or.inr (hk ▸ Or.inl rfl)), fun k hk => ?_⟩
  · rcases h3 k hb with h4 | h4
    · exact hd k hk h4
    · have := (S.blk hp k hk).2
      omega
  · rcases hk with hk | hk
    · exact hB k (Or.inl hk)
    · exact (h3 k hk).elim (fun h => hB k (Or.inr h)) fun h => Or.inr (Nat.le_trans f.size h)

section
variable (t : TwoW S n0 V C g h L L' W)
include t
theorem tw_put (hl : L.length < 1300000000000) (k : Ky) (hk : FitKy k) (v : Value) (o : List Fx) (val : List Fld) (hv : IsXs W v o) (hf : FitX o) (hval : o.map Fx.fld = val) :
    Calls Tryz.prog 12 #[.pointer (some ⟨g, 0, none⟩), .agg #[.string k.1, .string k.2], v] W fun e w' => e = .returned (.int .i64 (codePW k val)) ∧ TwoW S n0 V C g h (putW L k val) L' w' := by
  have hn := t.base
  obtain ⟨B, d, vs, h1, h2, h3, h4, h5, h6⟩ := t
  exact (S.put h1 hn hl k hk v o val hv hf hval).mono fun e w' q => ⟨q.1, TwoW.turn_p h2 h3 h4 h5 h6 q.2⟩
theorem tw_del (hl : L.length < 1300000000000) (k : Ky) (hk : FitKy k) :
    Calls Tryz.prog 20 #[.pointer (some ⟨g, 0, none⟩), .agg #[.string k.1, .string k.2]] W fun e w' => e = .returned (.int .i64 (codeDW k)) ∧ TwoW S n0 V C g h (dltW L k) L' w' := by
  have hn := t.base
  obtain ⟨B, d, vs, h1, h2, h3, h4, h5, h6⟩ := t
  exact (S.del h1 hn hl k hk).mono fun e w' q => ⟨q.1, TwoW.turn_p h2 h3 h4 h5 h6 q.2⟩
theorem tw_forget (hl : L.length ≤ 1300000000000) (k : Ky) (hk : FitKy k) :
    Calls Tryz.prog 22 #[.pointer (some ⟨g, 0, none⟩), .agg #[.string k.1, .string k.2]] W fun e w' => e = .returned (.bool (getW L k).isSome) ∧ TwoW S n0 V C g h (delW L k) L' w' := by
  have hn := t.base
  obtain ⟨B, d, vs, h1, h2, h3, h4, h5, h6⟩ := t
  exact (S.forget h1 hn hl k hk).mono fun e w' q => ⟨q.1, TwoW.turn_p h2 h3 h4 h5 h6 q.2⟩
theorem tw_get (hl : L.length ≤ 1300000000000) (k : Ky) (hk : FitKy k) :
    Calls Tryz.prog 16 #[.pointer (some ⟨g, 0, none⟩), .agg #[.string k.1, .string k.2]] W fun e w' => GetPostP W L k e w' := by
  obtain ⟨B, d, vs, h1, _⟩ := t
  exact S.get h1 hl k hk
theorem tw_keys (hl : L.length ≤ 1300000000000) : Calls Tryz.prog 9 #[.pointer (some ⟨g, 0, none⟩)] W fun e w' => KeysPost W (keysW L) e w' := by
  obtain ⟨B, d, vs, h1, _⟩ := t
  exact S.keys h1 hl
theorem tw_len (hl : L.length ≤ 1300000000000) : Calls Tryz.prog 23 #[.pointer (some ⟨g, 0, none⟩)] W fun e w' => e = .returned (.int .i64 (L.length : Nat)) ∧ Below W.heap.size W w' := by
  obtain ⟨B, d, vs, h1, _⟩ := t
  exact S.len h1 hl
theorem tw_over (vf : Value) (fo : List Fd) (hfo : FoundIn W vf fo) (typ : ByteArray) (vp : Value) (pt : List Tm) (hp : KM.Is W vp pt) (hpf : FitM pt) (hl : fo.length + L.length ≤ 100000000) :
    Calls Tryz.prog 18 #[.pointer (some ⟨g, 0, none⟩), vf, .string typ, vp] W fun e w' => FoPost W (overW L (fo.map Fd.fnd) typ (matchM pt)) e w' := by
  obtain ⟨B, d, vs, h1, _⟩ := t
  exact S.over h1 vf fo hfo typ vp pt hp hpf hl

theorem tw_rput (hl : L'.length < 2000000000000) (k : Ky) (hk : FitKy k) (v : Value) (o : List Fx) (val : List Fld) (hv : IsXs W v o) (hf : FitX o) (hval : o.map Fx.fld = val) :
    Calls Tryz.prog 13 #[.pointer (some ⟨h, 0, none⟩), .agg #[.string k.1, .string k.2], v] W fun e w' => e = .returned (.int .i64 (codePW k val)) ∧ TwoW S n0 V C g h L (putW L' k val) w' := by
  have hn := t.base
  obtain ⟨B, d, vs, h1, h2, rfl, h4, h5, h6⟩ := t
  exact (putW_any h2 hn (by simpa using hl) k hk v o val hv hf hval).mono fun e w' q => ⟨q.1, TwoW.turn_r h1 h2 h4 h5 h6 q.2⟩
theorem tw_rdel (hl : L'.length < 2000000000000) (k : Ky) (hk : FitKy k) :
    Calls Tryz.prog 24 #[.pointer (some ⟨h, 0, none⟩), .agg #[.string k.1, .string k.2]] W fun e w' => e = .returned (.int .i64 (codeDW k)) ∧ TwoW S n0 V C g h L (dltW L' k) w' := by
  have hn := t.base
  obtain ⟨B, d, vs, h1, h2, rfl, h4, h5, h6⟩ := t
  exact (deleteW_any h2 hn (by simpa using hl) k hk).mono fun e w' q => ⟨q.1, TwoW.turn_r h1 h2 h4 h5 h6 q.2⟩
theorem tw_rforget (hl : L'.length ≤ 2000000000000) (k : Ky) :
    Calls Tryz.prog 25 #[.pointer (some ⟨h, 0, none⟩), .agg #[.string k.1, .string k.2]] W fun e w' => e = .returned (.bool (getW L' k).isSome) ∧ TwoW S n0 V C g h L (delW L' k) w' := by
  have hn := t.base
  obtain ⟨B, d, vs, h1, h2, rfl, h4, h5, h6⟩ := t
  exact (forgetW_any h2 hn (by simpa using hl) k).mono fun e w' q => ⟨q.1, TwoW.turn_r h1 h2 h4 h5 h6 q.2⟩
theorem tw_rget (hl : L'.length ≤ 2000000000000) (k : Ky) :
    Calls Tryz.prog 26 #[.pointer (some ⟨h, 0, none⟩), .agg #[.string k.1, .string k.2]] W fun e w' => GetPostW W L' k e w' := by
  obtain ⟨B, d, vs, h1, h2, rfl, h4, h5, h6⟩ := t
  exact getW_any h2 (by simpa using hl) k
theorem tw_rkeys (hl : L'.length ≤ 2000000000000) : Calls Tryz.prog 10 #[.pointer (some ⟨h, 0, none⟩)] W fun e w' => KeysPost W (keysW L') e w' := by
  obtain ⟨B, d, vs, h1, h2, rfl, h4, h5, h6⟩ := t
  exact keysW_any h2 (by simpa using hl)
theorem tw_rover (vf : Value) (fo : List Fd) (hfo : FoundIn W vf fo) (typ : ByteArray) (vp : Value) (pt : List Tm) (hp : KM.Is W vp pt) (hpf : FitM pt) (hl : fo.length + L'.length ≤ 100000000) :
    Calls Tryz.prog 19 #[.pointer (some ⟨h, 0, none⟩), vf, .string typ, vp] W fun e w' => OverPost W (overW L' (fo.map Fd.fnd) typ (matchM pt)) e w' := by
  obtain ⟨B, d, vs, h1, h2, rfl, h4, h5, h6⟩ := t
  exact overW_any h2 vf fo hfo.is (fun f hf => ⟨(hfo.each f hf).1, (hfo.each f hf).2.1⟩) typ vp pt hp hpf (by rw [List.length_map] at hl; omega)
end
end

end Go.Proofs.YtjehjjpdicimhaaGreat

/-
  One operation of both sets (stage 11): step.
-/
namespace Go.Proofs.YtjehjjpdicimhaaGreat
open Go.RowKit

/-- Both sets have the same writes. -/
def TwoS11 (S : SetApi) (n0 g h : Nat) (L : List RowW) (W : World) : Prop := ∃ C, TwoW S n0 W C g h L L W ∧ ∀ k, C k → n0 ≤ k ∧ k < W.heap.size

/-- What a step leaves. -/
def StepPostW (S : SetApi) (n0 g h : Nat) (L : List RowW) (W : World) (e : Ending) (w' : World) : Prop := e = .returned (.bool true) ∧ ∃ L', TwoS11 S n0 g h L' w' ∧ Below n0 W w' ∧ L'.length ≤ L.length + 1

theorem TwoW.rebase {S : SetApi} {n0 : Nat} {C : Nat → Prop} {g h : Nat} {L L' : List RowW} {W W' : World} (t : TwoW S n0 W C g h L L' W) (hb : Below W.heap.size W W') : TwoW S n0 W' C g h L L' W' := by
  obtain ⟨B, d, vs, h1, h2, h3, h4, h5, h6⟩ := t
  refine ⟨B, d, vs, S.on h1 hb, h2.on hb, h3, h4, Fr.refl _ _, fun k hk => ?_⟩
  rcases h6 k hk with h | h
  · exact Or.inl h
  · rcases hk with hk | hk
    · have := (S.blk h1 k hk).2; omega
    · have := (h2.blk k hk).2; omega

set_option linter.unusedSimpArgs false in
set_option maxHeartbeats 8000000 in
set_option maxRecDepth 100000 in
theorem step11_any (S : SetApi) (n0 g h : Nat) (L : List RowW) (w0 W : World) (t : TwoS11 S n0 g h L W) (x : Ow) (hx : OpW w0 x) (h0 : w0.heap.size ≤ n0) (hb0 : Below w0.heap.size w0 W) (hL : L.length < 50000000) (hfd : x.fd.length ≤ 50000000) :
    Calls Tryz.prog 7 #[.pointer (some ⟨g, 0, none⟩), .pointer (some ⟨h, 0, none⟩), .agg (encOw x).toArray] W fun e w' => StepPostW S n0 g h L W e w' := by
  obtain ⟨C, t, hC⟩ := t
  have hn := t.base
  obtain ⟨V, hV⟩ : ∃ V, W.alloc (.cells (encOw x).toArray 36) = V := ⟨_, rfl⟩
  have hbV : Below W.heap.size W V := by rw [← hV]; exact (Below.refl _ _).alloc (Nat.le_refl _) _
  have hsV := hbV.size
  have hVo : V.heap[W.heap.size]? = some (.cells (encOw x).toArray 36 (0, 0)) := by rw [← hV]; exact heap_alloc_new W _
  have hVlt : W.heap.size < V.heap.size := (Array.getElem?_eq_some_iff.1 hVo).1
  have tV : TwoW S n0 V C g h L L V := t.rebase hbV
  have HEND : Hid (∀ L1 w', TwoW S n0 V C g h L1 L1 w' → L1.length ≤ L.length + 1 → StepPostW S n0 g h L W (.returned (.bool true)) w') := fun L1 w' q hl => by
    obtain ⟨C', q1, q2⟩ := q.now
    exact ⟨rfl, L1, ⟨C', q1, q2⟩, (hbV.mono hn).trans (q.below (Nat.le_trans hn hsV) fun k hk => (hC k hk).1), hl⟩
  obtain ⟨N, hN⟩ : ∃ N, W.heap.size = N := ⟨_, rfl⟩
  rw [hN] at hVo
  have hNC : ¬ C N := fun hc => by have := (hC N hc).2; omega
  have HCC : Hid (∀ L1 L2 w', TwoW S n0 V C g h L1 L2 w' → (w'.cell? ⟨N, 0, none⟩ = some (.int .i64 x.kind) ∧ w'.cell? ⟨N, 1, none⟩ = some (.string x.a) ∧ w'.cell? ⟨N, 2, none⟩ = some (.string x.b) ∧ w'.cell? ⟨N, 3, none⟩ = some (.slice x.p x.o.length x.cap) ∧ w'.cell? ⟨N, 4, none⟩ = some (.slice x.q x.tm.length x.qcap) ∧ w'.cell? ⟨N, 5, none⟩ = some (.slice x.r x.fd.length x.rcap)) ∧ OpW w' x) := fun L1 L2 w' q => by
    have := (q.block (b := N) (by omega) hNC).trans hVo
    have hbw : Below w0.heap.size w0 w' := (hb0.trans (hbV.mono (by omega))).trans ((q.below (Nat.le_trans hn hsV) fun k hk => (hC k hk).1).mono h0)
    exact ⟨⟨by rw [Lib.cell_of_heap this]; rfl, by rw [Lib.cell_of_heap this]; rfl, by rw [Lib.cell_of_heap this]; rfl, by rw [Lib.cell_of_heap this]; rfl, by rw [Lib.cell_of_heap this]; rfl, by rw [Lib.cell_of_heap this]; rfl⟩, hx.on hbw⟩
  have HTV := hid tV
  obtain ⟨⟨c0, c1, c2, c3, c4, c5⟩, _⟩ := HCC.out _ _ _ tV
  clear t hC hVo tV hbV hsV hNC hn hVlt hx h0 hb0
  obtain ⟨xk, xa, xb, xp, xc, xo, xq, xqc, xm, xr, xrc, xf⟩ := x
  simp only [encOw, Ow.key] at *
  have h13 : L.length < 1300000000000 := by omega
  have h13' : L.length ≤ 1300000000000 := by omega
  have h20 : L.length < 2000000000000 := by omega
  have h20' : L.length ≤ 2000000000000 := by omega
  have HDW : Hid (TwoW S n0 V C g h L L V.drew) := HTV.out.on (bel_drewN (Below.refl _ _) 1)
  go_enter Tryz.func7, Tryz.ntmps7
  by_cases e1 : xk = 1
  · subst e1
    obtain ⟨_, hop⟩ := HCC.out _ _ _ HDW.out
    have H1 := hid (fields_any (.slice xp xo.length xc) xo V.drew hop.is hop.fit hop.copy)
    have HFT := hid hop.fit
    have HKF := hid hop.kfit
    clear hop
    go_wp2_with fail
    refine wp_region_held_drew (S := fun w' => w'.cell? ⟨N, 1, none⟩ = some (.string xa) ∧ w'.cell? ⟨N, 2, none⟩ = some (.string xb) ∧ w'.cell? ⟨N, 3, none⟩ = some (.slice xp xo.length xc)) (by kernel_rfl) ⟨c1, c2, c3⟩ (fun hHeld => ?_)
    refine take_val (i := 0) (.pointer (some ⟨g, 0, none⟩)) rfl (by kernel_rfl) (by kernel_rfl) (by kernel_rfl) (fun _ _ _ h => h) (by rfl) (fun w hSw => by go_simp) hHeld ?_
    simp only [Act.put, List.setIfInBounds_toArray, List.set_cons_zero, List.set_cons_succ]
    refine take_val (i := 1) (.pointer (some ⟨N, 1, none⟩)) rfl (by kernel_rfl) (by kernel_rfl) (by kernel_rfl) (fun _ _ _ h => h) (by rfl) (fun w hSw => by go_simp) hHeld ?_
    simp only [Act.put, List.setIfInBounds_toArray, List.set_cons_zero, List.set_cons_succ]
    refine take_val (i := 2) (.agg #[.string xa, .string xb]) rfl (by kernel_rfl) (by kernel_rfl) (by kernel_rfl) (fun _ _ _ h => h) (by rfl) (fun w hSw => by go_simp) hHeld ?_
    simp only [Act.put, List.setIfInBounds_toArray, List.set_cons_zero, List.set_cons_succ]
    refine take_val (i := 3) (.pointer (some ⟨N, 3, none⟩)) rfl (by kernel_rfl) (by kernel_rfl) (by kernel_rfl) (fun _ _ _ h => h) (by rfl) (fun w hSw => by go_simp) hHeld ?_
    simp only [Act.put, List.setIfInBounds_toArray, List.set_cons_zero, List.set_cons_succ]
    refine take_val (i := 4) (.slice xp xo.length xc) rfl (by kernel_rfl) (by kernel_rfl) (by kernel_rfl) (fun _ _ _ h => h) (by rfl) (fun w hSw => by go_simp) hHeld ?_
    simp only [Act.put, List.setIfInBounds_toArray, List.set_cons_zero, List.set_cons_succ]
    refine take_val (i := 7) (.pointer (some ⟨h, 0, none⟩)) rfl (by kernel_rfl) (by kernel_rfl) (by kernel_rfl) (fun _ _ _ h => h) (by rfl) (fun w hSw => by go_simp) hHeld ?_
    simp only [Act.put, List.setIfInBounds_toArray, List.set_cons_zero, List.set_cons_succ]
    refine take_val (i := 8) (.pointer (some ⟨N, 1, none⟩)) rfl (by kernel_rfl) (by kernel_rfl) (by kernel_rfl) (fun _ _ _ h => h) (by rfl) (fun w hSw => by go_simp) hHeld ?_
    simp only [Act.put, List.setIfInBounds_toArray, List.set_cons_zero, List.set_cons_succ]
    refine take_val (i := 9) (.agg #[.string xa, .string xb]) rfl (by kernel_rfl) (by kernel_rfl) (by kernel_rfl) (fun _ _ _ h => h) (by rfl) (fun w hSw => by go_simp) hHeld ?_
    simp only [Act.put, List.setIfInBounds_toArray, List.set_cons_zero, List.set_cons_succ]
    refine take_val (i := 10) (.pointer (some ⟨N, 3, none⟩)) rfl (by kernel_rfl) (by kernel_rfl) (by kernel_rfl) (fun _ _ _ h => h) (by rfl) (fun w hSw => by go_simp) hHeld ?_
    simp only [Act.put, List.setIfInBounds_toArray, List.set_cons_zero, List.set_cons_succ]
    refine take_val (i := 11) (.slice xp xo.length xc) rfl (by kernel_rfl) (by kernel_rfl) (by kernel_rfl) (fun _ _ _ h => h) (by rfl) (fun w hSw => by go_simp) hHeld ?_
    simp only [Act.put, List.setIfInBounds_toArray, List.set_cons_zero, List.set_cons_succ]
    clear hHeld
    refine wpAnyH_ready (rs := [5]) (by kernel_rfl) (by simp) ?_
    refine AllReadyH.cons (at_drop0 rfl) (fun K hK => ?_) AllReadyH.nil
    rw [if_pos (by rfl)]
    go_simp
    refine H1.out.mono ?_
    rintro e w1 ⟨u, o1, rfl, hJ, ho, hb1⟩
    have q1 := HDW.out.on hb1
    obtain ⟨⟨_, d1, d2, d3, _, _⟩, hop1⟩ := HCC.out _ _ _ q1
    obtain ⟨pu, cu, rfl⟩ := ownJ_slice hJ
    have H2 := hid (tw_put q1 h13 (xa, xb) HKF.out _ o1 (xo.map Fx.fld) hJ.1.is (fitX_same ho HFT.out) ho)
    clear q1 hb1 hJ ho H1 hop1
    go_wp2_with fail
    refine hK.out _ _ (⟨d1, d2, d3⟩) (fun hHeld => ?_)
    clear hK K
    try simp only [Act.put, List.setIfInBounds_toArray, List.set_cons_zero, List.set_cons_succ]
    clear hHeld
    refine wpAnyH_ready (rs := [6]) (by kernel_rfl) (by simp) ?_
    refine AllReadyH.cons (at_drop0 rfl) (fun K hK => ?_) AllReadyH.nil
    rw [if_pos (by rfl)]
    go_simp
    refine H2.out.mono ?_
    rintro e w2 ⟨rfl, q2⟩
    obtain ⟨⟨_, d1, d2, d3, _, _⟩, hop2⟩ := HCC.out _ _ _ q2
    have H3 := hid (tw_rput q2 h20 (xa, xb) HKF.out (.slice xp xo.length xc) xo (xo.map Fx.fld) hop2.is hop2.fit rfl)
    clear q2 H2 hop2
    generalize codePW (xa, xb) (xo.map Fx.fld) = R at *
    go_wp2_with fail
    refine hK.out _ _ (⟨d1, d2, d3⟩) (fun hHeld => ?_)
    clear hK K
    try simp only [Act.put, List.setIfInBounds_toArray, List.set_cons_zero, List.set_cons_succ]
    clear hHeld
    refine wpAnyH_ready (rs := [12]) (by kernel_rfl) (by simp) ?_
    refine AllReadyH.cons (at_drop0 rfl) (fun K hK => ?_) AllReadyH.nil
    rw [if_pos (by rfl)]
    go_simp
    refine H3.out.mono ?_
    rintro e w3 ⟨rfl, q3⟩
    obtain ⟨⟨_, d1, d2, d3, _, _⟩, _⟩ := HCC.out _ _ _ q3
    have HE := hid (HEND.out _ w3 q3 (putW_len _ _ _))
    clear q3 H3
    go_wp2_with fail
    refine hK.out _ _ (⟨d1, d2, d3⟩) (fun hHeld => ?_)
    clear hK K
    try simp only [Act.put, List.setIfInBounds_toArray, List.set_cons_zero, List.set_cons_succ]
    refine take_val (i := 13) (.bool true) rfl (by kernel_rfl) (by kernel_rfl) (by kernel_rfl) (fun _ _ _ h => h) (by rfl) (fun w hSw => by go_simp) hHeld ?_
    simp only [Act.put, List.setIfInBounds_toArray, List.set_cons_zero, List.set_cons_succ]
    refine take_val (i := 14) (.bool true) rfl (by kernel_rfl) (by kernel_rfl) (by kernel_rfl) (fun _ _ _ h => h) (by rfl) (fun w hSw => by go_simp) hHeld ?_
    simp only [Act.put, List.setIfInBounds_toArray, List.set_cons_zero, List.set_cons_succ]
    refine wpAnyH_done (by kernel_rfl) ?_ _
    clear hHeld
    go_wp2_with fail
    go_ret
    exact HE.out
  by_cases e2 : xk = 2
  · subst e2
    obtain ⟨_, hop⟩ := HCC.out _ _ _ HDW.out
    have HKF := hid hop.kfit
    have H1 := hid (tw_del HDW.out h13 (xa, xb) hop.kfit)
    clear hop
    go_wp2_with fail
    refine wp_region_held_drew (S := fun w' => w'.cell? ⟨N, 1, none⟩ = some (.string xa) ∧ w'.cell? ⟨N, 2, none⟩ = some (.string xb)) (by kernel_rfl) ⟨c1, c2⟩ (fun hHeld => ?_)
    refine take_val (i := 0) (.pointer (some ⟨g, 0, none⟩)) rfl (by kernel_rfl) (by kernel_rfl) (by kernel_rfl) (fun _ _ _ h => h) (by rfl) (fun w hSw => by go_simp) hHeld ?_
    simp only [Act.put, List.setIfInBounds_toArray, List.set_cons_zero, List.set_cons_succ]
    refine take_val (i := 1) (.pointer (some ⟨N, 1, none⟩)) rfl (by kernel_rfl) (by kernel_rfl) (by kernel_rfl) (fun _ _ _ h => h) (by rfl) (fun w hSw => by go_simp) hHeld ?_
    simp only [Act.put, List.setIfInBounds_toArray, List.set_cons_zero, List.set_cons_succ]
    refine take_val (i := 2) (.agg #[.string xa, .string xb]) rfl (by kernel_rfl) (by kernel_rfl) (by kernel_rfl) (fun _ _ _ h => h) (by rfl) (fun w hSw => by go_simp) hHeld ?_
    simp only [Act.put, List.setIfInBounds_toArray, List.set_cons_zero, List.set_cons_succ]
    refine take_val (i := 4) (.pointer (some ⟨h, 0, none⟩)) rfl (by kernel_rfl) (by kernel_rfl) (by kernel_rfl) (fun _ _ _ h => h) (by rfl) (fun w hSw => by go_simp) hHeld ?_
    simp only [Act.put, List.setIfInBounds_toArray, List.set_cons_zero, List.set_cons_succ]
    refine take_val (i := 5) (.pointer (some ⟨N, 1, none⟩)) rfl (by kernel_rfl) (by kernel_rfl) (by kernel_rfl) (fun _ _ _ h => h) (by rfl) (fun w hSw => by go_simp) hHeld ?_
    simp only [Act.put, List.setIfInBounds_toArray, List.set_cons_zero, List.set_cons_succ]
    refine take_val (i := 6) (.agg #[.string xa, .string xb]) rfl (by kernel_rfl) (by kernel_rfl) (by kernel_rfl) (fun _ _ _ h => h) (by rfl) (fun w hSw => by go_simp) hHeld ?_
    simp only [Act.put, List.setIfInBounds_toArray, List.set_cons_zero, List.set_cons_succ]
    clear hHeld
    refine wpAnyH_ready (rs := [3]) (by kernel_rfl) (by simp) ?_
    refine AllReadyH.cons (at_drop0 rfl) (fun K hK => ?_) AllReadyH.nil
    rw [if_pos (by rfl)]
    go_simp
    refine H1.out.mono ?_
    rintro e w2 ⟨rfl, q2⟩
    obtain ⟨⟨_, d1, d2, _⟩, _⟩ := HCC.out _ _ _ q2
    have H3 := hid (tw_rdel q2 h20 (xa, xb) HKF.out)
    clear q2 H1
    generalize codeDW (xa, xb) = R at *
    go_wp2_with fail
    refine hK.out _ _ (⟨d1, d2⟩) (fun hHeld => ?_)
    clear hK K
    try simp only [Act.put, List.setIfInBounds_toArray, List.set_cons_zero, List.set_cons_succ]
    clear hHeld
    refine wpAnyH_ready (rs := [7]) (by kernel_rfl) (by simp) ?_
    refine AllReadyH.cons (at_drop0 rfl) (fun K hK => ?_) AllReadyH.nil
    rw [if_pos (by rfl)]
    go_simp
    refine H3.out.mono ?_
    rintro e w3 ⟨rfl, q3⟩
    obtain ⟨⟨_, d1, d2, _⟩, _⟩ := HCC.out _ _ _ q3
    have HE := hid (HEND.out _ w3 q3 (dltW_len _ _))
    clear q3 H3
    go_wp2_with fail
    refine hK.out _ _ (⟨d1, d2⟩) (fun hHeld => ?_)
    clear hK K
    try simp only [Act.put, List.setIfInBounds_toArray, List.set_cons_zero, List.set_cons_succ]
    refine take_val (i := 8) (.bool true) rfl (by kernel_rfl) (by kernel_rfl) (by kernel_rfl) (fun _ _ _ h => h) (by rfl) (fun w hSw => by go_simp) hHeld ?_
    simp only [Act.put, List.setIfInBounds_toArray, List.set_cons_zero, List.set_cons_succ]
    refine take_val (i := 9) (.bool true) rfl (by kernel_rfl) (by kernel_rfl) (by kernel_rfl) (fun _ _ _ h => h) (by rfl) (fun w hSw => by go_simp) hHeld ?_
    simp only [Act.put, List.setIfInBounds_toArray, List.set_cons_zero, List.set_cons_succ]
    refine wpAnyH_done (by kernel_rfl) ?_ _
    clear hHeld
    go_wp2_with fail
    go_ret
    exact HE.out
  by_cases e3 : xk = 3
  · subst e3
    obtain ⟨_, hop⟩ := HCC.out _ _ _ HDW.out
    have H1 := hid (tw_forget HDW.out h13' (xa, xb) hop.kfit)
    clear hop
    go_wp2_with fail
    refine wp_region_held_drew (S := fun w' => w'.cell? ⟨N, 1, none⟩ = some (.string xa) ∧ w'.cell? ⟨N, 2, none⟩ = some (.string xb)) (by kernel_rfl) ⟨c1, c2⟩ (fun hHeld => ?_)
    refine take_val (i := 0) (.pointer (some ⟨g, 0, none⟩)) rfl (by kernel_rfl) (by kernel_rfl) (by kernel_rfl) (fun _ _ _ h => h) (by rfl) (fun w hSw => by go_simp) hHeld ?_
    simp only [Act.put, List.setIfInBounds_toArray, List.set_cons_zero, List.set_cons_succ]
    refine take_val (i := 1) (.pointer (some ⟨N, 1, none⟩)) rfl (by kernel_rfl) (by kernel_rfl) (by kernel_rfl) (fun _ _ _ h => h) (by rfl) (fun w hSw => by go_simp) hHeld ?_
    simp only [Act.put, List.setIfInBounds_toArray, List.set_cons_zero, List.set_cons_succ]
    refine take_val (i := 2) (.agg #[.string xa, .string xb]) rfl (by kernel_rfl) (by kernel_rfl) (by kernel_rfl) (fun _ _ _ h => h) (by rfl) (fun w hSw => by go_simp) hHeld ?_
    simp only [Act.put, List.setIfInBounds_toArray, List.set_cons_zero, List.set_cons_succ]
    refine take_val (i := 4) (.pointer (some ⟨h, 0, none⟩)) rfl (by kernel_rfl) (by kernel_rfl) (by kernel_rfl) (fun _ _ _ h => h) (by rfl) (fun w hSw => by go_simp) hHeld ?_
    simp only [Act.put, List.setIfInBounds_toArray, List.set_cons_zero, List.set_cons_succ]
    refine take_val (i := 5) (.pointer (some ⟨N, 1, none⟩)) rfl (by kernel_rfl) (by kernel_rfl) (by kernel_rfl) (fun _ _ _ h => h) (by rfl) (fun w hSw => by go_simp) hHeld ?_
    simp only [Act.put, List.setIfInBounds_toArray, List.set_cons_zero, List.set_cons_succ]
    refine take_val (i := 6) (.agg #[.string xa, .string xb]) rfl (by kernel_rfl) (by kernel_rfl) (by kernel_rfl) (fun _ _ _ h => h) (by rfl) (fun w hSw => by go_simp) hHeld ?_
    simp only [Act.put, List.setIfInBounds_toArray, List.set_cons_zero, List.set_cons_succ]
    clear hHeld
    refine wpAnyH_ready (rs := [3]) (by kernel_rfl) (by simp) ?_
    refine AllReadyH.cons (at_drop0 rfl) (fun K hK => ?_) AllReadyH.nil
    rw [if_pos (by rfl)]
    go_simp
    refine H1.out.mono ?_
    rintro e w2 ⟨rfl, q2⟩
    obtain ⟨⟨_, d1, d2, _⟩, _⟩ := HCC.out _ _ _ q2
    have H3 := hid (tw_rforget q2 h20' (xa, xb))
    clear q2 H1
    generalize (getW L (xa, xb)).isSome = R at *
    go_wp2_with fail
    refine hK.out _ _ (⟨d1, d2⟩) (fun hHeld => ?_)
    clear hK K
    try simp only [Act.put, List.setIfInBounds_toArray, List.set_cons_zero, List.set_cons_succ]
    clear hHeld
    refine wpAnyH_ready (rs := [7]) (by kernel_rfl) (by simp) ?_
    refine AllReadyH.cons (at_drop0 rfl) (fun K hK => ?_) AllReadyH.nil
    rw [if_pos (by rfl)]
    go_simp
    refine H3.out.mono ?_
    rintro e w3 ⟨rfl, q3⟩
    obtain ⟨⟨_, d1, d2, _⟩, _⟩ := HCC.out _ _ _ q3
    have HE := hid (HEND.out _ w3 q3 (Nat.le_trans (delW_len _ _) (Nat.le_succ _)))
    clear q3 H3
    go_wp2_with fail
    refine hK.out _ _ (⟨d1, d2⟩) (fun hHeld => ?_)
    clear hK K
    try simp only [Act.put, List.setIfInBounds_toArray, List.set_cons_zero, List.set_cons_succ]
    refine take_val (i := 8) (.bool true) rfl (by kernel_rfl) (by kernel_rfl) (by kernel_rfl) (fun _ _ _ h => h) (by rfl) (fun w hSw => by go_simp) hHeld ?_
    simp only [Act.put, List.setIfInBounds_toArray, List.set_cons_zero, List.set_cons_succ]
    refine take_val (i := 9) (.bool true) rfl (by kernel_rfl) (by kernel_rfl) (by kernel_rfl) (fun _ _ _ h => h) (by rfl) (fun w hSw => by go_simp) hHeld ?_
    simp only [Act.put, List.setIfInBounds_toArray, List.set_cons_zero, List.set_cons_succ]
    refine wpAnyH_done (by kernel_rfl) ?_ _
    clear hHeld
    go_wp2_with fail
    go_ret
    exact HE.out
  by_cases e4 : xk = 4
  · subst e4
    obtain ⟨_, hop⟩ := HCC.out _ _ _ HTV.out
    have H1 := hid (tw_get HTV.out h13' (xa, xb) hop.kfit)
    clear hop
    go_wp2_with fail
    refine H1.out.mono ?_
    rintro e w1 ⟨p1, f1, o1, rfl, hJ, ho, hb1⟩
    have q1 := HTV.out.on hb1
    obtain ⟨⟨_, d1, d2, _⟩, _⟩ := HCC.out _ _ _ q1
    have H2 := hid (tw_rget q1 h20' (xa, xb))
    have HQ1 := hid q1
    have HJ := hid hJ
    have HO := hid ho
    clear q1 hb1 hJ ho H1
    go_wp2_with fail
    refine H2.out.mono ?_
    rintro e w2 ⟨⟨v2, o2, rfl, hi2, hf2, _, ho2⟩, hb2⟩
    obtain ⟨p2, f2, rfl, _⟩ := id hi2
    have q2 := HQ1.out.on hb2
    have hmay : FitX o1 := fitX_same (d := o2) (HO.out.trans ho2.symm) hf2
    have H3 := hid (sameF_any (.slice p1 o1.length f1) (.slice p2 o2.length f2) o1 o2 w2 (HJ.out.on hb2).1.is (hi2.kept hb2) hmay hf2)
    rw [decide_eq_true (HO.out.trans ho2.symm)] at H3
    have HQ2 := hid q2
    clear q2 hb2 hi2 hf2 ho2 H2 HJ HO HQ1 hmay
    generalize liveW (getW L (xa, xb)) = R1 at *
    generalize (getW L (xa, xb)).isSome = R2 at *
    go_wp2_with fail
    refine H3.out.mono ?_
    rintro e w3 ⟨rfl, n, rfl⟩
    have HE := hid (HEND.out _ _ (HQ2.out.on (bel_drewN (Below.refl _ _) n)) (Nat.le_succ _))
    clear H3 HQ2
    go_wp2_with fail
    go_ret
    exact HE.out
  by_cases e5 : xk = 5
  · subst e5
    have H1 := hid (tw_keys HTV.out h13')
    go_wp2_with fail
    refine H1.out.mono ?_
    rintro e w1 ⟨u1, rfl, hu1, hb1⟩
    have q1 := HTV.out.on hb1
    have H2 := hid (tw_rkeys q1 h20')
    have HQ1 := hid q1
    have HU1 := hid hu1
    clear q1 hb1 hu1 H1
    go_wp2_with fail
    refine H2.out.mono ?_
    rintro e w2 ⟨u2, rfl, hu2, hb2⟩
    have hkl : (keysW L).length = L.length := by unfold keysW; rw [List.length_map]
    have H3 := hid (keys_same (Kind.own_is (Kind.own_on HU1.out hb2)) (Kind.own_is hu2) (by omega) (by omega))
    rw [decide_eq_true rfl] at H3
    have HQ2 := hid (HQ1.out.on hb2)
    clear hb2 hu2 H2 HU1 HQ1 hkl
    go_wp2_with fail
    refine H3.out.mono ?_
    rintro e w3 ⟨rfl, hb3⟩
    have HE := hid (HEND.out _ _ (HQ2.out.on hb3) (Nat.le_succ _))
    clear H3 HQ2 hb3
    go_wp2_with fail
    go_ret
    exact HE.out
  by_cases e6 : xk = 6
  · subst e6
    have H1 := hid (tw_len HDW.out h13')
    obtain ⟨pl, cl, hl0⟩ := HDW.out.len
    obtain ⟨M, hM⟩ : ∃ M, L.length = M := ⟨_, rfl⟩
    rw [hM] at H1 hl0
    have HM := hid hM
    have HLN : Hid (∀ w', Below V.drew.heap.size V.drew w' → w'.cell? ⟨h, 0, none⟩ = some (.slice pl M cl)) := fun w' hb => (hb.cell (p := ⟨h, 0, none⟩) (cell_block hl0)).trans hl0
    have HEND2 := hid (fun w' q => HEND.out L w' q (Nat.le_succ _))
    clear hM HEND h13 h13' h20 h20' hL
    go_wp2_with fail
    refine wp_region_held_drew (S := fun w' => w'.cell? ⟨h, 0, none⟩ = some (.slice pl M cl)) (by kernel_rfl) hl0 (fun hHeld => ?_)
    refine take_val (i := 0) (.pointer (some ⟨g, 0, none⟩)) rfl (by kernel_rfl) (by kernel_rfl) (by kernel_rfl) (fun _ _ _ h => h) (by rfl) (fun w hSw => by go_simp) hHeld ?_
    simp only [Act.put, List.setIfInBounds_toArray, List.set_cons_zero, List.set_cons_succ]
    refine take_val (i := 2) (.pointer (some ⟨h, 0, none⟩)) rfl (by kernel_rfl) (by kernel_rfl) (by kernel_rfl) (fun _ _ _ h => h) (by rfl) (fun w hSw => by go_simp) hHeld ?_
    simp only [Act.put, List.setIfInBounds_toArray, List.set_cons_zero, List.set_cons_succ]
    refine take_val (i := 3) (.pointer (some ⟨h, 0, none⟩)) rfl (by kernel_rfl) (by kernel_rfl) (by kernel_rfl) (fun _ _ _ h => h) (by rfl) (fun w hSw => by go_simp) hHeld ?_
    simp only [Act.put, List.setIfInBounds_toArray, List.set_cons_zero, List.set_cons_succ]
    refine take_val (i := 4) (.pointer (some ⟨h, 0, none⟩)) rfl (by kernel_rfl) (by kernel_rfl) (by kernel_rfl) (fun _ _ _ h => h) (by rfl) (fun w hSw => by go_simp) hHeld ?_
    simp only [Act.put, List.setIfInBounds_toArray, List.set_cons_zero, List.set_cons_succ]
    refine take_val (i := 5) (.slice pl M cl) rfl (by kernel_rfl) (by kernel_rfl) (by kernel_rfl) (fun _ _ _ h => h) (by rfl) (fun w hSw => by go_simp) hHeld ?_
    simp only [Act.put, List.setIfInBounds_toArray, List.set_cons_zero, List.set_cons_succ]
    refine take_val (i := 6) (.int .i64 M) rfl (by kernel_rfl) (by kernel_rfl) (by kernel_rfl) (fun _ _ _ h => h) (by rfl) (fun w hSw => by go_simp) hHeld ?_
    simp only [Act.put, List.setIfInBounds_toArray, List.set_cons_zero, List.set_cons_succ]
    clear hHeld
    refine wpAnyH_ready (rs := [1]) (by kernel_rfl) (by simp) ?_
    refine AllReadyH.cons (at_drop0 rfl) (fun K hK => ?_) AllReadyH.nil
    rw [if_pos (by rfl)]
    go_simp
    refine H1.out.mono ?_
    rintro e w1 ⟨rfl, hb1⟩
    have l1 := HLN.out w1 hb1
    have HE := hid (HEND2.out _ (HDW.out.on hb1))
    clear hb1 H1
    go_wp2_with fail
    refine hK.out _ _ l1 (fun hHeld => ?_)
    clear hK K
    try simp only [Act.put, List.setIfInBounds_toArray, List.set_cons_zero, List.set_cons_succ]
    refine take_val (i := 7) (.bool true) rfl (by kernel_rfl) (by kernel_rfl) (by kernel_rfl) (fun _ _ _ h => h) (by rfl) (fun w hSw => by go_simp) hHeld ?_
    simp only [Act.put, List.setIfInBounds_toArray, List.set_cons_zero, List.set_cons_succ]
    refine take_val (i := 8) (.bool true) rfl (by kernel_rfl) (by kernel_rfl) (by kernel_rfl) (fun _ _ _ h => h) (by rfl) (fun w hSw => by go_simp) hHeld ?_
    simp only [Act.put, List.setIfInBounds_toArray, List.set_cons_zero, List.set_cons_succ]
    refine wpAnyH_done (by kernel_rfl) ?_ _
    clear hHeld
    go_wp2_with fail
    go_ret
    exact HE.out
  by_cases e7 : xk = 7
  · subst e7
    obtain ⟨_, hop⟩ := HCC.out _ _ _ HDW.out
    have H1 := hid (tw_over HDW.out _ xf hop.fis xa _ xm hop.pis hop.pfit (by omega))
    clear hop
    go_wp2_with fail
    refine wp_region_held_drew (S := fun w' => w'.cell? ⟨N, 1, none⟩ = some (.string xa) ∧ w'.cell? ⟨N, 4, none⟩ = some (.slice xq xm.length xqc) ∧ w'.cell? ⟨N, 5, none⟩ = some (.slice xr xf.length xrc)) (by kernel_rfl) ⟨c1, c4, c5⟩ (fun hHeld => ?_)
    refine take_val (i := 0) (.pointer (some ⟨g, 0, none⟩)) rfl (by kernel_rfl) (by kernel_rfl) (by kernel_rfl) (fun _ _ _ h => h) (by rfl) (fun w hSw => by go_simp) hHeld ?_
    simp only [Act.put, List.setIfInBounds_toArray, List.set_cons_zero, List.set_cons_succ]
    refine take_val (i := 1) (.pointer (some ⟨N, 5, none⟩)) rfl (by kernel_rfl) (by kernel_rfl) (by kernel_rfl) (fun _ _ _ h => h) (by rfl) (fun w hSw => by go_simp) hHeld ?_
    simp only [Act.put, List.setIfInBounds_toArray, List.set_cons_zero, List.set_cons_succ]
    refine take_val (i := 2) (.slice xr xf.length xrc) rfl (by kernel_rfl) (by kernel_rfl) (by kernel_rfl) (fun _ _ _ h => h) (by rfl) (fun w hSw => by go_simp) hHeld ?_
    simp only [Act.put, List.setIfInBounds_toArray, List.set_cons_zero, List.set_cons_succ]
    refine take_val (i := 3) (.pointer (some ⟨N, 1, none⟩)) rfl (by kernel_rfl) (by kernel_rfl) (by kernel_rfl) (fun _ _ _ h => h) (by rfl) (fun w hSw => by go_simp) hHeld ?_
    simp only [Act.put, List.setIfInBounds_toArray, List.set_cons_zero, List.set_cons_succ]
    refine take_val (i := 4) (.pointer (some ⟨N, 1, none⟩)) rfl (by kernel_rfl) (by kernel_rfl) (by kernel_rfl) (fun _ _ _ h => h) (by rfl) (fun w hSw => by go_simp) hHeld ?_
    simp only [Act.put, List.setIfInBounds_toArray, List.set_cons_zero, List.set_cons_succ]
    refine take_val (i := 5) (.string xa) rfl (by kernel_rfl) (by kernel_rfl) (by kernel_rfl) (fun _ _ _ h => h) (by rfl) (fun w hSw => by go_simp) hHeld ?_
    simp only [Act.put, List.setIfInBounds_toArray, List.set_cons_zero, List.set_cons_succ]
    refine take_val (i := 6) (.pointer (some ⟨N, 4, none⟩)) rfl (by kernel_rfl) (by kernel_rfl) (by kernel_rfl) (fun _ _ _ h => h) (by rfl) (fun w hSw => by go_simp) hHeld ?_
    simp only [Act.put, List.setIfInBounds_toArray, List.set_cons_zero, List.set_cons_succ]
    refine take_val (i := 7) (.slice xq xm.length xqc) rfl (by kernel_rfl) (by kernel_rfl) (by kernel_rfl) (fun _ _ _ h => h) (by rfl) (fun w hSw => by go_simp) hHeld ?_
    simp only [Act.put, List.setIfInBounds_toArray, List.set_cons_zero, List.set_cons_succ]
    refine take_val (i := 9) (.pointer (some ⟨h, 0, none⟩)) rfl (by kernel_rfl) (by kernel_rfl) (by kernel_rfl) (fun _ _ _ h => h) (by rfl) (fun w hSw => by go_simp) hHeld ?_
    simp only [Act.put, List.setIfInBounds_toArray, List.set_cons_zero, List.set_cons_succ]
    refine take_val (i := 10) (.pointer (some ⟨N, 5, none⟩)) rfl (by kernel_rfl) (by kernel_rfl) (by kernel_rfl) (fun _ _ _ h => h) (by rfl) (fun w hSw => by go_simp) hHeld ?_
    simp only [Act.put, List.setIfInBounds_toArray, List.set_cons_zero, List.set_cons_succ]
    refine take_val (i := 11) (.slice xr xf.length xrc) rfl (by kernel_rfl) (by kernel_rfl) (by kernel_rfl) (fun _ _ _ h => h) (by rfl) (fun w hSw => by go_simp) hHeld ?_
    simp only [Act.put, List.setIfInBounds_toArray, List.set_cons_zero, List.set_cons_succ]
    refine take_val (i := 12) (.pointer (some ⟨N, 1, none⟩)) rfl (by kernel_rfl) (by kernel_rfl) (by kernel_rfl) (fun _ _ _ h => h) (by rfl) (fun w hSw => by go_simp) hHeld ?_
    simp only [Act.put, List.setIfInBounds_toArray, List.set_cons_zero, List.set_cons_succ]
    refine take_val (i := 13) (.pointer (some ⟨N, 1, none⟩)) rfl (by kernel_rfl) (by kernel_rfl) (by kernel_rfl) (fun _ _ _ h => h) (by rfl) (fun w hSw => by go_simp) hHeld ?_
    simp only [Act.put, List.setIfInBounds_toArray, List.set_cons_zero, List.set_cons_succ]
    refine take_val (i := 14) (.string xa) rfl (by kernel_rfl) (by kernel_rfl) (by kernel_rfl) (fun _ _ _ h => h) (by rfl) (fun w hSw => by go_simp) hHeld ?_
    simp only [Act.put, List.setIfInBounds_toArray, List.set_cons_zero, List.set_cons_succ]
    refine take_val (i := 15) (.pointer (some ⟨N, 4, none⟩)) rfl (by kernel_rfl) (by kernel_rfl) (by kernel_rfl) (fun _ _ _ h => h) (by rfl) (fun w hSw => by go_simp) hHeld ?_
    simp only [Act.put, List.setIfInBounds_toArray, List.set_cons_zero, List.set_cons_succ]
    refine take_val (i := 16) (.slice xq xm.length xqc) rfl (by kernel_rfl) (by kernel_rfl) (by kernel_rfl) (fun _ _ _ h => h) (by rfl) (fun w hSw => by go_simp) hHeld ?_
    simp only [Act.put, List.setIfInBounds_toArray, List.set_cons_zero, List.set_cons_succ]
    clear hHeld
    refine wpAnyH_ready (rs := [8]) (by kernel_rfl) (by simp) ?_
    refine AllReadyH.cons (at_drop0 rfl) (fun K hK => ?_) AllReadyH.nil
    rw [if_pos (by rfl)]
    go_simp
    refine H1.out.mono ?_
    intro e w1 hpo
    obtain ⟨u1, fs1, rfl, _, _, _, _, hb1⟩ := id hpo
    have q1 := HDW.out.on hb1
    obtain ⟨⟨_, d1, _, _, d4, d5⟩, hop1⟩ := HCC.out _ _ _ q1
    have H2 := hid (tw_rover q1 _ xf hop1.fis xa _ xm hop1.pis hop1.pfit (by omega))
    have HQ1 := hid q1
    have HF1 := hid hpo.at
    clear q1 hb1 hpo H1 hop1
    go_wp2_with fail
    refine hK.out _ _ (⟨d1, d4, d5⟩) (fun hHeld => ?_)
    clear hK K
    try simp only [Act.put, List.setIfInBounds_toArray, List.set_cons_zero, List.set_cons_succ]
    clear hHeld
    refine wpAnyH_ready (rs := [17]) (by kernel_rfl) (by simp) ?_
    refine AllReadyH.cons (at_drop0 rfl) (fun K hK => ?_) AllReadyH.nil
    rw [if_pos (by rfl)]
    go_simp
    refine H2.out.mono ?_
    intro e w2 hpr
    obtain ⟨u2, fs2, rfl, _, _, _, hb2⟩ := id hpr
    have q2 := HQ1.out.on hb2
    obtain ⟨⟨_, d1, _, _, d4, d5⟩, _⟩ := HCC.out _ _ _ q2
    have hol := over_len_le L (xf.map Fd.fnd) xa (matchM xm)
    rw [List.length_map] at hol
    have H3 := hid (found_same (HF1.out.on hb2) hpr.at (by omega))
    rw [decide_eq_true rfl] at H3
    have HQ2 := hid q2
    clear q2 hb2 hpr H2 HF1 HQ1 hol
    go_wp2_with fail
    refine hK.out _ _ (⟨d1, d4, d5⟩) (fun hHeld => ?_)
    clear hK K
    try simp only [Act.put, List.setIfInBounds_toArray, List.set_cons_zero, List.set_cons_succ]
    clear hHeld
    refine wpAnyH_ready (rs := [18]) (by kernel_rfl) (by simp) ?_
    refine AllReadyH.cons (at_drop0 rfl) (fun K hK => ?_) AllReadyH.nil
    rw [if_pos (by rfl)]
    go_simp
    refine H3.out.mono ?_
    rintro e w3 ⟨rfl, hb3⟩
    have q3 := HQ2.out.on hb3
    obtain ⟨⟨_, d1, _, _, d4, d5⟩, _⟩ := HCC.out _ _ _ q3
    have HE := hid (HEND.out _ w3 q3 (Nat.le_succ _))
    clear q3 hb3 H3 HQ2
    go_wp2_with fail
    refine hK.out _ _ (⟨d1, d4, d5⟩) (fun hHeld => ?_)
    clear hK K
    try simp only [Act.put, List.setIfInBounds_toArray, List.set_cons_zero, List.set_cons_succ]
    refine take_val (i := 19) (.bool true) rfl (by kernel_rfl) (by kernel_rfl) (by kernel_rfl) (fun _ _ _ h => h) (by rfl) (fun w hSw => by go_simp) hHeld ?_
    simp only [Act.put, List.setIfInBounds_toArray, List.set_cons_zero, List.set_cons_succ]
    refine wpAnyH_done (by kernel_rfl) ?_ _
    clear hHeld
    go_wp2_with fail
    go_ret
    exact HE.out
  have b1 : (xk == 1) = false := by simpa using e1
  have b2 : (xk == 2) = false := by simpa using e2
  have b3 : (xk == 3) = false := by simpa using e3
  have b4 : (xk == 4) = false := by simpa using e4
  have b5 : (xk == 5) = false := by simpa using e5
  have b6 : (xk == 6) = false := by simpa using e6
  have b7 : (xk == 7) = false := by simpa using e7
  have HE := hid (HEND.out _ V HTV.out (Nat.le_succ _))
  clear HEND HCC HDW
  go_wp2_with fail
  go_ret
  exact HE.out

end Go.Proofs.YtjehjjpdicimhaaGreat

/-
  WritesPlays (stage 11): every answer of every script.
-/
namespace Go.Proofs.YtjehjjpdicimhaaGreat
open Go.RowKit

theorem two_start11 {S : SetApi} {n0 g : Nat} {W w2 : World} (hn : n0 = W.heap.size) (h : OneW S n0 W (fun _ => False) g [] w2) :
    TwoS11 S n0 g w2.heap.size [] (w2.alloc (.cells #[.slice none 0 0] 29)) ∧ Below n0 W (w2.alloc (.cells #[.slice none 0 0] 29)) := by
  have hb := h.below (N := n0) (by omega) fun k hk => hk.elim
  have hs := hb.size
  obtain ⟨B, h1, h2, h3⟩ := h
  have hba : Below w2.heap.size w2 (w2.alloc (.cells #[.slice none 0 0] 29)) := (Below.refl _ _).alloc (Nat.le_refl _) _
  have hbl : ∀ k, BlkW w2.heap.size [] (.slice none 0 0) k → k = w2.heap.size := fun k hk => by
    rcases hk with rfl | hk | ⟨x, hx, _⟩
    · rfl
    · cases hk
    · simp at hx
  refine ⟨⟨fun k => B k ∨ k = w2.heap.size, ⟨B, [], .slice none 0 0, S.on h1 hba, ⟨heap_alloc_new w2 _, by omega, Kind.own_nil _ _ _, fun x hx => by simp at hx, okW_nil, fun x hx => by simp at hx⟩, rfl, fun k hk hk' => ?_, Fr.refl _ _, fun k hk => ?_⟩, fun k hk => ?_⟩, hb.alloc (by omega) _⟩
  · have := (S.blk h1 k hk).2
    have := hbl k hk'
    omega
  · rcases hk with hk | hk
    · exact Or.inl (Or.inl hk)
    · exact Or.inl (Or.inr (hbl k hk))
  · rw [World.size_alloc]
    rcases hk with hk | hk
    · have := S.blk h1 k hk
      omega
    · omega

set_option maxHeartbeats 8000000 in
set_option maxRecDepth 100000 in
theorem plays11_any (S : SetApi) (v : Value) (ops : List Ow) (w : World) (hv : KOw.Is w v ops) (hx : ∀ x ∈ ops, OpW w x ∧ x.fd.length ≤ 50000000) (hl : ops.length < 50000000) :
    Calls Tryz.prog 3 #[v] w fun e w' => e = .returned (.bool true) ∧ Below w.heap.size w w' := by
  have HF := hid (fixed11_any S w)
  obtain ⟨p, cap, rfl, hd⟩ := hv
  have HD := hid hd
  have HX := hid hx
  clear hx hd
  go_enter Tryz.func3, Tryz.ntmps3
  go_wp2_with fail
  refine HF.out.mono ?_
  rintro e w1 ⟨rfl, hb1⟩
  have HN := hid (onew_new S w1)
  have HB1 := hid hb1
  clear hb1 HF
  go_wp2_with fail
  refine HN.out.mono ?_
  rintro e w2 ⟨g, rfl, hp2⟩
  obtain ⟨ht2, hb2⟩ := two_start11 rfl hp2
  have HTW := hid ht2
  have HB2 := hid (bel_then HB1.out HB1.out.size hb2)
  have hws := HB1.out.size
  obtain ⟨n0, hn0⟩ : ∃ n0, w1.heap.size = n0 := ⟨_, rfl⟩
  obtain ⟨gr, hgr⟩ : ∃ gr, w2.heap.size = gr := ⟨_, rfl⟩
  obtain ⟨W2, hW2⟩ : ∃ W2, w2.alloc (.cells #[.slice none 0 0] 29) = W2 := ⟨_, rfl⟩
  rw [hn0, hgr, hW2] at HTW
  rw [hW2] at HB2
  rw [hn0] at hws
  clear hp2 hb2 ht2 HN HB1
  try rw [hn0]
  go_wp2_with fail
  try rw [hW2]
  try rw [hgr]
  try rw [hn0]
  clear hn0 hgr hW2
  go_loopg [14] ops.length (fun gg vi wr => ∃ (i : Nat) (L : List RowW), vi = .int .i64 i ∧ i ≤ ops.length ∧ ops.length - i ≤ gg ∧ Hid (TwoS11 S n0 g gr L wr ∧ L.length ≤ i ∧ Below n0 W2 wr))
  case atStart => exact ⟨0, [], rfl, by omega, by omega, HTW.out, Nat.le_refl _, Below.refl _ _⟩
  case round =>
    clear HTW
    obtain ⟨i, L, rfl, hi, hgk, HI⟩ := hrel
    have hbw : Below w.heap.size w wr := HB2.out.trans (HI.out.2.2.mono hws)
    by_cases hlt : i < ops.length
    · have hltz : (i : Int) < (ops.length : Int) := by omega
      have hiz : (0 : Int) ≤ i := by omega
      obtain ⟨b1, o1, rfl, k1⟩ : ∃ b off, p = some ⟨b, off, none⟩ ∧ KOw.At w b off ops := by
        rcases HD.out with h | h
        · rw [h] at hlt; simp at hlt
        · exact h
      obtain ⟨y0, y1, y2, y3, y4, y5⟩ := kow_at (Kind.at_kept k1 hbw) i hlt
      have hxi := HX.out _ (List.getElem_mem hlt)
      generalize ops[i] = x at *
      obtain ⟨C, tw, hC⟩ := HI.out.1
      have hnw := tw.base
      have hBA : Below wr.heap.size wr (wr.alloc (.cells (encOw x).toArray 36)) := (Below.refl _ _).alloc (Nat.le_refl _) _
      have htA : TwoS11 S n0 g gr L (wr.alloc (.cells (encOw x).toArray 36)) := ⟨C, tw.rebase hBA, fun k hk => by rw [World.size_alloc]; have := hC k hk; omega⟩
      have HST := hid (step11_any S n0 g gr L w _ htA x hxi.1 hws (hbw.trans (hBA.mono (by omega))) (by have := HI.out.2.1; omega) hxi.2)
      have HBN : Hid (Below n0 W2 (wr.alloc (.cells (encOw x).toArray 36))) := HI.out.2.2.trans (hBA.mono hnw)
      have HRL := hid HI.out.2.1
      obtain ⟨xk, xa, xb, xp, xc, xo, xq, xqc, xm, xr, xrc, xf⟩ := x
      simp only [encOw] at *
      clear HI hxi hBA htA tw hC hbw k1 hnw
      go_wp2_with fail
      refine HST.out.mono ?_
      rintro e w3 ⟨rfl, L3, q3, b3, l3⟩
      have HQ3 := hid q3
      have HB3 := hid (HBN.out.trans b3)
      have HL3 := hid l3
      clear q3 b3 l3 HST HBN
      go_wp2_with fail
      go_roundg (ops.length - (i + 1))
      case measure => omega
      exact ⟨i + 1, L3, by go_num, by omega, by omega, HQ3.out, by have h1 := HL3.out; have h2 := HRL.out; omega, HB3.out⟩
    · have hltz : ¬ (i : Int) < (ops.length : Int) := by omega
      obtain ⟨C, tw, hC⟩ := HI.out.1
      have hlo : L.length ≤ 1300000000000 := by have := HI.out.2.1; omega
      have H1 := hid (tw_keys tw hlo)
      have HTW := hid tw
      have HBW := hid hbw
      clear HI tw hC hbw
      go_wp2_with fail
      refine H1.out.mono ?_
      rintro e w3 ⟨u1, rfl, hu1, hb3⟩
      have q3 := HTW.out.on hb3
      have H2 := hid (tw_rkeys q3 (by omega))
      have HU1 := hid hu1
      have HB3 := hid (hb3)
      clear q3 hu1 hb3 H1 HTW
      go_wp2_with fail
      refine H2.out.mono ?_
      rintro e w4 ⟨u2, rfl, hu2, hb4⟩
      have hkl : (keysW L).length = L.length := by unfold keysW; rw [List.length_map]
      have H3 := hid (keys_same (Kind.own_is (Kind.own_on HU1.out hb4)) (Kind.own_is hu2) (by omega) (by omega))
      rw [decide_eq_true rfl] at H3
      have HB4 := hid (bel_then HB3.out HB3.out.size hb4)
      clear hu2 hb4 H2 HU1 HB3 hkl
      go_wp2_with fail
      refine H3.out.mono ?_
      rintro e w5 ⟨rfl, hb5⟩
      have HB5 := hid (bel_then HBW.out HBW.out.size (bel_then HB4.out HB4.out.size hb5))
      clear hb5 H3 HB4
      go_wp2_with fail
      go_ret
      exact ⟨rfl, HB5.out⟩

end Go.Proofs.YtjehjjpdicimhaaGreat

/-
  For every script of bulk at most 1048576 the Go function WritesPlays of package foliolaw11 returns true, and its arguments read behind the call as they read before; over the contracts of package writes.
-/
namespace Go.Proofs.YtjehjjpdicimhaaGreat
open Go.ChangeShapes Go.WideShapes Go.ChangeAt Go.RowKit Go.Joins

set_option maxRecDepth 100000 in
theorem writesplays_walked (S : SetApi) {H : Type} {enc : TypeId × Value → H} (W : World) (base : Nat) (args : Array Value) (ds gs : List (DataW H)) (before : List MemPlace)
    (hval : ∀ (j : Nat) t v, Tryz.f3.params[j]? = some t → args[j]? = some v → Value.okWide Tryz.prog W .any base t v)
    (hW : DataW.Whole enc Tryz.prog Tryz.f3.params.toList Rows.writesPlaysSpec.vars false W args.toList ds gs before)
    (hZ : (DataW.weightsEach Tryz.prog (Tryz.f3.params.toList ++ (OpenSpec.ofChange Rows.writesPlaysSpec).bare.plain.varTypes Tryz.prog) (ds ++ gs)).all (· ≤ reachBytes) = true) (hk : Rows.uptoSmall H (ds ++ gs) = true) :
    Calls Tryz.prog 3 args W fun e W' => ∃ v, e = .returned v ∧ Rows.writesPlaysSpec.post enc Tryz.prog Tryz.f3 false true false false W args v W' := by
  have hW' := hW
  obtain ⟨p, q, hA0, hV, rfl, _, _⟩ := hW
  have hA : DataW.TrodAll enc Tryz.prog W 0 (fun _ => true) true Tryz.f3.params.toList args.toList ds p := hA0
  rw [Tryz.params3] at hA hval hZ
  obtain ⟨v0, vs0, d0, ds0, p0, q0, hargs, rfl, rfl, h0, r0⟩ := trodAll_cons hA
  obtain ⟨rfl, rfl, rfl⟩ := trodAll_nil r0
  obtain rfl : args = #[v0] := by cases args; simp_all
  obtain ⟨rfl, rfl⟩ := trodVars_none hV
  have lt0 : ∀ x ∈ p0, x.block < W.heap.size := by obtain ⟨m, hm⟩ := h0; exact DataW.trod_lt m _ _ _ hm
  have k0 := h0
  have hb : Rows.uptoBulk d0 ≤ 1048576 := by
    have := of_decide_eq_true hk
    simp only [List.append_nil, Rows.uptoBulkAll] at this
    omega
  have hwalk : Calls Tryz.prog 3 #[v0] W fun e w' => e = .returned (.bool true) ∧ Below W.heap.size W w' := by
    have z0 : ∀ n ∈ d0.weights Tryz.prog 22, n ≤ reachBytes := fun n hn => by
      have := List.all_eq_true.1 hZ n (DataW.weights_mem_each (j := 0) rfl rfl n hn)
      simpa using this
    obtain ⟨ops, hx, ho, hl, hlb⟩ := open_opsW (hval 0 22 v0 rfl rfl) h0 z0
    exact plays11_any S v0 ops W hx (fun x hx => ⟨(ho x hx).1, by have := (ho x hx).2; omega⟩) (by omega)
  clear hA0
  refine hwalk.mono fun o W' ⟨he, bel⟩ => ?_
  subst he
  exact ⟨_, rfl, _, _, _, [], _, [], hW', trodAll_mk1 (shut_bool Tryz.underlying4 _),
    (trodAll_cons_mk (Below.trod Tryz.laidOut (by kernel_rfl) (of_decide_eq_true (by kernel_rfl)) k0 bel lt0) trodAll_mk0), rfl, bel.frame _, fun h => by cases h⟩

theorem writesplays_reads (os : Os) {H : Type} (enc : TypeId × Value → H) : ∃ places, DataW.whole enc Tryz.prog ((World.laidAll Tryz.prog os []).forCall (fun _ _ => 0) ⟨#[], #[.slice none 0 0], []⟩).memory Tryz.f3.params.toList Rows.writesPlaysSpec.vars false #[Value.slice none 0 0].toList 8 = some ([.nil], [], places) :=
  ⟨[], by kernel_rfl⟩

set_option maxRecDepth 100000 in
theorem writesplays_lifted (S : SetApi) (os : Os) (started : os.Started) (H : Type) (enc : TypeId × Value → H) (F : Stop.Interp) :
    ReturnsInHanded {} Tryz.checked os 3 .any ((Rows.OpenSpec.upto Rows.writesPlaysSpec).preRow enc Tryz.prog Tryz.f3 Rows.writesPlaysUptoRow.domain false Rows.writesPlaysUptoRow.laid) (((Rows.OpenSpec.upto Rows.writesPlaysSpec).at F).post enc Tryz.prog Tryz.f3 false true false false) := by
  obtain ⟨places, hx⟩ := writesplays_reads os enc
  refine returnsInHanded_of_row (C := Tryz.checked) (s := Rows.OpenSpec.upto Rows.writesPlaysSpec) Tryz.own started (by kernel_rfl) Tryz.func3
    (witness_row_at (enc := enc) (C := Tryz.checked) false (World.laidAll Tryz.prog os []) #[.slice none 0 0] (World.laidAll_os _ _ _) (by kernel_rfl) (by kernel_rfl) (by kernel_rfl)
      (OpenSpec.preRow_of_cond 8 hx (by kernel_rfl) (fun k hk => by cases hk; kernel_rfl) (by kernel_rfl)
        (by rw [MakeChecks.laidMetH_plain _ _ _ (by kernel_rfl)]; exact laidMet_laidAll (laid := []) _ (by kernel_rfl) (by kernel_rfl)))) ?_
  intro W base args ds gs before hval hW _ hcond hZ _ _ _
  exact writesplays_walked S W base args ds gs before hval hW hZ (hcond _ rfl)

theorem writesplays_of (S : SetApi) : Rows.WritesPlaysUptoSaid :=
  OpenClaim.holds_of_cond 3 Tryz.f3 rfl rfl rfl rfl rfl rfl rfl ⟨rfl, rfl, rfl, rfl, rfl⟩ rfl rfl rfl rfl rfl (by kernel_rfl) Tryz.func3 (by kernel_rfl)
    (of_decide_eq_true (by kernel_rfl)) (by unfold Func.isWrapper; first | (rw [if_pos (by decide +kernel)]; kernel_rfl) | (rw [if_neg (by decide +kernel)]; exact ⟨rfl, rfl⟩))
    (fun os started H enc _ F => by rw [OpenClaim.pre_eq_preRow]; exact writesplays_lifted S os started H enc F)

end Go.Proofs.YtjehjjpdicimhaaGreat
