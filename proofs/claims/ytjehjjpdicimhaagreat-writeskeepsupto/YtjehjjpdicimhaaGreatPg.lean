/-
  Texts of this claim, one behind the other: Wfd Wfw Wst Wsp Wpl Wla Wpe Wkx Wke Wkp Wa4.
-/
import Derived.Test.YtjehjjpdicimhaaGreatPd
import Derived.Test.YtjehjjpdicimhaaGreatPb
import Derived.Test.YtjehjjpdicimhaaGreatPc
import Derived.Test.YtjehjjpdicimhaaGreatRows
import Derived.Test.YtjehjjpdicimhaaGreatPf
/-
  The laws of stage 11: the chapter's examples, as data.
-/
namespace Go.Proofs.YtjehjjpdicimhaaGreat
open Go.RowKit

def gxT : ByteArray := ⟨#[65]⟩
def gxa : Ky := (⟨#[65]⟩, ⟨#[97]⟩)
def gxb : Ky := (⟨#[65]⟩, ⟨#[98]⟩)
def gxd : Ky := (⟨#[65]⟩, ⟨#[100]⟩)
def gxV : List Fld := [(⟨#[110]⟩, [⟨#[120]⟩])]
theorem gx_may : mayB gxV = true := by decide
theorem gx_ka : keyB gxa.1 gxa.2 = true := by decide
theorem gx_kb : keyB gxb.1 gxb.2 = true := by decide
theorem gx_k0 : keyB (⟨#[]⟩ : ByteArray) ⟨#[]⟩ = false := by decide
theorem gx_ab : gxa ≠ gxb := fun h => by
  have := congrArg (fun k : Ky => k.2.data.toList) h
  simp [gxa, gxb] at this
theorem gx_ad : gxa ≠ gxd := fun h => by
  have := congrArg (fun k : Ky => k.2.data.toList) h
  simp [gxa, gxd] at this
theorem gx_bd : gxb ≠ gxd := fun h => by
  have := congrArg (fun k : Ky => k.2.data.toList) h
  simp [gxb, gxd] at this
theorem gx_lt : ltKy gxb gxa = false := by decide
theorem gx_lt2 : ltKy gxa gxd = true := by decide

def gW1 : List RowW := [(gxa, some gxV)]
def gW2 : List RowW := [(gxa, some gxV), (gxb, none)]
theorem gc1 : codePW gxa gxV = 0 := by unfold codePW; rw [if_neg (by rw [gx_ka]; simp), if_neg (by rw [gx_may]; simp)]
theorem gc2 : codeDW gxb = 0 := by unfold codeDW; rw [if_neg (by rw [gx_kb]; simp)]
theorem gc3 : codePW (⟨#[]⟩, ⟨#[]⟩) [] = 2 := by unfold codePW; rw [if_pos gx_k0]
theorem gp1 : putW [] gxa gxV = gW1 := by unfold putW; rw [if_pos gc1]; rfl
theorem gp2 : dltW gW1 gxb = gW2 := by
  unfold dltW
  rw [if_pos gc2]
  unfold layW delW gW1
  rw [List.filter_cons, decide_eq_false gx_ab]
  simp only [Bool.not_false, if_true, List.filter_nil]
  unfold insP
  rw [gx_lt]
  rfl
theorem gp3 : putW gW2 (⟨#[]⟩, ⟨#[]⟩) [] = gW2 := by unfold putW; rw [gc3]; rfl
theorem gg1 : getW gW2 gxa = some (some gxV) := by unfold gW2 getW; rw [if_pos rfl]
theorem gg2 : getW gW2 gxb = some none := by unfold gW2 getW; rw [if_neg gx_ab]; unfold getW; rw [if_pos rfl]
theorem gg3 : getW gW2 gxd = none := by unfold gW2 getW; rw [if_neg gx_ad]; unfold getW; rw [if_neg gx_bd]; rfl
theorem gg4 : getW (delW gW2 gxb) gxb = none := by rw [getW_del, if_pos rfl]

def gF : List Fnd := [(gxb, ⟨0, 0, 0, false, []⟩), (gxd, ⟨0, 0, 0, false, []⟩)]
theorem gover : overW gW2 gF gxT (matchM []) = [(gxa, ⟨0, 0, 0, true, gxV⟩), (gxd, ⟨0, 0, 0, false, []⟩)] := by
  have h1 : freeW gW2 gF = [(gxd, ⟨0, 0, 0, false, []⟩)] := by
    unfold freeW gF
    have e1 : (getW gW2 ((gxb, (⟨0, 0, 0, false, []⟩ : Vr)) : Fnd).1).isNone = false := by rw [gg2]; rfl
    have e2 : (getW gW2 ((gxd, (⟨0, 0, 0, false, []⟩ : Vr)) : Fnd).1).isNone = true := by rw [gg3]; rfl
    rw [List.filter_cons, List.filter_cons, e1, e2]
    rfl
  have h2 : hitsW gW2 gxT (matchM []) = [(gxa, ⟨0, 0, 0, true, gxV⟩)] := by
    unfold hitsW gW2
    rw [List.filterMap_cons]
    have : hitW gxT (matchM []) (gxa, some gxV) = some (gxa, ⟨0, 0, 0, true, gxV⟩) := by
      unfold hitW
      simp only
      rw [if_pos ⟨rfl, rfl⟩]
    rw [this]
    rfl
  unfold overW
  rw [h1, h2]
  show insP (gxa, _) [(gxd, _)] = _
  unfold insP
  show (if ltKy gxa gxd = true then _ else _) = _
  rw [gx_lt2]
  rfl

theorem fitKy_a : FitKy gxa := ⟨by decide, by decide⟩
theorem fitKy_b : FitKy gxb := ⟨by decide, by decide⟩
theorem fitKy_0 : FitKy ((⟨#[]⟩ : ByteArray), ⟨#[]⟩) := ⟨by decide, by decide⟩

end Go.Proofs.YtjehjjpdicimhaaGreat

/-
  The laws of stage 11: the chapter's examples, walked.
-/
namespace Go.Proofs.YtjehjjpdicimhaaGreat
open Go.RowKit

/-- The field n with the text x, as it lies: two blocks. -/
def gXs (b : Nat) : List Fx := [⟨⟨#[110]⟩, some ⟨b, 0, none⟩, 1, [⟨#[120]⟩]⟩]
theorem gxs_is {W : World} {b c : Nat} (h1 : W.heap[c]? = some (.cells #[.string ⟨#[110]⟩, .slice (some ⟨b, 0, none⟩) 1 1] 63 (0, 0))) (h2 : W.heap[b]? = some (.cells #[.string ⟨#[120]⟩] 9 (0, 0))) : IsXs W (.slice (some ⟨c, 0, none⟩) 1 1) (gXs b) := by
  refine ⟨_, _, rfl, Or.inr ⟨_, _, rfl, fun i hi => ?_⟩, fun x hx => ?_⟩
  · have hi' : i = 0 := by simpa [gXs] using hi
    subst hi'
    exact ⟨by rw [Lib.cell_of_heap h1]; rfl, by rw [Lib.cell_of_heap h1]; rfl⟩
  · rw [gXs, List.mem_singleton] at hx
    subst hx
    refine Or.inr ⟨_, _, rfl, fun i hi => ?_⟩
    have hi' : i = 0 := by simpa using hi
    subst hi'
    rw [Lib.cell_of_heap h2]; rfl
theorem gxs_fit (b : Nat) : FitX (gXs b) := (may_fit (o := gXs b) gx_may).1

/-- The two finds of the example, as they lie. -/
def gFd : List Fd := [⟨⟨#[65]⟩, ⟨#[98]⟩, ⟨0, 0, 0, false, none, 0, []⟩⟩, ⟨⟨#[65]⟩, ⟨#[100]⟩, ⟨0, 0, 0, false, none, 0, []⟩⟩]
theorem gfd_in {W : World} {c : Nat} (h : W.heap[c]? = some (.cells #[.string ⟨#[65]⟩, .string ⟨#[98]⟩, .int .i64 0, .int .u64 0, .int .i64 0, .bool false, .slice none 0 0, .string ⟨#[65]⟩, .string ⟨#[100]⟩, .int .i64 0, .int .u64 0, .int .i64 0, .bool false, .slice none 0 0] 53 (0, 0))) : FoundIn W (.slice (some ⟨c, 0, none⟩) 2 2) gFd := by
  refine ⟨⟨_, _, rfl, Or.inr ⟨c, 0, rfl, fun i hi j u hu => ?_⟩⟩, fun f hf => ?_, fun f hf => ?_⟩
  · have hi' : i = 0 ∨ i = 1 := by simp [gFd] at hi; omega
    rw [Lib.cell_of_heap h]
    rcases hi' with rfl | rfl
    · have hj := (List.getElem?_eq_some_iff.1 hu).1
      have : j < 7 := hj
      rcases j with _ | _ | _ | _ | _ | _ | _ | j
      all_goals first | exact hu | omega
    · have hj := (List.getElem?_eq_some_iff.1 hu).1
      have : j < 7 := hj
      rcases j with _ | _ | _ | _ | _ | _ | _ | j
      all_goals first | exact hu | omega
  · have : f.v = ⟨0, 0, 0, false, none, 0, []⟩ := by
      simp only [gFd, List.mem_cons, List.not_mem_nil, or_false] at hf
      rcases hf with rfl | rfl <;> rfl
    rw [this]
    exact ⟨(isXs_nil W).1, (isXs_nil W).2.1, (isXs_nil W).2.2⟩
  · simp only [gFd, List.mem_cons, List.not_mem_nil, or_false] at hf
    rcases hf with rfl | rfl
    · exact ⟨by decide, by decide⟩
    · exact ⟨by decide, by decide⟩

set_option linter.unusedSimpArgs false in
set_option maxHeartbeats 8000000 in
set_option maxRecDepth 100000 in
theorem fixed11_any (S : SetApi) (w : World) : Calls Tryz.prog 5 #[] w fun e w' => e = .returned (.bool true) ∧ Below w.heap.size w w' := by
  have HN := hid (S.new w.heap.size w (Nat.le_refl _))
  go_enter Tryz.func5, Tryz.ntmps5
  go_wp2_with fail
  refine HN.out.mono ?_
  rintro e w1 ⟨B, g, rfl, hp1, hb1, hB⟩
  obtain ⟨N, hN⟩ : ∃ N, w.heap.size = N := ⟨_, rfl⟩
  obtain ⟨A, hA⟩ : ∃ A, w1.heap.size = A := ⟨_, rfl⟩
  have hNA : N ≤ A := by have := hb1.size; omega
  obtain ⟨W2, hW2⟩ : ∃ W2, (w1.alloc (.cells #[.string ⟨#[65]⟩, .string ⟨#[97]⟩] 31)).alloc (.cells #[.string ⟨#[65]⟩, .string ⟨#[98]⟩] 31) = W2 := ⟨_, rfl⟩
  have hbW2 : Below w1.heap.size w1 W2 := by rw [← hW2]; exact ((Below.refl _ _).alloc (Nat.le_refl _) _).alloc (by simp) _
  have hsW2 : W2.heap.size = A + 2 := by rw [← hW2, ← hA]; simp
  have hka : W2.heap[A]? = some (.cells #[.string ⟨#[65]⟩, .string ⟨#[97]⟩] 31 (0, 0)) := by rw [← hW2, ← hA, Below.heap_alloc _ _ _ (by simp)]; exact heap_alloc_new w1 _
  have hkb : W2.heap[A + 1]? = some (.cells #[.string ⟨#[65]⟩, .string ⟨#[98]⟩] 31 (0, 0)) := by
    rw [← hW2, ← hA]; have := heap_alloc_new (w1.alloc (.cells #[.string ⟨#[65]⟩, .string ⟨#[97]⟩] 31)) (.cells #[.string ⟨#[65]⟩, .string ⟨#[98]⟩] 31); simpa using this
  have hBA : ∀ k, B k → N ≤ k ∧ k < A := fun k hk => by have := S.blk hp1 k hk; omega
  have KEY : Hid (∀ L W, OneW S N W2 B g L W → (W.cell? ⟨A, 0, none⟩ = some (.string ⟨#[65]⟩) ∧ W.cell? ⟨A, 1, none⟩ = some (.string ⟨#[97]⟩) ∧ W.cell? ⟨A + 1, 0, none⟩ = some (.string ⟨#[65]⟩) ∧ W.cell? ⟨A + 1, 1, none⟩ = some (.string ⟨#[98]⟩)) ∧ N ≤ W.heap.size ∧ A + 2 ≤ W.heap.size) := fun L W h => by
    have h1 := (h.block (b := A) (by omega) (fun hb => by have := hBA A hb; omega)).trans hka
    have h2 := (h.block (b := A + 1) (by omega) (fun hb => by have := hBA _ hb; omega)).trans hkb
    have h3 := h.size
    exact ⟨⟨by rw [Lib.cell_of_heap h1]; rfl, by rw [Lib.cell_of_heap h1]; rfl, by rw [Lib.cell_of_heap h2]; rfl, by rw [Lib.cell_of_heap h2]; rfl⟩, by omega, by omega⟩
  have HBW : Hid (∀ L W, OneW S N W2 B g L W → Below N w W) := fun L W h => (by rw [← hN]; exact bel_then hb1 hb1.size hbW2 : Below N w W2).trans (h.below (by omega) fun k hk => (hBA k hk).1)
  have H2 : Hid (OneW S N W2 B g [] W2) := OneW.start (by rw [← hN]; exact S.on hp1 hbW2)
  obtain ⟨⟨a0, a1, b0, b1⟩, _⟩ := KEY.out _ _ H2.out
  -- the value's two blocks
  obtain ⟨W3, hW3⟩ : ∃ W3, (W2.drew.alloc (.cells #[.string ⟨#[120]⟩] 9)) = W3 := ⟨_, rfl⟩
  obtain ⟨W4, hW4⟩ : ∃ W4, W3.alloc (.cells #[.string ⟨#[110]⟩, .slice (some ⟨A + 2, 0, none⟩) 1 1] 63) = W4 := ⟨_, rfl⟩
  have hb3 : Below W2.heap.size W2 W3 := by rw [← hW3]; exact (bel_drewN (Below.refl _ _) 1).alloc (Nat.le_refl _) _
  have hs3 : W3.heap.size = A + 3 := by rw [← hW3]; simp [hsW2]
  have hb4 : Below W3.heap.size W3 W4 := by rw [← hW4]; exact (Below.refl _ _).alloc (Nat.le_refl _) _
  have h32 : W3.heap[A + 2]? = some (.cells #[.string ⟨#[120]⟩] 9 (0, 0)) := by rw [← hW3, ← hsW2]; exact heap_alloc_new W2.drew _
  have h43 : W4.heap[A + 3]? = some (.cells #[.string ⟨#[110]⟩, .slice (some ⟨A + 2, 0, none⟩) 1 1] 63 (0, 0)) := by rw [← hW4, ← hs3]; exact heap_alloc_new W3 _
  have h42 : W4.heap[A + 2]? = some (.cells #[.string ⟨#[120]⟩] 9 (0, 0)) := (hb4.block _ (by omega)).trans h32
  have o3 := H2.out.on hb3
  have o4 := o3.on hb4
  obtain ⟨⟨c0, c1, d0, d1⟩, _⟩ := KEY.out _ _ o3
  obtain ⟨⟨e0, e1, f0, f1⟩, hn4, _⟩ := KEY.out _ _ o4
  have HP1 := hid (onew_put o4 hn4 (by decide) gxa fitKy_a _ (gXs (A + 2)) gxV (gxs_is h43 h42) (gxs_fit _) rfl)
  rw [gc1, gp1] at HP1
  simp only [gxa] at HP1
  clear hp1 hb1 hB hka hkb hbW2 hb3 hb4 h32 h43 h42 o3 o4 HN hn4
  go_upto_region 5 with fail
  try rw [hA]
  try rw [hW2]
  refine wp_region_held_drew (S := fun w' => w'.cell? ⟨A, 0, none⟩ = some (.string ⟨#[65]⟩) ∧ w'.cell? ⟨A, 1, none⟩ = some (.string ⟨#[97]⟩) ∧ w'.cell? ⟨A + 1, 0, none⟩ = some (.string ⟨#[65]⟩) ∧ w'.cell? ⟨A + 1, 1, none⟩ = some (.string ⟨#[98]⟩)) (by kernel_rfl) ⟨a0, a1, b0, b1⟩ (fun hHeld => ?_)
  refine take_val (i := 0) (.pointer (some ⟨g, 0, none⟩)) rfl (by kernel_rfl) (by kernel_rfl) (by kernel_rfl) (fun _ _ _ h => h) (by rfl) (fun w hSw => by go_simp) hHeld ?_
  simp only [Act.put, List.setIfInBounds_toArray, List.set_cons_zero, List.set_cons_succ]
  refine take_val (i := 1) (.agg #[.string ⟨#[65]⟩, .string ⟨#[97]⟩]) rfl (by kernel_rfl) (by kernel_rfl) (by kernel_rfl) (fun _ _ _ h => h) (by rfl) (fun w hSw => by go_simp) hHeld ?_
  simp only [Act.put, List.setIfInBounds_toArray, List.set_cons_zero, List.set_cons_succ]
  refine take_val (i := 6) (.pointer (some ⟨g, 0, none⟩)) rfl (by kernel_rfl) (by kernel_rfl) (by kernel_rfl) (fun _ _ _ h => h) (by rfl) (fun w hSw => by go_simp) hHeld ?_
  simp only [Act.put, List.setIfInBounds_toArray, List.set_cons_zero, List.set_cons_succ]
  refine take_val (i := 7) (.agg #[.string ⟨#[65]⟩, .string ⟨#[98]⟩]) rfl (by kernel_rfl) (by kernel_rfl) (by kernel_rfl) (fun _ _ _ h => h) (by rfl) (fun w hSw => by go_simp) hHeld ?_
  simp only [Act.put, List.setIfInBounds_toArray, List.set_cons_zero, List.set_cons_succ]
  refine take_val (i := 9) (.pointer (some ⟨g, 0, none⟩)) rfl (by kernel_rfl) (by kernel_rfl) (by kernel_rfl) (fun _ _ _ h => h) (by rfl) (fun w hSw => by go_simp) hHeld ?_
  simp only [Act.put, List.setIfInBounds_toArray, List.set_cons_zero, List.set_cons_succ]
  refine take_val (i := 10) (.agg #[.string ⟨#[]⟩, .string ⟨#[]⟩]) rfl (by kernel_rfl) (by kernel_rfl) (by kernel_rfl) (fun _ _ _ h => h) (by rfl) (fun w hSw => by go_simp) hHeld ?_
  simp only [Act.put, List.setIfInBounds_toArray, List.set_cons_zero, List.set_cons_succ]
  clear hHeld
  refine wpAnyH_ready (rs := [2]) (by kernel_rfl) (by simp) ?_
  refine AllReadyH.cons (at_drop0 rfl) (fun K hK => ?_) AllReadyH.nil
  rw [if_pos (by rfl)]
  go_simp
  go_wp2_with fail
  try rw [hW3]
  refine hK.out _ _ (⟨c0, c1, d0, d1⟩) (fun hHeld => ?_)
  clear hK K
  try simp only [Act.put, List.setIfInBounds_toArray, List.set_cons_zero, List.set_cons_succ]
  refine take_val (i := 3) (.agg #[.string ⟨#[110]⟩, .slice (some ⟨A + 2, 0, none⟩) 1 1]) rfl (by kernel_rfl) (by kernel_rfl) (by kernel_rfl) (fun _ _ _ h => h) (by rfl) (fun w hSw => by go_simp) hHeld ?_
  simp only [Act.put, List.setIfInBounds_toArray, List.set_cons_zero, List.set_cons_succ]
  clear hHeld
  refine wpAnyH_ready (rs := [4]) (by kernel_rfl) (by simp) ?_
  refine AllReadyH.cons (at_drop0 rfl) (fun K hK => ?_) AllReadyH.nil
  rw [if_pos (by rfl)]
  go_simp
  go_wp2_with fail
  try rw [hW4]
  refine hK.out _ _ (⟨e0, e1, f0, f1⟩) (fun hHeld => ?_)
  clear hK K
  try simp only [Act.put, List.setIfInBounds_toArray, List.set_cons_zero, List.set_cons_succ]
  clear hHeld
  refine wpAnyH_ready (rs := [5]) (by kernel_rfl) (by simp) ?_
  refine AllReadyH.cons (at_drop0 rfl) (fun K hK => ?_) AllReadyH.nil
  rw [if_pos (by rfl)]
  go_simp
  refine HP1.out.mono ?_
  rintro e w5 ⟨rfl, o5⟩
  obtain ⟨⟨a0, a1, b0, b1⟩, hn5, _⟩ := KEY.out _ _ o5
  have HP2 := hid (onew_del o5 hn5 (by decide) gxb fitKy_b)
  rw [gc2, gp2] at HP2
  simp only [gxb] at HP2
  clear o5 HP1 hn5
  go_wp2_with fail
  refine hK.out _ _ (⟨a0, a1, b0, b1⟩) (fun hHeld => ?_)
  clear hK K
  try simp only [Act.put, List.setIfInBounds_toArray, List.set_cons_zero, List.set_cons_succ]
  clear hHeld
  refine wpAnyH_ready (rs := [8]) (by kernel_rfl) (by simp) ?_
  refine AllReadyH.cons (at_drop0 rfl) (fun K hK => ?_) AllReadyH.nil
  rw [if_pos (by rfl)]
  go_simp
  refine HP2.out.mono ?_
  rintro e w6 ⟨rfl, o6⟩
  obtain ⟨⟨a0, a1, b0, b1⟩, hn6, _⟩ := KEY.out _ _ o6
  have HP3 := hid (onew_put o6 hn6 (by decide) (⟨#[]⟩, ⟨#[]⟩) fitKy_0 (.slice none 0 0) [] [] (isXs_nil _).1 (isXs_nil w6).2.1 rfl)
  rw [gc3, gp3] at HP3
  clear o6 HP2 hn6
  go_wp2_with fail
  refine hK.out _ _ (⟨a0, a1, b0, b1⟩) (fun hHeld => ?_)
  clear hK K
  try simp only [Act.put, List.setIfInBounds_toArray, List.set_cons_zero, List.set_cons_succ]
  clear hHeld
  refine wpAnyH_ready (rs := [11]) (by kernel_rfl) (by simp) ?_
  refine AllReadyH.cons (at_drop0 rfl) (fun K hK => ?_) AllReadyH.nil
  rw [if_pos (by rfl)]
  go_simp
  refine HP3.out.mono ?_
  rintro e w7 ⟨rfl, o7⟩
  obtain ⟨⟨a0, a1, b0, b1⟩, hn7, hn7'⟩ := KEY.out _ _ o7
  have HG := hid (onew_get o7 (by decide) gxa fitKy_a)
  have HO7 := hid o7
  simp only [gxa] at HG
  clear o7 HP3
  go_wp2_with fail
  refine hK.out _ _ (⟨a0, a1, b0, b1⟩) (fun hHeld => ?_)
  clear hK K
  try simp only [Act.put, List.setIfInBounds_toArray, List.set_cons_zero, List.set_cons_succ]
  refine take_val (i := 12) (.int .i64 0) rfl (by kernel_rfl) (by kernel_rfl) (by kernel_rfl) (fun _ _ _ h => h) (by rfl) (fun w hSw => by go_simp) hHeld ?_
  simp only [Act.put, List.setIfInBounds_toArray, List.set_cons_zero, List.set_cons_succ]
  refine take_val (i := 13) (.int .i64 0) rfl (by kernel_rfl) (by kernel_rfl) (by kernel_rfl) (fun _ _ _ h => h) (by rfl) (fun w hSw => by go_simp) hHeld ?_
  simp only [Act.put, List.setIfInBounds_toArray, List.set_cons_zero, List.set_cons_succ]
  refine take_val (i := 14) (.int .i64 2) rfl (by kernel_rfl) (by kernel_rfl) (by kernel_rfl) (fun _ _ _ h => h) (by rfl) (fun w hSw => by go_simp) hHeld ?_
  simp only [Act.put, List.setIfInBounds_toArray, List.set_cons_zero, List.set_cons_succ]
  refine wpAnyH_done (by kernel_rfl) ?_ _
  clear hHeld
  go_wp2_with fail
  refine HG.out.mono ?_
  rintro e w8 ⟨p, c, o, rfl, _, ho, hb8⟩
  have hgg := gg1
  rw [gxa] at hgg
  rw [hgg] at ho ⊢
  have hlv : liveW (some (some gxV)) = true := rfl
  rw [hlv]
  have hol : o.length = 1 := by
    have := congrArg List.length ho
    simpa [valW, gxV] using this
  have o8 := HO7.out.on hb8
  obtain ⟨⟨a0, a1, b0, b1⟩, hn8, hn8'⟩ := KEY.out _ _ o8
  rw [hol]
  clear ho hb8 HO7 HG hn7 hn7' hol hgg
  obtain ⟨A8, hA8⟩ : ∃ A8, w8.heap.size = A8 := ⟨_, rfl⟩
  obtain ⟨W9, hW9⟩ : ∃ W9, w8.alloc (.cells #[.string ⟨#[65]⟩, .string ⟨#[98]⟩, .int .i64 0, .int .u64 0, .int .i64 0, .bool false, .slice none 0 0, .string ⟨#[65]⟩, .string ⟨#[100]⟩, .int .i64 0, .int .u64 0, .int .i64 0, .bool false, .slice none 0 0] 53) = W9 := ⟨_, rfl⟩
  have hb9 : Below w8.heap.size w8 W9 := by rw [← hW9]; exact (Below.refl _ _).alloc (Nat.le_refl _) _
  have hob9 : W9.heap[A8]? = some (.cells #[.string ⟨#[65]⟩, .string ⟨#[98]⟩, .int .i64 0, .int .u64 0, .int .i64 0, .bool false, .slice none 0 0, .string ⟨#[65]⟩, .string ⟨#[100]⟩, .int .i64 0, .int .u64 0, .int .i64 0, .bool false, .slice none 0 0] 53 (0, 0)) := by rw [← hW9, ← hA8]; exact heap_alloc_new w8 _
  have o9 := o8.on hb9
  have HOV := hid (onew_over o9 _ gFd (gfd_in hob9) gxT (.slice none 0 0) [] (Kind.is_nil KM W9) ⟨Nat.zero_le _, fun _ h => by simp at h⟩ (by decide))
  have hgm : gFd.map Fd.fnd = gF := rfl
  rw [hgm, gover] at HOV
  simp only [gxT] at HOV
  have HO9 := hid o9
  clear o8 o9 hb9 hob9 hgm hn8 hn8'
  go_wp2_with fail
  try rw [hA8]
  try rw [hW9]
  refine HOV.out.mono ?_
  rintro e w10 ⟨u, fs, rfl, hown, _, _, hfs, hb10⟩
  obtain ⟨f0, f1, rfl⟩ : ∃ f0 f1, fs = [f0, f1] := by
    have := congrArg List.length hfs
    match fs, this with
    | [x, y], _ => exact ⟨x, y, rfl⟩
  obtain ⟨pu, cap, rfl⟩ := Kind.own_shape hown
  obtain ⟨G, rfl, _, _, hat, _⟩ := Kind.own_form hown (by simp)
  have o10 := HO9.out.on hb10
  obtain ⟨k0, k1, _⟩ := kfd_at hat 0 (by simp)
  have hf0 : f0.fnd = (gxa, ⟨0, 0, 0, true, gxV⟩) := by
    simp only [List.map_cons, List.map_nil] at hfs
    injection hfs
  have ha0 : f0.a = ⟨#[65]⟩ := congrArg (fun x : Fnd => x.1.1) hf0
  have hb0 : f0.b = ⟨#[97]⟩ := congrArg (fun x : Fnd => x.1.2) hf0
  simp only [List.getElem_cons_zero, Nat.zero_mul, Nat.zero_add, ha0, hb0] at k0 k1
  have hGs := cell_block k0
  clear hfs hat hf0 ha0 hb0
  have hGn : W9.heap.size ≤ G := (World.ownsRow.lt hown G rfl).1
  obtain ⟨B9, hp9, hf9, hB9⟩ := HO9.out
  have hs29 := hf9.size
  have hs10 := hb10.size
  have KEY2 : Hid (∀ L W, OneW S N w10 B9 g L W → (W.cell? ⟨A, 0, none⟩ = some (.string ⟨#[65]⟩) ∧ W.cell? ⟨A, 1, none⟩ = some (.string ⟨#[97]⟩) ∧ W.cell? ⟨A + 1, 0, none⟩ = some (.string ⟨#[65]⟩) ∧ W.cell? ⟨A + 1, 1, none⟩ = some (.string ⟨#[98]⟩) ∧ W.cell? ⟨G, 0, none⟩ = some (.string ⟨#[65]⟩) ∧ W.cell? ⟨G, 1, none⟩ = some (.string ⟨#[97]⟩)) ∧ N ≤ W.heap.size ∧ Below N w W) := fun L W h => by
    have hA9 : ∀ k, k = A ∨ k = A + 1 → ¬ B9 k := fun k hk hb => by
      rcases hB9 k hb with h1 | h1
      · have := hBA k h1; omega
      · omega
    obtain ⟨⟨z0, z1, z2, z3⟩, z4, _⟩ := KEY.out _ _ o10
    have hbl : ∀ b o v, w10.cell? ⟨b, o, none⟩ = some v → ¬ B9 b → W.cell? ⟨b, o, none⟩ = some v := fun b o v hc hb => (World.cell?_of_block (a := ⟨b, o, none⟩) (h.block (b := b) (cell_block hc) hb)).trans hc
    have hG9 : ¬ B9 G := fun hb => by have := (S.blk hp9 G hb).2; omega
    exact ⟨⟨hbl _ _ _ z0 (hA9 A (Or.inl rfl)), hbl _ _ _ z1 (hA9 A (Or.inl rfl)), hbl _ _ _ z2 (hA9 _ (Or.inr rfl)), hbl _ _ _ z3 (hA9 _ (Or.inr rfl)), hbl _ _ _ k0 hG9, hbl _ _ _ k1 hG9⟩, Nat.le_trans z4 h.size, (HBW.out _ _ o10).trans (h.below z4 fun k hk => (S.blk hp9 k hk).1)⟩
  have q10 : OneW S N w10 B9 g gW2 w10 := OneW.start (S.on hp9 hb10)
  have qd : OneW S N w10 B9 g gW2 w10.drew := q10.on (bel_drewN (Below.refl _ _) 1)
  obtain ⟨⟨a0, a1, b0, b1, g0, g1⟩, _⟩ := KEY2.out _ _ q10
  have HL := hid (onew_len qd (by decide))
  have HQD := hid qd
  have hgl : gW2.length = 2 := rfl
  rw [hgl] at HL
  have heq := fun W => Z.eql_key ⟨#[65]⟩ ⟨#[97]⟩ ⟨#[65]⟩ ⟨#[97]⟩ W
  rw [Z.eqK_iff (⟨#[65]⟩, ⟨#[97]⟩) (⟨#[65]⟩, ⟨#[97]⟩), decide_eq_true rfl] at heq
  clear hown HO9 hp9 hf9 hB9 hb10 o10 q10 qd KEY HBW H2 HOV hW2 hW3 hW4 hW9 k0 k1 hGs hgl
  go_wp2_with fail
  refine wp_region_held_drew (S := fun w' => w'.cell? ⟨A, 0, none⟩ = some (.string ⟨#[65]⟩) ∧ w'.cell? ⟨A, 1, none⟩ = some (.string ⟨#[97]⟩) ∧ w'.cell? ⟨A + 1, 0, none⟩ = some (.string ⟨#[65]⟩) ∧ w'.cell? ⟨A + 1, 1, none⟩ = some (.string ⟨#[98]⟩) ∧ w'.cell? ⟨G, 0, none⟩ = some (.string ⟨#[65]⟩) ∧ w'.cell? ⟨G, 1, none⟩ = some (.string ⟨#[97]⟩)) (by kernel_rfl) ⟨a0, a1, b0, b1, g0, g1⟩ (fun hHeld => ?_)
  refine take_val (i := 0) (.int .i64 0) rfl (by kernel_rfl) (by kernel_rfl) (by kernel_rfl) (fun _ _ _ h => h) (by rfl) (fun w hSw => by go_simp) hHeld ?_
  simp only [Act.put, List.setIfInBounds_toArray, List.set_cons_zero, List.set_cons_succ]
  refine take_val (i := 1) (.bool true) rfl (by kernel_rfl) (by kernel_rfl) (by kernel_rfl) (fun _ _ _ h => h) (by rfl) (fun w hSw => by go_simp) hHeld ?_
  simp only [Act.put, List.setIfInBounds_toArray, List.set_cons_zero, List.set_cons_succ]
  refine take_val (i := 2) (.bool true) rfl (by kernel_rfl) (by kernel_rfl) (by kernel_rfl) (fun _ _ _ h => h) (by rfl) (fun w hSw => by go_simp) hHeld ?_
  simp only [Act.put, List.setIfInBounds_toArray, List.set_cons_zero, List.set_cons_succ]
  refine take_val (i := 3) (.int .i64 0) rfl (by kernel_rfl) (by kernel_rfl) (by kernel_rfl) (fun _ _ _ h => h) (by rfl) (fun w hSw => by go_simp) hHeld ?_
  simp only [Act.put, List.setIfInBounds_toArray, List.set_cons_zero, List.set_cons_succ]
  refine take_val (i := 4) (.bool true) rfl (by kernel_rfl) (by kernel_rfl) (by kernel_rfl) (fun _ _ _ h => h) (by rfl) (fun w hSw => by go_simp) hHeld ?_
  simp only [Act.put, List.setIfInBounds_toArray, List.set_cons_zero, List.set_cons_succ]
  refine take_val (i := 5) (.bool true) rfl (by kernel_rfl) (by kernel_rfl) (by kernel_rfl) (fun _ _ _ h => h) (by rfl) (fun w hSw => by go_simp) hHeld ?_
  simp only [Act.put, List.setIfInBounds_toArray, List.set_cons_zero, List.set_cons_succ]
  refine take_val (i := 6) (.bool true) rfl (by kernel_rfl) (by kernel_rfl) (by kernel_rfl) (fun _ _ _ h => h) (by rfl) (fun w hSw => by go_simp) hHeld ?_
  simp only [Act.put, List.setIfInBounds_toArray, List.set_cons_zero, List.set_cons_succ]
  refine take_val (i := 7) (.int .i64 2) rfl (by kernel_rfl) (by kernel_rfl) (by kernel_rfl) (fun _ _ _ h => h) (by rfl) (fun w hSw => by go_simp) hHeld ?_
  simp only [Act.put, List.setIfInBounds_toArray, List.set_cons_zero, List.set_cons_succ]
  refine take_val (i := 8) (.bool true) rfl (by kernel_rfl) (by kernel_rfl) (by kernel_rfl) (fun _ _ _ h => h) (by rfl) (fun w hSw => by go_simp) hHeld ?_
  simp only [Act.put, List.setIfInBounds_toArray, List.set_cons_zero, List.set_cons_succ]
  refine take_val (i := 9) (.bool true) rfl (by kernel_rfl) (by kernel_rfl) (by kernel_rfl) (fun _ _ _ h => h) (by rfl) (fun w hSw => by go_simp) hHeld ?_
  simp only [Act.put, List.setIfInBounds_toArray, List.set_cons_zero, List.set_cons_succ]
  refine take_val (i := 10) (.bool true) rfl (by kernel_rfl) (by kernel_rfl) (by kernel_rfl) (fun _ _ _ h => h) (by rfl) (fun w hSw => by go_simp) hHeld ?_
  simp only [Act.put, List.setIfInBounds_toArray, List.set_cons_zero, List.set_cons_succ]
  refine take_val (i := 11) (.slice p 1 c) rfl (by kernel_rfl) (by kernel_rfl) (by kernel_rfl) (fun _ _ _ h => h) (by rfl) (fun w hSw => by go_simp) hHeld ?_
  simp only [Act.put, List.setIfInBounds_toArray, List.set_cons_zero, List.set_cons_succ]
  refine take_val (i := 12) (.int .i64 1) rfl (by kernel_rfl) (by kernel_rfl) (by kernel_rfl) (fun _ _ _ h => h) (by rfl) (fun w hSw => by go_simp) hHeld ?_
  simp only [Act.put, List.setIfInBounds_toArray, List.set_cons_zero, List.set_cons_succ]
  refine take_val (i := 13) (.bool true) rfl (by kernel_rfl) (by kernel_rfl) (by kernel_rfl) (fun _ _ _ h => h) (by rfl) (fun w hSw => by go_simp) hHeld ?_
  simp only [Act.put, List.setIfInBounds_toArray, List.set_cons_zero, List.set_cons_succ]
  refine take_val (i := 14) (.bool true) rfl (by kernel_rfl) (by kernel_rfl) (by kernel_rfl) (fun _ _ _ h => h) (by rfl) (fun w hSw => by go_simp) hHeld ?_
  simp only [Act.put, List.setIfInBounds_toArray, List.set_cons_zero, List.set_cons_succ]
  refine take_val (i := 15) (.bool true) rfl (by kernel_rfl) (by kernel_rfl) (by kernel_rfl) (fun _ _ _ h => h) (by rfl) (fun w hSw => by go_simp) hHeld ?_
  simp only [Act.put, List.setIfInBounds_toArray, List.set_cons_zero, List.set_cons_succ]
  refine take_val (i := 16) (.bool true) rfl (by kernel_rfl) (by kernel_rfl) (by kernel_rfl) (fun _ _ _ h => h) (by rfl) (fun w hSw => by go_simp) hHeld ?_
  simp only [Act.put, List.setIfInBounds_toArray, List.set_cons_zero, List.set_cons_succ]
  refine take_val (i := 17) (.bool true) rfl (by kernel_rfl) (by kernel_rfl) (by kernel_rfl) (fun _ _ _ h => h) (by rfl) (fun w hSw => by go_simp) hHeld ?_
  simp only [Act.put, List.setIfInBounds_toArray, List.set_cons_zero, List.set_cons_succ]
  refine take_val (i := 18) (.bool true) rfl (by kernel_rfl) (by kernel_rfl) (by kernel_rfl) (fun _ _ _ h => h) (by rfl) (fun w hSw => by go_simp) hHeld ?_
  simp only [Act.put, List.setIfInBounds_toArray, List.set_cons_zero, List.set_cons_succ]
  refine take_val (i := 19) (.bool true) rfl (by kernel_rfl) (by kernel_rfl) (by kernel_rfl) (fun _ _ _ h => h) (by rfl) (fun w hSw => by go_simp) hHeld ?_
  simp only [Act.put, List.setIfInBounds_toArray, List.set_cons_zero, List.set_cons_succ]
  refine take_val (i := 20) (.bool true) rfl (by kernel_rfl) (by kernel_rfl) (by kernel_rfl) (fun _ _ _ h => h) (by rfl) (fun w hSw => by go_simp) hHeld ?_
  simp only [Act.put, List.setIfInBounds_toArray, List.set_cons_zero, List.set_cons_succ]
  refine take_val (i := 21) (.bool true) rfl (by kernel_rfl) (by kernel_rfl) (by kernel_rfl) (fun _ _ _ h => h) (by rfl) (fun w hSw => by go_simp) hHeld ?_
  simp only [Act.put, List.setIfInBounds_toArray, List.set_cons_zero, List.set_cons_succ]
  refine take_val (i := 22) (.slice (some ⟨G, 0, none⟩) 2 cap) rfl (by kernel_rfl) (by kernel_rfl) (by kernel_rfl) (fun _ _ _ h => h) (by rfl) (fun w hSw => by go_simp) hHeld ?_
  simp only [Act.put, List.setIfInBounds_toArray, List.set_cons_zero, List.set_cons_succ]
  refine take_val (i := 23) (.int .i64 2) rfl (by kernel_rfl) (by kernel_rfl) (by kernel_rfl) (fun _ _ _ h => h) (by rfl) (fun w hSw => by go_simp) hHeld ?_
  simp only [Act.put, List.setIfInBounds_toArray, List.set_cons_zero, List.set_cons_succ]
  refine take_val (i := 24) (.bool true) rfl (by kernel_rfl) (by kernel_rfl) (by kernel_rfl) (fun _ _ _ h => h) (by rfl) (fun w hSw => by go_simp) hHeld ?_
  simp only [Act.put, List.setIfInBounds_toArray, List.set_cons_zero, List.set_cons_succ]
  refine take_val (i := 25) (.bool true) rfl (by kernel_rfl) (by kernel_rfl) (by kernel_rfl) (fun _ _ _ h => h) (by rfl) (fun w hSw => by go_simp) hHeld ?_
  simp only [Act.put, List.setIfInBounds_toArray, List.set_cons_zero, List.set_cons_succ]
  refine take_val (i := 26) (.bool true) rfl (by kernel_rfl) (by kernel_rfl) (by kernel_rfl) (fun _ _ _ h => h) (by rfl) (fun w hSw => by go_simp) hHeld ?_
  simp only [Act.put, List.setIfInBounds_toArray, List.set_cons_zero, List.set_cons_succ]
  refine take_val (i := 27) (.slice (some ⟨G, 0, none⟩) 2 cap) rfl (by kernel_rfl) (by kernel_rfl) (by kernel_rfl) (fun _ _ _ h => h) (by rfl) (fun w hSw => by go_simp) hHeld ?_
  simp only [Act.put, List.setIfInBounds_toArray, List.set_cons_zero, List.set_cons_succ]
  refine take_val (i := 28) (.pointer (some ⟨G, 0, none⟩)) rfl (by kernel_rfl) (by kernel_rfl) (by kernel_rfl) (fun _ _ _ h => h) (by rfl) (fun w hSw => by go_simp) hHeld ?_
  simp only [Act.put, List.setIfInBounds_toArray, List.set_cons_zero, List.set_cons_succ]
  refine take_val (i := 29) (.pointer (some ⟨G, 0, none⟩)) rfl (by kernel_rfl) (by kernel_rfl) (by kernel_rfl) (fun _ _ _ h => h) (by rfl) (fun w hSw => by go_simp) hHeld ?_
  simp only [Act.put, List.setIfInBounds_toArray, List.set_cons_zero, List.set_cons_succ]
  refine take_val (i := 30) (.agg #[.string ⟨#[65]⟩, .string ⟨#[97]⟩]) rfl (by kernel_rfl) (by kernel_rfl) (by kernel_rfl) (fun _ _ _ h => h) (by rfl) (fun w hSw => by go_simp) hHeld ?_
  simp only [Act.put, List.setIfInBounds_toArray, List.set_cons_zero, List.set_cons_succ]
  refine take_val (i := 31) (.agg #[.string ⟨#[65]⟩, .string ⟨#[97]⟩]) rfl (by kernel_rfl) (by kernel_rfl) (by kernel_rfl) (fun _ _ _ h => h) (by rfl) (fun w hSw => by go_simp) hHeld ?_
  simp only [Act.put, List.setIfInBounds_toArray, List.set_cons_zero, List.set_cons_succ]
  refine take_val (i := 32) (.bool true) rfl (by kernel_rfl) (by kernel_rfl) (by kernel_rfl) (fun _ _ _ h => h) (by rfl) (fun w hSw => by go_simp) hHeld ?_
  simp only [Act.put, List.setIfInBounds_toArray, List.set_cons_zero, List.set_cons_succ]
  refine take_val (i := 33) (.bool true) rfl (by kernel_rfl) (by kernel_rfl) (by kernel_rfl) (fun _ _ _ h => h) (by rfl) (fun w hSw => by go_simp) hHeld ?_
  simp only [Act.put, List.setIfInBounds_toArray, List.set_cons_zero, List.set_cons_succ]
  refine take_val (i := 34) (.bool true) rfl (by kernel_rfl) (by kernel_rfl) (by kernel_rfl) (fun _ _ _ h => h) (by rfl) (fun w hSw => by go_simp) hHeld ?_
  simp only [Act.put, List.setIfInBounds_toArray, List.set_cons_zero, List.set_cons_succ]
  refine take_val (i := 35) (.pointer (some ⟨g, 0, none⟩)) rfl (by kernel_rfl) (by kernel_rfl) (by kernel_rfl) (fun _ _ _ h => h) (by rfl) (fun w hSw => by go_simp) hHeld ?_
  simp only [Act.put, List.setIfInBounds_toArray, List.set_cons_zero, List.set_cons_succ]
  clear hHeld
  refine wpAnyH_ready (rs := [36]) (by kernel_rfl) (by simp) ?_
  refine AllReadyH.cons (at_drop0 rfl) (fun K hK => ?_) AllReadyH.nil
  rw [if_pos (by rfl)]
  go_simp
  refine HL.out.mono ?_
  rintro e w11 ⟨rfl, hb11⟩
  have q11 := HQD.out.on hb11
  obtain ⟨⟨a0, a1, b0, b1, g0, g1⟩, _⟩ := KEY2.out _ _ q11
  have HKS := hid (onew_keys q11 (by decide))
  have HQ11 := hid q11
  clear hb11 HL q11 HQD
  go_wp2_with fail
  refine hK.out _ _ (⟨a0, a1, b0, b1, g0, g1⟩) (fun hHeld => ?_)
  clear hK K
  try simp only [Act.put, List.setIfInBounds_toArray, List.set_cons_zero, List.set_cons_succ]
  refine take_val (i := 37) (.bool true) rfl (by kernel_rfl) (by kernel_rfl) (by kernel_rfl) (fun _ _ _ h => h) (by rfl) (fun w hSw => by go_simp) hHeld ?_
  simp only [Act.put, List.setIfInBounds_toArray, List.set_cons_zero, List.set_cons_succ]
  refine take_val (i := 38) (.bool true) rfl (by kernel_rfl) (by kernel_rfl) (by kernel_rfl) (fun _ _ _ h => h) (by rfl) (fun w hSw => by go_simp) hHeld ?_
  simp only [Act.put, List.setIfInBounds_toArray, List.set_cons_zero, List.set_cons_succ]
  refine take_val (i := 39) (.bool true) rfl (by kernel_rfl) (by kernel_rfl) (by kernel_rfl) (fun _ _ _ h => h) (by rfl) (fun w hSw => by go_simp) hHeld ?_
  simp only [Act.put, List.setIfInBounds_toArray, List.set_cons_zero, List.set_cons_succ]
  refine take_val (i := 40) (.pointer (some ⟨g, 0, none⟩)) rfl (by kernel_rfl) (by kernel_rfl) (by kernel_rfl) (fun _ _ _ h => h) (by rfl) (fun w hSw => by go_simp) hHeld ?_
  simp only [Act.put, List.setIfInBounds_toArray, List.set_cons_zero, List.set_cons_succ]
  clear hHeld
  refine wpAnyH_ready (rs := [41]) (by kernel_rfl) (by simp) ?_
  refine AllReadyH.cons (at_drop0 rfl) (fun K hK => ?_) AllReadyH.nil
  rw [if_pos (by rfl)]
  go_simp
  refine HKS.out.mono ?_
  rintro e w12 ⟨u, rfl, hu, hb12⟩
  obtain ⟨pk, ck, rfl⟩ := Kind.own_shape hu
  have hkl : (keysW gW2).length = 2 := rfl
  rw [hkl]
  have q12 := HQ11.out.on hb12
  obtain ⟨⟨a0, a1, b0, b1, g0, g1⟩, hn12, _⟩ := KEY2.out _ _ q12
  have HF1 := hid (onew_forget q12 hn12 (by decide) gxb fitKy_b)
  rw [gg2] at HF1
  simp only [gxb] at HF1
  clear hb12 HKS q12 HQ11 hu hkl hn12
  go_wp2_with fail
  refine hK.out _ _ (⟨a0, a1, b0, b1, g0, g1⟩) (fun hHeld => ?_)
  clear hK K
  try simp only [Act.put, List.setIfInBounds_toArray, List.set_cons_zero, List.set_cons_succ]
  refine take_val (i := 42) (.int .i64 2) rfl (by kernel_rfl) (by kernel_rfl) (by kernel_rfl) (fun _ _ _ h => h) (by rfl) (fun w hSw => by go_simp) hHeld ?_
  simp only [Act.put, List.setIfInBounds_toArray, List.set_cons_zero, List.set_cons_succ]
  refine take_val (i := 43) (.bool true) rfl (by kernel_rfl) (by kernel_rfl) (by kernel_rfl) (fun _ _ _ h => h) (by rfl) (fun w hSw => by go_simp) hHeld ?_
  simp only [Act.put, List.setIfInBounds_toArray, List.set_cons_zero, List.set_cons_succ]
  refine take_val (i := 44) (.bool true) rfl (by kernel_rfl) (by kernel_rfl) (by kernel_rfl) (fun _ _ _ h => h) (by rfl) (fun w hSw => by go_simp) hHeld ?_
  simp only [Act.put, List.setIfInBounds_toArray, List.set_cons_zero, List.set_cons_succ]
  refine take_val (i := 45) (.bool true) rfl (by kernel_rfl) (by kernel_rfl) (by kernel_rfl) (fun _ _ _ h => h) (by rfl) (fun w hSw => by go_simp) hHeld ?_
  simp only [Act.put, List.setIfInBounds_toArray, List.set_cons_zero, List.set_cons_succ]
  refine take_val (i := 46) (.pointer (some ⟨g, 0, none⟩)) rfl (by kernel_rfl) (by kernel_rfl) (by kernel_rfl) (fun _ _ _ h => h) (by rfl) (fun w hSw => by go_simp) hHeld ?_
  simp only [Act.put, List.setIfInBounds_toArray, List.set_cons_zero, List.set_cons_succ]
  refine take_val (i := 47) (.agg #[.string ⟨#[65]⟩, .string ⟨#[98]⟩]) rfl (by kernel_rfl) (by kernel_rfl) (by kernel_rfl) (fun _ _ _ h => h) (by rfl) (fun w hSw => by go_simp) hHeld ?_
  simp only [Act.put, List.setIfInBounds_toArray, List.set_cons_zero, List.set_cons_succ]
  clear hHeld
  refine wpAnyH_ready (rs := [48]) (by kernel_rfl) (by simp) ?_
  refine AllReadyH.cons (at_drop0 rfl) (fun K hK => ?_) AllReadyH.nil
  rw [if_pos (by rfl)]
  go_simp
  refine HF1.out.mono ?_
  rintro e w13 ⟨rfl, q13⟩
  obtain ⟨⟨a0, a1, b0, b1, g0, g1⟩, hn13, _⟩ := KEY2.out _ _ q13
  have HF2 := hid (onew_forget q13 hn13 (Nat.le_trans (delW_len _ _) (by decide)) gxb fitKy_b)
  have hg4 := gg4
  simp only [gxb] at hg4 HF2
  rw [hg4] at HF2
  clear HF1 q13 hn13 hg4
  go_wp2_with fail
  refine hK.out _ _ (⟨a0, a1, b0, b1, g0, g1⟩) (fun hHeld => ?_)
  clear hK K
  try simp only [Act.put, List.setIfInBounds_toArray, List.set_cons_zero, List.set_cons_succ]
  refine take_val (i := 49) (.bool true) rfl (by kernel_rfl) (by kernel_rfl) (by kernel_rfl) (fun _ _ _ h => h) (by rfl) (fun w hSw => by go_simp) hHeld ?_
  simp only [Act.put, List.setIfInBounds_toArray, List.set_cons_zero, List.set_cons_succ]
  refine take_val (i := 50) (.bool true) rfl (by kernel_rfl) (by kernel_rfl) (by kernel_rfl) (fun _ _ _ h => h) (by rfl) (fun w hSw => by go_simp) hHeld ?_
  simp only [Act.put, List.setIfInBounds_toArray, List.set_cons_zero, List.set_cons_succ]
  refine take_val (i := 51) (.pointer (some ⟨g, 0, none⟩)) rfl (by kernel_rfl) (by kernel_rfl) (by kernel_rfl) (fun _ _ _ h => h) (by rfl) (fun w hSw => by go_simp) hHeld ?_
  simp only [Act.put, List.setIfInBounds_toArray, List.set_cons_zero, List.set_cons_succ]
  refine take_val (i := 52) (.agg #[.string ⟨#[65]⟩, .string ⟨#[98]⟩]) rfl (by kernel_rfl) (by kernel_rfl) (by kernel_rfl) (fun _ _ _ h => h) (by rfl) (fun w hSw => by go_simp) hHeld ?_
  simp only [Act.put, List.setIfInBounds_toArray, List.set_cons_zero, List.set_cons_succ]
  clear hHeld
  refine wpAnyH_ready (rs := [53]) (by kernel_rfl) (by simp) ?_
  refine AllReadyH.cons (at_drop0 rfl) (fun K hK => ?_) AllReadyH.nil
  rw [if_pos (by rfl)]
  go_simp
  refine HF2.out.mono ?_
  rintro e w14 ⟨rfl, q14⟩
  obtain ⟨⟨a0, a1, b0, b1, g0, g1⟩, _, hb14⟩ := KEY2.out _ _ q14
  have HB14 := hid hb14
  clear HF2 q14 hb14
  go_wp2_with fail
  refine hK.out _ _ (⟨a0, a1, b0, b1, g0, g1⟩) (fun hHeld => ?_)
  clear hK K
  try simp only [Act.put, List.setIfInBounds_toArray, List.set_cons_zero, List.set_cons_succ]
  refine take_val (i := 54) (.bool true) rfl (by kernel_rfl) (by kernel_rfl) (by kernel_rfl) (fun _ _ _ h => h) (by rfl) (fun w hSw => by go_simp) hHeld ?_
  simp only [Act.put, List.setIfInBounds_toArray, List.set_cons_zero, List.set_cons_succ]
  refine take_val (i := 55) (.bool true) rfl (by kernel_rfl) (by kernel_rfl) (by kernel_rfl) (fun _ _ _ h => h) (by rfl) (fun w hSw => by go_simp) hHeld ?_
  simp only [Act.put, List.setIfInBounds_toArray, List.set_cons_zero, List.set_cons_succ]
  refine take_val (i := 56) (.bool true) rfl (by kernel_rfl) (by kernel_rfl) (by kernel_rfl) (fun _ _ _ h => h) (by rfl) (fun w hSw => by go_simp) hHeld ?_
  simp only [Act.put, List.setIfInBounds_toArray, List.set_cons_zero, List.set_cons_succ]
  refine wpAnyH_done (by kernel_rfl) ?_ _
  clear hHeld
  go_wp2_with fail
  go_ret
  rw [hN]
  exact ⟨rfl, HB14.out⟩

end Go.Proofs.YtjehjjpdicimhaaGreat

/-
  The program's set and the reference's, side by side (stage 11).
-/
namespace Go.Proofs.YtjehjjpdicimhaaGreat
open Go.RowKit

/-- Both sets, from V on: only C's blocks and new ones have turned. -/
def TwoW (S : SetApi) (n0 : Nat) (V : World) (C : Nat → Prop) (g h : Nat) (L L' : List RowW) (W : World) : Prop :=
  ∃ B d vs, S.Prg n0 W B g L ∧ RefW n0 W h d vs ∧ d.map Wx.row = L' ∧ (∀ k, B k → ¬ BlkW h d vs k) ∧ Fr C V W ∧ ∀ k, (B k ∨ BlkW h d vs k) → C k ∨ V.heap.size ≤ k

section
variable {S : SetApi} {n0 : Nat} {V : World} {C : Nat → Prop} {g h : Nat} {L L' : List RowW} {W : World}

theorem TwoW.on {W' : World} (t : TwoW S n0 V C g h L L' W) (hb : Below W.heap.size W W') : TwoW S n0 V C g h L L' W' := by
  obtain ⟨B, d, vs, h1, h2, h3, h4, h5, h6⟩ := t
  exact ⟨B, d, vs, S.on h1 hb, h2.on hb, h3, h4, Fr.then h5 (Fr.of_below (P := fun _ => False) hb) fun _ h => h.elim, h6⟩
theorem TwoW.size (t : TwoW S n0 V C g h L L' W) : V.heap.size ≤ W.heap.size := by
  obtain ⟨B, d, vs, h1, h2, h3, h4, h5, h6⟩ := t
  exact h5.size
theorem TwoW.block (t : TwoW S n0 V C g h L L' W) {b : Nat} (hb : b < V.heap.size) (hC : ¬ C b) : W.heap[b]? = V.heap[b]? := by
  obtain ⟨B, d, vs, h1, h2, h3, h4, h5, h6⟩ := t
  exact h5.block b hb hC
theorem TwoW.below (t : TwoW S n0 V C g h L L' W) {N : Nat} (hN : N ≤ V.heap.size) (hC : ∀ k, C k → N ≤ k) : Below N V W := by
  obtain ⟨B, d, vs, h1, h2, h3, h4, h5, h6⟩ := t
  exact h5.below hN hC
theorem TwoW.ok (t : TwoW S n0 V C g h L L' W) : OkW L ∧ OkW L' := by
  obtain ⟨B, d, vs, h1, h2, h3, h4, h5, h6⟩ := t
  exact ⟨S.ok h1, h3 ▸ h2.ok⟩
theorem TwoW.base (t : TwoW S n0 V C g h L L' W) : n0 ≤ W.heap.size := by
  obtain ⟨B, d, vs, h1, h2, h3, h4, h5, h6⟩ := t
  have := h2.low
  have := h2.lt
  omega
/-- Seen from where it stands. -/
theorem TwoW.now (t : TwoW S n0 V C g h L L' W) : ∃ C', TwoW S n0 W C' g h L L' W ∧ ∀ k, C' k → n0 ≤ k ∧ k < W.heap.size := by
  obtain ⟨B, d, vs, h1, h2, h3, h4, h5, h6⟩ := t
  refine ⟨fun k => B k ∨ BlkW h d vs k, ⟨B, d, vs, h1, h2, h3, h4, Fr.refl _ _, fun k hk => Or.inl hk⟩, fun k hk => ?_⟩
  rcases hk with hk | hk
  · exact S.blk h1 k hk
  · exact h2.blk k hk
theorem TwoW.len (t : TwoW S n0 V C g h L L' W) : ∃ p c, W.cell? ⟨h, 0, none⟩ = some (.slice p L'.length c) := by
  obtain ⟨B, d, vs, h1, h2, h3, h4, h5, h6⟩ := t
  obtain ⟨p, c, rfl⟩ := Kind.own_shape h2.row
  refine ⟨p, c, ?_⟩
  have := h2.cell
  rw [this, ← h3, List.length_map]

theorem TwoW.turn_p {B : Nat → Prop} {d : List Wx} {vs : Value} {L1 : List RowW} {w' : World} (hr : RefW n0 W h d vs) (hL : d.map Wx.row = L') (hd : ∀ k, B k → ¬ BlkW h d vs k) (f : Fr C V W) (hB : ∀ k, (B k ∨ BlkW h d vs k) → C k ∨ V.heap.size ≤ k)
    (ht : ∃ B', S.Prg n0 w' B' g L1 ∧ Fr B W w' ∧ ∀ k, B' k → B k ∨ W.heap.size ≤ k) : TwoW S n0 V C g h L1 L' w' := by
  obtain ⟨B', h1, h2, h3⟩ := ht
  refine ⟨B', d, vs, h1, hr.fr h2 fun k hk hb => hd k hb hk, hL, fun k hk hb => ?_, f.then h2 fun k hk => hB k (Or.inl hk), fun k hk => ?_⟩
  · rcases h3 k hk with h4 | h4
    · exact hd k h4 hb
    · have := (hr.blk k hb).2
      omega
  · rcases hk with hk | hk
    · exact (h3 k hk).elim (fun h => hB k (Or.inl h)) fun h => Or.inr (Nat.le_trans f.size h)
    · exact hB k (Or.inr hk)
theorem TwoW.turn_r {B : Nat → Prop} {d : List Wx} {vs : Value} {L1 : List RowW} {w' : World} (hp : S.Prg n0 W B g L) (_hr : RefW n0 W h d vs) (hd : ∀ k, B k → ¬ BlkW h d vs k) (f : Fr C V W) (hB : ∀ k, (B k ∨ BlkW h d vs k) → C k ∨ V.heap.size ≤ k)
    (ht : RTurnW n0 W h d vs L1 w') : TwoW S n0 V C g h L L1 w' := by
  obtain ⟨d', vs', h1, hL, h2, h3⟩ := ht
  refine ⟨B, d', vs', S.fr hp h2 fun k hk e => hd k hk (e ▸ Or.inl rfl), h1, hL, fun k hk hb => ?_, f.then h2 fun k hk => hB k (Or.inr (hk ▸ Or.inl rfl)), fun k hk => ?_⟩
  · rcases h3 k hb with h4 | h4
    · exact hd k hk h4
    · have := (S.blk hp k hk).2
      omega
  · rcases hk with hk | hk
    · exact hB k (Or.inl hk)
    · exact (h3 k hk).elim (fun h => hB k (Or.inr h)) fun h => Or.inr (Nat.le_trans f.size h)

section
variable (t : TwoW S n0 V C g h L L' W)
include t
theorem tw_put (hl : L.length < 1300000000000) (k : Ky) (hk : FitKy k) (v : Value) (o : List Fx) (val : List Fld) (hv : IsXs W v o) (hf : FitX o) (hval : o.map Fx.fld = val) :
    Calls Tryz.prog 12 #[.pointer (some ⟨g, 0, none⟩), .agg #[.string k.1, .string k.2], v] W fun e w' => e = .returned (.int .i64 (codePW k val)) ∧ TwoW S n0 V C g h (putW L k val) L' w' := by
  have hn := t.base
  obtain ⟨B, d, vs, h1, h2, h3, h4, h5, h6⟩ := t
  exact (S.put h1 hn hl k hk v o val hv hf hval).mono fun e w' q => ⟨q.1, TwoW.turn_p h2 h3 h4 h5 h6 q.2⟩
theorem tw_del (hl : L.length < 1300000000000) (k : Ky) (hk : FitKy k) :
    Calls Tryz.prog 20 #[.pointer (some ⟨g, 0, none⟩), .agg #[.string k.1, .string k.2]] W fun e w' => e = .returned (.int .i64 (codeDW k)) ∧ TwoW S n0 V C g h (dltW L k) L' w' := by
  have hn := t.base
  obtain ⟨B, d, vs, h1, h2, h3, h4, h5, h6⟩ := t
  exact (S.del h1 hn hl k hk).mono fun e w' q => ⟨q.1, TwoW.turn_p h2 h3 h4 h5 h6 q.2⟩
theorem tw_forget (hl : L.length ≤ 1300000000000) (k : Ky) (hk : FitKy k) :
    Calls Tryz.prog 22 #[.pointer (some ⟨g, 0, none⟩), .agg #[.string k.1, .string k.2]] W fun e w' => e = .returned (.bool (getW L k).isSome) ∧ TwoW S n0 V C g h (delW L k) L' w' := by
  have hn := t.base
  obtain ⟨B, d, vs, h1, h2, h3, h4, h5, h6⟩ := t
  exact (S.forget h1 hn hl k hk).mono fun e w' q => ⟨q.1, TwoW.turn_p h2 h3 h4 h5 h6 q.2⟩
theorem tw_get (hl : L.length ≤ 1300000000000) (k : Ky) (hk : FitKy k) :
    Calls Tryz.prog 16 #[.pointer (some ⟨g, 0, none⟩), .agg #[.string k.1, .string k.2]] W fun e w' => GetPostP W L k e w' := by
  obtain ⟨B, d, vs, h1, _⟩ := t
  exact S.get h1 hl k hk
theorem tw_keys (hl : L.length ≤ 1300000000000) : Calls Tryz.prog 9 #[.pointer (some ⟨g, 0, none⟩)] W fun e w' => KeysPost W (keysW L) e w' := by
  obtain ⟨B, d, vs, h1, _⟩ := t
  exact S.keys h1 hl
theorem tw_len (hl : L.length ≤ 1300000000000) : Calls Tryz.prog 23 #[.pointer (some ⟨g, 0, none⟩)] W fun e w' => e = .returned (.int .i64 (L.length : Nat)) ∧ Below W.heap.size W w' := by
  obtain ⟨B, d, vs, h1, _⟩ := t
  exact S.len h1 hl
theorem tw_over (vf : Value) (fo : List Fd) (hfo : FoundIn W vf fo) (typ : ByteArray) (vp : Value) (pt : List Tm) (hp : KM.Is W vp pt) (hpf : FitM pt) (hl : fo.length + L.length ≤ 100000000) :
    Calls Tryz.prog 18 #[.pointer (some ⟨g, 0, none⟩), vf, .string typ, vp] W fun e w' => FoPost W (overW L (fo.map Fd.fnd) typ (matchM pt)) e w' := by
  obtain ⟨B, d, vs, h1, _⟩ := t
  exact S.over h1 vf fo hfo typ vp pt hp hpf hl

theorem tw_rput (hl : L'.length < 2000000000000) (k : Ky) (hk : FitKy k) (v : Value) (o : List Fx) (val : List Fld) (hv : IsXs W v o) (hf : FitX o) (hval : o.map Fx.fld = val) :
    Calls Tryz.prog 13 #[.pointer (some ⟨h, 0, none⟩), .agg #[.string k.1, .string k.2], v] W fun e w' => e = .returned (.int .i64 (codePW k val)) ∧ TwoW S n0 V C g h L (putW L' k val) w' := by
  have hn := t.base
  obtain ⟨B, d, vs, h1, h2, rfl, h4, h5, h6⟩ := t
  exact (putW_any h2 hn (by simpa using hl) k hk v o val hv hf hval).mono fun e w' q => ⟨q.1, TwoW.turn_r h1 h2 h4 h5 h6 q.2⟩
theorem tw_rdel (hl : L'.length < 2000000000000) (k : Ky) (hk : FitKy k) :
    Calls Tryz.prog 24 #[.pointer (some ⟨h, 0, none⟩), .agg #[.string k.1, .string k.2]] W fun e w' => e = .returned (.int .i64 (codeDW k)) ∧ TwoW S n0 V C g h L (dltW L' k) w' := by
  have hn := t.base
  obtain ⟨B, d, vs, h1, h2, rfl, h4, h5, h6⟩ := t
  exact (deleteW_any h2 hn (by simpa using hl) k hk).mono fun e w' q => ⟨q.1, TwoW.turn_r h1 h2 h4 h5 h6 q.2⟩
theorem tw_rforget (hl : L'.length ≤ 2000000000000) (k : Ky) :
    Calls Tryz.prog 25 #[.pointer (some ⟨h, 0, none⟩), .agg #[.string k.1, .string k.2]] W fun e w' => e = .returned (.bool (getW L' k).isSome) ∧ TwoW S n0 V C g h L (delW L' k) w' := by
  have hn := t.base
  obtain ⟨B, d, vs, h1, h2, rfl, h4, h5, h6⟩ := t
  exact (forgetW_any h2 hn (by simpa using hl) k).mono fun e w' q => ⟨q.1, TwoW.turn_r h1 h2 h4 h5 h6 q.2⟩
theorem tw_rget (hl : L'.length ≤ 2000000000000) (k : Ky) :
    Calls Tryz.prog 26 #[.pointer (some ⟨h, 0, none⟩), .agg #[.string k.1, .string k.2]] W fun e w' => GetPostW W L' k e w' := by
  obtain ⟨B, d, vs, h1, h2, rfl, h4, h5, h6⟩ := t
  exact getW_any h2 (by simpa using hl) k
theorem tw_rkeys (hl : L'.length ≤ 2000000000000) : Calls Tryz.prog 10 #[.pointer (some ⟨h, 0, none⟩)] W fun e w' => KeysPost W (keysW L') e w' := by
  obtain ⟨B, d, vs, h1, h2, rfl, h4, h5, h6⟩ := t
  exact keysW_any h2 (by simpa using hl)
theorem tw_rover (vf : Value) (fo : List Fd) (hfo : FoundIn W vf fo) (typ : ByteArray) (vp : Value) (pt : List Tm) (hp : KM.Is W vp pt) (hpf : FitM pt) (hl : fo.length + L'.length ≤ 100000000) :
    Calls Tryz.prog 19 #[.pointer (some ⟨h, 0, none⟩), vf, .string typ, vp] W fun e w' => OverPost W (overW L' (fo.map Fd.fnd) typ (matchM pt)) e w' := by
  obtain ⟨B, d, vs, h1, h2, rfl, h4, h5, h6⟩ := t
  exact overW_any h2 vf fo hfo.is (fun f hf => ⟨(hfo.each f hf).1, (hfo.each f hf).2.1⟩) typ vp pt hp hpf (by rw [List.length_map] at hl; omega)
end
end

end Go.Proofs.YtjehjjpdicimhaaGreat

/-
  One operation of both sets (stage 11): step.
-/
namespace Go.Proofs.YtjehjjpdicimhaaGreat
open Go.RowKit

/-- Both sets have the same writes. -/
def TwoS11 (S : SetApi) (n0 g h : Nat) (L : List RowW) (W : World) : Prop := ∃ C, TwoW S n0 W C g h L L W ∧ ∀ k, C k → n0 ≤ k ∧ k < W.heap.size

/-- What a step leaves. -/
def StepPostW (S : SetApi) (n0 g h : Nat) (L : List RowW) (W : World) (e : Ending) (w' : World) : Prop := e = .returned (.bool true) ∧ ∃ L', TwoS11 S n0 g h L' w' ∧ Below n0 W w' ∧ L'.length ≤ L.length + 1

theorem TwoW.rebase {S : SetApi} {n0 : Nat} {C : Nat → Prop} {g h : Nat} {L L' : List RowW} {W W' : World} (t : TwoW S n0 W C g h L L' W) (hb : Below W.heap.size W W') : TwoW S n0 W' C g h L L' W' := by
  obtain ⟨B, d, vs, h1, h2, h3, h4, h5, h6⟩ := t
  refine ⟨B, d, vs, S.on h1 hb, h2.on hb, h3, h4, Fr.refl _ _, fun k hk => ?_⟩
  rcases h6 k hk with h | h
  · exact Or.inl h
  · rcases hk with hk | hk
    · have := (S.blk h1 k hk).2; omega
    · have := (h2.blk k hk).2; omega

set_option linter.unusedSimpArgs false in
set_option maxHeartbeats 8000000 in
set_option maxRecDepth 100000 in
theorem step11_any (S : SetApi) (n0 g h : Nat) (L : List RowW) (w0 W : World) (t : TwoS11 S n0 g h L W) (x : Ow) (hx : OpW w0 x) (h0 : w0.heap.size ≤ n0) (hb0 : Below w0.heap.size w0 W) (hL : L.length < 50000000) (hfd : x.fd.length ≤ 50000000) :
    Calls Tryz.prog 7 #[.pointer (some ⟨g, 0, none⟩), .pointer (some ⟨h, 0, none⟩), .agg (encOw x).toArray] W fun e w' => StepPostW S n0 g h L W e w' := by
  obtain ⟨C, t, hC⟩ := t
  have hn := t.base
  obtain ⟨V, hV⟩ : ∃ V, W.alloc (.cells (encOw x).toArray 36) = V := ⟨_, rfl⟩
  have hbV : Below W.heap.size W V := by rw [← hV]; exact (Below.refl _ _).alloc (Nat.le_refl _) _
  have hsV := hbV.size
  have hVo : V.heap[W.heap.size]? = some (.cells (encOw x).toArray 36 (0, 0)) := by rw [← hV]; exact heap_alloc_new W _
  have hVlt : W.heap.size < V.heap.size := (Array.getElem?_eq_some_iff.1 hVo).1
  have tV : TwoW S n0 V C g h L L V := t.rebase hbV
  have HEND : Hid (∀ L1 w', TwoW S n0 V C g h L1 L1 w' → L1.length ≤ L.length + 1 → StepPostW S n0 g h L W (.returned (.bool true)) w') := fun L1 w' q hl => by
    obtain ⟨C', q1, q2⟩ := q.now
    exact ⟨rfl, L1, ⟨C', q1, q2⟩, (hbV.mono hn).trans (q.below (Nat.le_trans hn hsV) fun k hk => (hC k hk).1), hl⟩
  obtain ⟨N, hN⟩ : ∃ N, W.heap.size = N := ⟨_, rfl⟩
  rw [hN] at hVo
  have hNC : ¬ C N := fun hc => by have := (hC N hc).2; omega
  have HCC : Hid (∀ L1 L2 w', TwoW S n0 V C g h L1 L2 w' → (w'.cell? ⟨N, 0, none⟩ = some (.int .i64 x.kind) ∧ w'.cell? ⟨N, 1, none⟩ = some (.string x.a) ∧ w'.cell? ⟨N, 2, none⟩ = some (.string x.b) ∧ w'.cell? ⟨N, 3, none⟩ = some (.slice x.p x.o.length x.cap) ∧ w'.cell? ⟨N, 4, none⟩ = some (.slice x.q x.tm.length x.qcap) ∧ w'.cell? ⟨N, 5, none⟩ = some (.slice x.r x.fd.length x.rcap)) ∧ OpW w' x) := fun L1 L2 w' q => by
    have := (q.block (b := N) (by omega) hNC).trans hVo
    have hbw : Below w0.heap.size w0 w' := (hb0.trans (hbV.mono (by omega))).trans ((q.below (Nat.le_trans hn hsV) fun k hk => (hC k hk).1).mono h0)
    exact ⟨⟨by rw [Lib.cell_of_heap this]; rfl, by rw [Lib.cell_of_heap this]; rfl, by rw [Lib.cell_of_heap this]; rfl, by rw [Lib.cell_of_heap this]; rfl, by rw [Lib.cell_of_heap this]; rfl, by rw [Lib.cell_of_heap this]; rfl⟩, hx.on hbw⟩
  have HTV := hid tV
  obtain ⟨⟨c0, c1, c2, c3, c4, c5⟩, _⟩ := HCC.out _ _ _ tV
  clear t hC hVo tV hbV hsV hNC hn hVlt hx h0 hb0
  obtain ⟨xk, xa, xb, xp, xc, xo, xq, xqc, xm, xr, xrc, xf⟩ := x
  simp only [encOw, Ow.key] at *
  have h13 : L.length < 1300000000000 := by omega
  have h13' : L.length ≤ 1300000000000 := by omega
  have h20 : L.length < 2000000000000 := by omega
  have h20' : L.length ≤ 2000000000000 := by omega
  have HDW : Hid (TwoW S n0 V C g h L L V.drew) := HTV.out.on (bel_drewN (Below.refl _ _) 1)
  go_enter Tryz.func7, Tryz.ntmps7
  by_cases e1 : xk = 1
  · subst e1
    obtain ⟨_, hop⟩ := HCC.out _ _ _ HDW.out
    have H1 := hid (fields_any (.slice xp xo.length xc) xo V.drew hop.is hop.fit hop.copy)
    have HFT := hid hop.fit
    have HKF := hid hop.kfit
    clear hop
    go_wp2_with fail
    refine wp_region_held_drew (S := fun w' => w'.cell? ⟨N, 1, none⟩ = some (.string xa) ∧ w'.cell? ⟨N, 2, none⟩ = some (.string xb) ∧ w'.cell? ⟨N, 3, none⟩ = some (.slice xp xo.length xc)) (by kernel_rfl) ⟨c1, c2, c3⟩ (fun hHeld => ?_)
    refine take_val (i := 0) (.pointer (some ⟨g, 0, none⟩)) rfl (by kernel_rfl) (by kernel_rfl) (by kernel_rfl) (fun _ _ _ h => h) (by rfl) (fun w hSw => by go_simp) hHeld ?_
    simp only [Act.put, List.setIfInBounds_toArray, List.set_cons_zero, List.set_cons_succ]
    refine take_val (i := 1) (.pointer (some ⟨N, 1, none⟩)) rfl (by kernel_rfl) (by kernel_rfl) (by kernel_rfl) (fun _ _ _ h => h) (by rfl) (fun w hSw => by go_simp) hHeld ?_
    simp only [Act.put, List.setIfInBounds_toArray, List.set_cons_zero, List.set_cons_succ]
    refine take_val (i := 2) (.agg #[.string xa, .string xb]) rfl (by kernel_rfl) (by kernel_rfl) (by kernel_rfl) (fun _ _ _ h => h) (by rfl) (fun w hSw => by go_simp) hHeld ?_
    simp only [Act.put, List.setIfInBounds_toArray, List.set_cons_zero, List.set_cons_succ]
    refine take_val (i := 3) (.pointer (some ⟨N, 3, none⟩)) rfl (by kernel_rfl) (by kernel_rfl) (by kernel_rfl) (fun _ _ _ h => h) (by rfl) (fun w hSw => by go_simp) hHeld ?_
    simp only [Act.put, List.setIfInBounds_toArray, List.set_cons_zero, List.set_cons_succ]
    refine take_val (i := 4) (.slice xp xo.length xc) rfl (by kernel_rfl) (by kernel_rfl) (by kernel_rfl) (fun _ _ _ h => h) (by rfl) (fun w hSw => by go_simp) hHeld ?_
    simp only [Act.put, List.setIfInBounds_toArray, List.set_cons_zero, List.set_cons_succ]
    refine take_val (i := 7) (.pointer (some ⟨h, 0, none⟩)) rfl (by kernel_rfl) (by kernel_rfl) (by kernel_rfl) (fun _ _ _ h => h) (by rfl) (fun w hSw => by go_simp) hHeld ?_
    simp only [Act.put, List.setIfInBounds_toArray, List.set_cons_zero, List.set_cons_succ]
    refine take_val (i := 8) (.pointer (some ⟨N, 1, none⟩)) rfl (by kernel_rfl) (by kernel_rfl) (by kernel_rfl) (fun _ _ _ h => h) (by rfl) (fun w hSw => by go_simp) hHeld ?_
    simp only [Act.put, List.setIfInBounds_toArray, List.set_cons_zero, List.set_cons_succ]
    refine take_val (i := 9) (.agg #[.string xa, .string xb]) rfl (by kernel_rfl) (by kernel_rfl) (by kernel_rfl) (fun _ _ _ h => h) (by rfl) (fun w hSw => by go_simp) hHeld ?_
    simp only [Act.put, List.setIfInBounds_toArray, List.set_cons_zero, List.set_cons_succ]
    refine take_val (i := 10) (.pointer (some ⟨N, 3, none⟩)) rfl (by kernel_rfl) (by kernel_rfl) (by kernel_rfl) (fun _ _ _ h => h) (by rfl) (fun w hSw => by go_simp) hHeld ?_
    simp only [Act.put, List.setIfInBounds_toArray, List.set_cons_zero, List.set_cons_succ]
    refine take_val (i := 11) (.slice xp xo.length xc) rfl (by kernel_rfl) (by kernel_rfl) (by kernel_rfl) (fun _ _ _ h => h) (by rfl) (fun w hSw => by go_simp) hHeld ?_
    simp only [Act.put, List.setIfInBounds_toArray, List.set_cons_zero, List.set_cons_succ]
    clear hHeld
    refine wpAnyH_ready (rs := [5]) (by kernel_rfl) (by simp) ?_
    refine AllReadyH.cons (at_drop0 rfl) (fun K hK => ?_) AllReadyH.nil
    rw [if_pos (by rfl)]
    go_simp
    refine H1.out.mono ?_
    rintro e w1 ⟨u, o1, rfl, hJ, ho, hb1⟩
    have q1 := HDW.out.on hb1
    obtain ⟨⟨_, d1, d2, d3, _, _⟩, hop1⟩ := HCC.out _ _ _ q1
    obtain ⟨pu, cu, rfl⟩ := ownJ_slice hJ
    have H2 := hid (tw_put q1 h13 (xa, xb) HKF.out _ o1 (xo.map Fx.fld) hJ.1.is (fitX_same ho HFT.out) ho)
    clear q1 hb1 hJ ho H1 hop1
    go_wp2_with fail
    refine hK.out _ _ (⟨d1, d2, d3⟩) (fun hHeld => ?_)
    clear hK K
    try simp only [Act.put, List.setIfInBounds_toArray, List.set_cons_zero, List.set_cons_succ]
    clear hHeld
    refine wpAnyH_ready (rs := [6]) (by kernel_rfl) (by simp) ?_
    refine AllReadyH.cons (at_drop0 rfl) (fun K hK => ?_) AllReadyH.nil
    rw [if_pos (by rfl)]
    go_simp
    refine H2.out.mono ?_
    rintro e w2 ⟨rfl, q2⟩
    obtain ⟨⟨_, d1, d2, d3, _, _⟩, hop2⟩ := HCC.out _ _ _ q2
    have H3 := hid (tw_rput q2 h20 (xa, xb) HKF.out (.slice xp xo.length xc) xo (xo.map Fx.fld) hop2.is hop2.fit rfl)
    clear q2 H2 hop2
    generalize codePW (xa, xb) (xo.map Fx.fld) = R at *
    go_wp2_with fail
    refine hK.out _ _ (⟨d1, d2, d3⟩) (fun hHeld => ?_)
    clear hK K
    try simp only [Act.put, List.setIfInBounds_toArray, List.set_cons_zero, List.set_cons_succ]
    clear hHeld
    refine wpAnyH_ready (rs := [12]) (by kernel_rfl) (by simp) ?_
    refine AllReadyH.cons (at_drop0 rfl) (fun K hK => ?_) AllReadyH.nil
    rw [if_pos (by rfl)]
    go_simp
    refine H3.out.mono ?_
    rintro e w3 ⟨rfl, q3⟩
    obtain ⟨⟨_, d1, d2, d3, _, _⟩, _⟩ := HCC.out _ _ _ q3
    have HE := hid (HEND.out _ w3 q3 (putW_len _ _ _))
    clear q3 H3
    go_wp2_with fail
    refine hK.out _ _ (⟨d1, d2, d3⟩) (fun hHeld => ?_)
    clear hK K
    try simp only [Act.put, List.setIfInBounds_toArray, List.set_cons_zero, List.set_cons_succ]
    refine take_val (i := 13) (.bool true) rfl (by kernel_rfl) (by kernel_rfl) (by kernel_rfl) (fun _ _ _ h => h) (by rfl) (fun w hSw => by go_simp) hHeld ?_
    simp only [Act.put, List.setIfInBounds_toArray, List.set_cons_zero, List.set_cons_succ]
    refine take_val (i := 14) (.bool true) rfl (by kernel_rfl) (by kernel_rfl) (by kernel_rfl) (fun _ _ _ h => h) (by rfl) (fun w hSw => by go_simp) hHeld ?_
    simp only [Act.put, List.setIfInBounds_toArray, List.set_cons_zero, List.set_cons_succ]
    refine wpAnyH_done (by kernel_rfl) ?_ _
    clear hHeld
    go_wp2_with fail
    go_ret
    exact HE.out
  by_cases e2 : xk = 2
  · subst e2
    obtain ⟨_, hop⟩ := HCC.out _ _ _ HDW.out
    have HKF := hid hop.kfit
    have H1 := hid (tw_del HDW.out h13 (xa, xb) hop.kfit)
    clear hop
    go_wp2_with fail
    refine wp_region_held_drew (S := fun w' => w'.cell? ⟨N, 1, none⟩ = some (.string xa) ∧ w'.cell? ⟨N, 2, none⟩ = some (.string xb)) (by kernel_rfl) ⟨c1, c2⟩ (fun hHeld => ?_)
    refine take_val (i := 0) (.pointer (some ⟨g, 0, none⟩)) rfl (by kernel_rfl) (by kernel_rfl) (by kernel_rfl) (fun _ _ _ h => h) (by rfl) (fun w hSw => by go_simp) hHeld ?_
    simp only [Act.put, List.setIfInBounds_toArray, List.set_cons_zero, List.set_cons_succ]
    refine take_val (i := 1) (.pointer (some ⟨N, 1, none⟩)) rfl (by kernel_rfl) (by kernel_rfl) (by kernel_rfl) (fun _ _ _ h => h) (by rfl) (fun w hSw => by go_simp) hHeld ?_
    simp only [Act.put, List.setIfInBounds_toArray, List.set_cons_zero, List.set_cons_succ]
    refine take_val (i := 2) (.agg #[.string xa, .string xb]) rfl (by kernel_rfl) (by kernel_rfl) (by kernel_rfl) (fun _ _ _ h => h) (by rfl) (fun w hSw => by go_simp) hHeld ?_
    simp only [Act.put, List.setIfInBounds_toArray, List.set_cons_zero, List.set_cons_succ]
    refine take_val (i := 4) (.pointer (some ⟨h, 0, none⟩)) rfl (by kernel_rfl) (by kernel_rfl) (by kernel_rfl) (fun _ _ _ h => h) (by rfl) (fun w hSw => by go_simp) hHeld ?_
    simp only [Act.put, List.setIfInBounds_toArray, List.set_cons_zero, List.set_cons_succ]
    refine take_val (i := 5) (.pointer (some ⟨N, 1, none⟩)) rfl (by kernel_rfl) (by kernel_rfl) (by kernel_rfl) (fun _ _ _ h => h) (by rfl) (fun w hSw => by go_simp) hHeld ?_
    simp only [Act.put, List.setIfInBounds_toArray, List.set_cons_zero, List.set_cons_succ]
    refine take_val (i := 6) (.agg #[.string xa, .string xb]) rfl (by kernel_rfl) (by kernel_rfl) (by kernel_rfl) (fun _ _ _ h => h) (by rfl) (fun w hSw => by go_simp) hHeld ?_
    simp only [Act.put, List.setIfInBounds_toArray, List.set_cons_zero, List.set_cons_succ]
    clear hHeld
    refine wpAnyH_ready (rs := [3]) (by kernel_rfl) (by simp) ?_
    refine AllReadyH.cons (at_drop0 rfl) (fun K hK => ?_) AllReadyH.nil
    rw [if_pos (by rfl)]
    go_simp
    refine H1.out.mono ?_
    rintro e w2 ⟨rfl, q2⟩
    obtain ⟨⟨_, d1, d2, _⟩, _⟩ := HCC.out _ _ _ q2
    have H3 := hid (tw_rdel q2 h20 (xa, xb) HKF.out)
    clear q2 H1
    generalize codeDW (xa, xb) = R at *
    go_wp2_with fail
    refine hK.out _ _ (⟨d1, d2⟩) (fun hHeld => ?_)
    clear hK K
    try simp only [Act.put, List.setIfInBounds_toArray, List.set_cons_zero, List.set_cons_succ]
    clear hHeld
    refine wpAnyH_ready (rs := [7]) (by kernel_rfl) (by simp) ?_
    refine AllReadyH.cons (at_drop0 rfl) (fun K hK => ?_) AllReadyH.nil
    rw [if_pos (by rfl)]
    go_simp
    refine H3.out.mono ?_
    rintro e w3 ⟨rfl, q3⟩
    obtain ⟨⟨_, d1, d2, _⟩, _⟩ := HCC.out _ _ _ q3
    have HE := hid (HEND.out _ w3 q3 (dltW_len _ _))
    clear q3 H3
    go_wp2_with fail
    refine hK.out _ _ (⟨d1, d2⟩) (fun hHeld => ?_)
    clear hK K
    try simp only [Act.put, List.setIfInBounds_toArray, List.set_cons_zero, List.set_cons_succ]
    refine take_val (i := 8) (.bool true) rfl (by kernel_rfl) (by kernel_rfl) (by kernel_rfl) (fun _ _ _ h => h) (by rfl) (fun w hSw => by go_simp) hHeld ?_
    simp only [Act.put, List.setIfInBounds_toArray, List.set_cons_zero, List.set_cons_succ]
    refine take_val (i := 9) (.bool true) rfl (by kernel_rfl) (by kernel_rfl) (by kernel_rfl) (fun _ _ _ h => h) (by rfl) (fun w hSw => by go_simp) hHeld ?_
    simp only [Act.put, List.setIfInBounds_toArray, List.set_cons_zero, List.set_cons_succ]
    refine wpAnyH_done (by kernel_rfl) ?_ _
    clear hHeld
    go_wp2_with fail
    go_ret
    exact HE.out
  by_cases e3 : xk = 3
  · subst e3
    obtain ⟨_, hop⟩ := HCC.out _ _ _ HDW.out
    have H1 := hid (tw_forget HDW.out h13' (xa, xb) hop.kfit)
    clear hop
    go_wp2_with fail
    refine wp_region_held_drew (S := fun w' => w'.cell? ⟨N, 1, none⟩ = some (.string xa) ∧ w'.cell? ⟨N, 2, none⟩ = some (.string xb)) (by kernel_rfl) ⟨c1, c2⟩ (fun hHeld => ?_)
    refine take_val (i := 0) (.pointer (some ⟨g, 0, none⟩)) rfl (by kernel_rfl) (by kernel_rfl) (by kernel_rfl) (fun _ _ _ h => h) (by rfl) (fun w hSw => by go_simp) hHeld ?_
    simp only [Act.put, List.setIfInBounds_toArray, List.set_cons_zero, List.set_cons_succ]
    refine take_val (i := 1) (.pointer (some ⟨N, 1, none⟩)) rfl (by kernel_rfl) (by kernel_rfl) (by kernel_rfl) (fun _ _ _ h => h) (by rfl) (fun w hSw => by go_simp) hHeld ?_
    simp only [Act.put, List.setIfInBounds_toArray, List.set_cons_zero, List.set_cons_succ]
    refine take_val (i := 2) (.agg #[.string xa, .string xb]) rfl (by kernel_rfl) (by kernel_rfl) (by kernel_rfl) (fun _ _ _ h => h) (by rfl) (fun w hSw => by go_simp) hHeld ?_
    simp only [Act.put, List.setIfInBounds_toArray, List.set_cons_zero, List.set_cons_succ]
    refine take_val (i := 4) (.pointer (some ⟨h, 0, none⟩)) rfl (by kernel_rfl) (by kernel_rfl) (by kernel_rfl) (fun _ _ _ h => h) (by rfl) (fun w hSw => by go_simp) hHeld ?_
    simp only [Act.put, List.setIfInBounds_toArray, List.set_cons_zero, List.set_cons_succ]
    refine take_val (i := 5) (.pointer (some ⟨N, 1, none⟩)) rfl (by kernel_rfl) (by kernel_rfl) (by kernel_rfl) (fun _ _ _ h => h) (by rfl) (fun w hSw => by go_simp) hHeld ?_
    simp only [Act.put, List.setIfInBounds_toArray, List.set_cons_zero, List.set_cons_succ]
    refine take_val (i := 6) (.agg #[.string xa, .string xb]) rfl (by kernel_rfl) (by kernel_rfl) (by kernel_rfl) (fun _ _ _ h => h) (by rfl) (fun w hSw => by go_simp) hHeld ?_
    simp only [Act.put, List.setIfInBounds_toArray, List.set_cons_zero, List.set_cons_succ]
    clear hHeld
    refine wpAnyH_ready (rs := [3]) (by kernel_rfl) (by simp) ?_
    refine AllReadyH.cons (at_drop0 rfl) (fun K hK => ?_) AllReadyH.nil
    rw [if_pos (by rfl)]
    go_simp
    refine H1.out.mono ?_
    rintro e w2 ⟨rfl, q2⟩
    obtain ⟨⟨_, d1, d2, _⟩, _⟩ := HCC.out _ _ _ q2
    have H3 := hid (tw_rforget q2 h20' (xa, xb))
    clear q2 H1
    generalize (getW L (xa, xb)).isSome = R at *
    go_wp2_with fail
    refine hK.out _ _ (⟨d1, d2⟩) (fun hHeld => ?_)
    clear hK K
    try simp only [Act.put, List.setIfInBounds_toArray, List.set_cons_zero, List.set_cons_succ]
    clear hHeld
    refine wpAnyH_ready (rs := [7]) (by kernel_rfl) (by simp) ?_
    refine AllReadyH.cons (at_drop0 rfl) (fun K hK => ?_) AllReadyH.nil
    rw [if_pos (by rfl)]
    go_simp
    refine H3.out.mono ?_
    rintro e w3 ⟨rfl, q3⟩
    obtain ⟨⟨_, d1, d2, _⟩, _⟩ := HCC.out _ _ _ q3
    have HE := hid (HEND.out _ w3 q3 (Nat.le_trans (delW_len _ _) (Nat.le_succ _)))
    clear q3 H3
    go_wp2_with fail
    refine hK.out _ _ (⟨d1, d2⟩) (fun hHeld => ?_)
    clear hK K
    try simp only [Act.put, List.setIfInBounds_toArray, List.set_cons_zero, List.set_cons_succ]
    refine take_val (i := 8) (.bool true) rfl (by kernel_rfl) (by kernel_rfl) (by kernel_rfl) (fun _ _ _ h => h) (by rfl) (fun w hSw => by go_simp) hHeld ?_
    simp only [Act.put, List.setIfInBounds_toArray, List.set_cons_zero, List.set_cons_succ]
    refine take_val (i := 9) (.bool true) rfl (by kernel_rfl) (by kernel_rfl) (by kernel_rfl) (fun _ _ _ h => h) (by rfl) (fun w hSw => by go_simp) hHeld ?_
    simp only [Act.put, List.setIfInBounds_toArray, List.set_cons_zero, List.set_cons_succ]
    refine wpAnyH_done (by kernel_rfl) ?_ _
    clear hHeld
    go_wp2_with fail
    go_ret
    exact HE.out
  by_cases e4 : xk = 4
  · subst e4
    obtain ⟨_, hop⟩ := HCC.out _ _ _ HTV.out
    have H1 := hid (tw_get HTV.out h13' (xa, xb) hop.kfit)
    clear hop
    go_wp2_with fail
    refine H1.out.mono ?_
    rintro e w1 ⟨p1, f1, o1, rfl, hJ, ho, hb1⟩
    have q1 := HTV.out.on hb1
    obtain ⟨⟨_, d1, d2, _⟩, _⟩ := HCC.out _ _ _ q1
    have H2 := hid (tw_rget q1 h20' (xa, xb))
    have HQ1 := hid q1
    have HJ := hid hJ
    have HO := hid ho
    clear q1 hb1 hJ ho H1
    go_wp2_with fail
    refine H2.out.mono ?_
    rintro e w2 ⟨⟨v2, o2, rfl, hi2, hf2, _, ho2⟩, hb2⟩
    obtain ⟨p2, f2, rfl, _⟩ := id hi2
    have q2 := HQ1.out.on hb2
    have hmay : FitX o1 := fitX_same (d := o2) (HO.out.trans ho2.symm) hf2
    have H3 := hid (sameF_any (.slice p1 o1.length f1) (.slice p2 o2.length f2) o1 o2 w2 (HJ.out.on hb2).1.is (hi2.kept hb2) hmay hf2)
    rw [decide_eq_true (HO.out.trans ho2.symm)] at H3
    have HQ2 := hid q2
    clear q2 hb2 hi2 hf2 ho2 H2 HJ HO HQ1 hmay
    generalize liveW (getW L (xa, xb)) = R1 at *
    generalize (getW L (xa, xb)).isSome = R2 at *
    go_wp2_with fail
    refine H3.out.mono ?_
    rintro e w3 ⟨rfl, n, rfl⟩
    have HE := hid (HEND.out _ _ (HQ2.out.on (bel_drewN (Below.refl _ _) n)) (Nat.le_succ _))
    clear H3 HQ2
    go_wp2_with fail
    go_ret
    exact HE.out
  by_cases e5 : xk = 5
  · subst e5
    have H1 := hid (tw_keys HTV.out h13')
    go_wp2_with fail
    refine H1.out.mono ?_
    rintro e w1 ⟨u1, rfl, hu1, hb1⟩
    have q1 := HTV.out.on hb1
    have H2 := hid (tw_rkeys q1 h20')
    have HQ1 := hid q1
    have HU1 := hid hu1
    clear q1 hb1 hu1 H1
    go_wp2_with fail
    refine H2.out.mono ?_
    rintro e w2 ⟨u2, rfl, hu2, hb2⟩
    have hkl : (keysW L).length = L.length := by unfold keysW; rw [List.length_map]
    have H3 := hid (keys_same (Kind.own_is (Kind.own_on HU1.out hb2)) (Kind.own_is hu2) (by omega) (by omega))
    rw [decide_eq_true rfl] at H3
    have HQ2 := hid (HQ1.out.on hb2)
    clear hb2 hu2 H2 HU1 HQ1 hkl
    go_wp2_with fail
    refine H3.out.mono ?_
    rintro e w3 ⟨rfl, hb3⟩
    have HE := hid (HEND.out _ _ (HQ2.out.on hb3) (Nat.le_succ _))
    clear H3 HQ2 hb3
    go_wp2_with fail
    go_ret
    exact HE.out
  by_cases e6 : xk = 6
  · subst e6
    have H1 := hid (tw_len HDW.out h13')
    obtain ⟨pl, cl, hl0⟩ := HDW.out.len
    obtain ⟨M, hM⟩ : ∃ M, L.length = M := ⟨_, rfl⟩
    rw [hM] at H1 hl0
    have HM := hid hM
    have HLN : Hid (∀ w', Below V.drew.heap.size V.drew w' → w'.cell? ⟨h, 0, none⟩ = some (.slice pl M cl)) := fun w' hb => (hb.cell (p := ⟨h, 0, none⟩) (cell_block hl0)).trans hl0
    have HEND2 := hid (fun w' q => HEND.out L w' q (Nat.le_succ _))
    clear hM HEND h13 h13' h20 h20' hL
    go_wp2_with fail
    refine wp_region_held_drew (S := fun w' => w'.cell? ⟨h, 0, none⟩ = some (.slice pl M cl)) (by kernel_rfl) hl0 (fun hHeld => ?_)
    refine take_val (i := 0) (.pointer (some ⟨g, 0, none⟩)) rfl (by kernel_rfl) (by kernel_rfl) (by kernel_rfl) (fun _ _ _ h => h) (by rfl) (fun w hSw => by go_simp) hHeld ?_
    simp only [Act.put, List.setIfInBounds_toArray, List.set_cons_zero, List.set_cons_succ]
    refine take_val (i := 2) (.pointer (some ⟨h, 0, none⟩)) rfl (by kernel_rfl) (by kernel_rfl) (by kernel_rfl) (fun _ _ _ h => h) (by rfl) (fun w hSw => by go_simp) hHeld ?_
    simp only [Act.put, List.setIfInBounds_toArray, List.set_cons_zero, List.set_cons_succ]
    refine take_val (i := 3) (.pointer (some ⟨h, 0, none⟩)) rfl (by kernel_rfl) (by kernel_rfl) (by kernel_rfl) (fun _ _ _ h => h) (by rfl) (fun w hSw => by go_simp) hHeld ?_
    simp only [Act.put, List.setIfInBounds_toArray, List.set_cons_zero, List.set_cons_succ]
    refine take_val (i := 4) (.pointer (some ⟨h, 0, none⟩)) rfl (by kernel_rfl) (by kernel_rfl) (by kernel_rfl) (fun _ _ _ h => h) (by rfl) (fun w hSw => by go_simp) hHeld ?_
    simp only [Act.put, List.setIfInBounds_toArray, List.set_cons_zero, List.set_cons_succ]
    refine take_val (i := 5) (.slice pl M cl) rfl (by kernel_rfl) (by kernel_rfl) (by kernel_rfl) (fun _ _ _ h => h) (by rfl) (fun w hSw => by go_simp) hHeld ?_
    simp only [Act.put, List.setIfInBounds_toArray, List.set_cons_zero, List.set_cons_succ]
    refine take_val (i := 6) (.int .i64 M) rfl (by kernel_rfl) (by kernel_rfl) (by kernel_rfl) (fun _ _ _ h => h) (by rfl) (fun w hSw => by go_simp) hHeld ?_
    simp only [Act.put, List.setIfInBounds_toArray, List.set_cons_zero, List.set_cons_succ]
    clear hHeld
    refine wpAnyH_ready (rs := [1]) (by kernel_rfl) (by simp) ?_
    refine AllReadyH.cons (at_drop0 rfl) (fun K hK => ?_) AllReadyH.nil
    rw [if_pos (by rfl)]
    go_simp
    refine H1.out.mono ?_
    rintro e w1 ⟨rfl, hb1⟩
    have l1 := HLN.out w1 hb1
    have HE := hid (HEND2.out _ (HDW.out.on hb1))
    clear hb1 H1
    go_wp2_with fail
    refine hK.out _ _ l1 (fun hHeld => ?_)
    clear hK K
    try simp only [Act.put, List.setIfInBounds_toArray, List.set_cons_zero, List.set_cons_succ]
    refine take_val (i := 7) (.bool true) rfl (by kernel_rfl) (by kernel_rfl) (by kernel_rfl) (fun _ _ _ h => h) (by rfl) (fun w hSw => by go_simp) hHeld ?_
    simp only [Act.put, List.setIfInBounds_toArray, List.set_cons_zero, List.set_cons_succ]
    refine take_val (i := 8) (.bool true) rfl (by kernel_rfl) (by kernel_rfl) (by kernel_rfl) (fun _ _ _ h => h) (by rfl) (fun w hSw => by go_simp) hHeld ?_
    simp only [Act.put, List.setIfInBounds_toArray, List.set_cons_zero, List.set_cons_succ]
    refine wpAnyH_done (by kernel_rfl) ?_ _
    clear hHeld
    go_wp2_with fail
    go_ret
    exact HE.out
  by_cases e7 : xk = 7
  · subst e7
    obtain ⟨_, hop⟩ := HCC.out _ _ _ HDW.out
    have H1 := hid (tw_over HDW.out _ xf hop.fis xa _ xm hop.pis hop.pfit (by omega))
    clear hop
    go_wp2_with fail
    refine wp_region_held_drew (S := fun w' => w'.cell? ⟨N, 1, none⟩ = some (.string xa) ∧ w'.cell? ⟨N, 4, none⟩ = some (.slice xq xm.length xqc) ∧ w'.cell? ⟨N, 5, none⟩ = some (.slice xr xf.length xrc)) (by kernel_rfl) ⟨c1, c4, c5⟩ (fun hHeld => ?_)
    refine take_val (i := 0) (.pointer (some ⟨g, 0, none⟩)) rfl (by kernel_rfl) (by kernel_rfl) (by kernel_rfl) (fun _ _ _ h => h) (by rfl) (fun w hSw => by go_simp) hHeld ?_
    simp only [Act.put, List.setIfInBounds_toArray, List.set_cons_zero, List.set_cons_succ]
    refine take_val (i := 1) (.pointer (some ⟨N, 5, none⟩)) rfl (by kernel_rfl) (by kernel_rfl) (by kernel_rfl) (fun _ _ _ h => h) (by rfl) (fun w hSw => by go_simp) hHeld ?_
    simp only [Act.put, List.setIfInBounds_toArray, List.set_cons_zero, List.set_cons_succ]
    refine take_val (i := 2) (.slice xr xf.length xrc) rfl (by kernel_rfl) (by kernel_rfl) (by kernel_rfl) (fun _ _ _ h => h) (by rfl) (fun w hSw => by go_simp) hHeld ?_
    simp only [Act.put, List.setIfInBounds_toArray, List.set_cons_zero, List.set_cons_succ]
    refine take_val (i := 3) (.pointer (some ⟨N, 1, none⟩)) rfl (by kernel_rfl) (by kernel_rfl) (by kernel_rfl) (fun _ _ _ h => h) (by rfl) (fun w hSw => by go_simp) hHeld ?_
    simp only [Act.put, List.setIfInBounds_toArray, List.set_cons_zero, List.set_cons_succ]
    refine take_val (i := 4) (.pointer (some ⟨N, 1, none⟩)) rfl (by kernel_rfl) (by kernel_rfl) (by kernel_rfl) (fun _ _ _ h => h) (by rfl) (fun w hSw => by go_simp) hHeld ?_
    simp only [Act.put, List.setIfInBounds_toArray, List.set_cons_zero, List.set_cons_succ]
    refine take_val (i := 5) (.string xa) rfl (by kernel_rfl) (by kernel_rfl) (by kernel_rfl) (fun _ _ _ h => h) (by rfl) (fun w hSw => by go_simp) hHeld ?_
    simp only [Act.put, List.setIfInBounds_toArray, List.set_cons_zero, List.set_cons_succ]
    refine take_val (i := 6) (.pointer (some ⟨N, 4, none⟩)) rfl (by kernel_rfl) (by kernel_rfl) (by kernel_rfl) (fun _ _ _ h => h) (by rfl) (fun w hSw => by go_simp) hHeld ?_
    simp only [Act.put, List.setIfInBounds_toArray, List.set_cons_zero, List.set_cons_succ]
    refine take_val (i := 7) (.slice xq xm.length xqc) rfl (by kernel_rfl) (by kernel_rfl) (by kernel_rfl) (fun _ _ _ h => h) (by rfl) (fun w hSw => by go_simp) hHeld ?_
    simp only [Act.put, List.setIfInBounds_toArray, List.set_cons_zero, List.set_cons_succ]
    refine take_val (i := 9) (.pointer (some ⟨h, 0, none⟩)) rfl (by kernel_rfl) (by kernel_rfl) (by kernel_rfl) (fun _ _ _ h => h) (by rfl) (fun w hSw => by go_simp) hHeld ?_
    simp only [Act.put, List.setIfInBounds_toArray, List.set_cons_zero, List.set_cons_succ]
    refine take_val (i := 10) (.pointer (some ⟨N, 5, none⟩)) rfl (by kernel_rfl) (by kernel_rfl) (by kernel_rfl) (fun _ _ _ h => h) (by rfl) (fun w hSw => by go_simp) hHeld ?_
    simp only [Act.put, List.setIfInBounds_toArray, List.set_cons_zero, List.set_cons_succ]
    refine take_val (i := 11) (.slice xr xf.length xrc) rfl (by kernel_rfl) (by kernel_rfl) (by kernel_rfl) (fun _ _ _ h => h) (by rfl) (fun w hSw => by go_simp) hHeld ?_
    simp only [Act.put, List.setIfInBounds_toArray, List.set_cons_zero, List.set_cons_succ]
    refine take_val (i := 12) (.pointer (some ⟨N, 1, none⟩)) rfl (by kernel_rfl) (by kernel_rfl) (by kernel_rfl) (fun _ _ _ h => h) (by rfl) (fun w hSw => by go_simp) hHeld ?_
    simp only [Act.put, List.setIfInBounds_toArray, List.set_cons_zero, List.set_cons_succ]
    refine take_val (i := 13) (.pointer (some ⟨N, 1, none⟩)) rfl (by kernel_rfl) (by kernel_rfl) (by kernel_rfl) (fun _ _ _ h => h) (by rfl) (fun w hSw => by go_simp) hHeld ?_
    simp only [Act.put, List.setIfInBounds_toArray, List.set_cons_zero, List.set_cons_succ]
    refine take_val (i := 14) (.string xa) rfl (by kernel_rfl) (by kernel_rfl) (by kernel_rfl) (fun _ _ _ h => h) (by rfl) (fun w hSw => by go_simp) hHeld ?_
    simp only [Act.put, List.setIfInBounds_toArray, List.set_cons_zero, List.set_cons_succ]
    refine take_val (i := 15) (.pointer (some ⟨N, 4, none⟩)) rfl (by kernel_rfl) (by kernel_rfl) (by kernel_rfl) (fun _ _ _ h => h) (by rfl) (fun w hSw => by go_simp) hHeld ?_
    simp only [Act.put, List.setIfInBounds_toArray, List.set_cons_zero, List.set_cons_succ]
    refine take_val (i := 16) (.slice xq xm.length xqc) rfl (by kernel_rfl) (by kernel_rfl) (by kernel_rfl) (fun _ _ _ h => h) (by rfl) (fun w hSw => by go_simp) hHeld ?_
    simp only [Act.put, List.setIfInBounds_toArray, List.set_cons_zero, List.set_cons_succ]
    clear hHeld
    refine wpAnyH_ready (rs := [8]) (by kernel_rfl) (by simp) ?_
    refine AllReadyH.cons (at_drop0 rfl) (fun K hK => ?_) AllReadyH.nil
    rw [if_pos (by rfl)]
    go_simp
    refine H1.out.mono ?_
    intro e w1 hpo
    obtain ⟨u1, fs1, rfl, _, _, _, _, hb1⟩ := id hpo
    have q1 := HDW.out.on hb1
    obtain ⟨⟨_, d1, _, _, d4, d5⟩, hop1⟩ := HCC.out _ _ _ q1
    have H2 := hid (tw_rover q1 _ xf hop1.fis xa _ xm hop1.pis hop1.pfit (by omega))
    have HQ1 := hid q1
    have HF1 := hid hpo.at
    clear q1 hb1 hpo H1 hop1
    go_wp2_with fail
    refine hK.out _ _ (⟨d1, d4, d5⟩) (fun hHeld => ?_)
    clear hK K
    try simp only [Act.put, List.setIfInBounds_toArray, List.set_cons_zero, List.set_cons_succ]
    clear hHeld
    refine wpAnyH_ready (rs := [17]) (by kernel_rfl) (by simp) ?_
    refine AllReadyH.cons (at_drop0 rfl) (fun K hK => ?_) AllReadyH.nil
    rw [if_pos (by rfl)]
    go_simp
    refine H2.out.mono ?_
    intro e w2 hpr
    obtain ⟨u2, fs2, rfl, _, _, _, hb2⟩ := id hpr
    have q2 := HQ1.out.on hb2
    obtain ⟨⟨_, d1, _, _, d4, d5⟩, _⟩ := HCC.out _ _ _ q2
    have hol := over_len_le L (xf.map Fd.fnd) xa (matchM xm)
    rw [List.length_map] at hol
    have H3 := hid (found_same (HF1.out.on hb2) hpr.at (by omega))
    rw [decide_eq_true rfl] at H3
    have HQ2 := hid q2
    clear q2 hb2 hpr H2 HF1 HQ1 hol
    go_wp2_with fail
    refine hK.out _ _ (⟨d1, d4, d5⟩) (fun hHeld => ?_)
    clear hK K
    try simp only [Act.put, List.setIfInBounds_toArray, List.set_cons_zero, List.set_cons_succ]
    clear hHeld
    refine wpAnyH_ready (rs := [18]) (by kernel_rfl) (by simp) ?_
    refine AllReadyH.cons (at_drop0 rfl) (fun K hK => ?_) AllReadyH.nil
    rw [if_pos (by rfl)]
    go_simp
    refine H3.out.mono ?_
    rintro e w3 ⟨rfl, hb3⟩
    have q3 := HQ2.out.on hb3
    obtain ⟨⟨_, d1, _, _, d4, d5⟩, _⟩ := HCC.out _ _ _ q3
    have HE := hid (HEND.out _ w3 q3 (Nat.le_succ _))
    clear q3 hb3 H3 HQ2
    go_wp2_with fail
    refine hK.out _ _ (⟨d1, d4, d5⟩) (fun hHeld => ?_)
    clear hK K
    try simp only [Act.put, List.setIfInBounds_toArray, List.set_cons_zero, List.set_cons_succ]
    refine take_val (i := 19) (.bool true) rfl (by kernel_rfl) (by kernel_rfl) (by kernel_rfl) (fun _ _ _ h => h) (by rfl) (fun w hSw => by go_simp) hHeld ?_
    simp only [Act.put, List.setIfInBounds_toArray, List.set_cons_zero, List.set_cons_succ]
    refine wpAnyH_done (by kernel_rfl) ?_ _
    clear hHeld
    go_wp2_with fail
    go_ret
    exact HE.out
  have b1 : (xk == 1) = false := by simpa using e1
  have b2 : (xk == 2) = false := by simpa using e2
  have b3 : (xk == 3) = false := by simpa using e3
  have b4 : (xk == 4) = false := by simpa using e4
  have b5 : (xk == 5) = false := by simpa using e5
  have b6 : (xk == 6) = false := by simpa using e6
  have b7 : (xk == 7) = false := by simpa using e7
  have HE := hid (HEND.out _ V HTV.out (Nat.le_succ _))
  clear HEND HCC HDW
  go_wp2_with fail
  go_ret
  exact HE.out

end Go.Proofs.YtjehjjpdicimhaaGreat

/-
  WritesPlays (stage 11): every answer of every script.
-/
namespace Go.Proofs.YtjehjjpdicimhaaGreat
open Go.RowKit

theorem two_start11 {S : SetApi} {n0 g : Nat} {W w2 : World} (hn : n0 = W.heap.size) (h : OneW S n0 W (fun _ => False) g [] w2) :
    TwoS11 S n0 g w2.heap.size [] (w2.alloc (.cells #[.slice none 0 0] 29)) ∧ Below n0 W (w2.alloc (.cells #[.slice none 0 0] 29)) := by
  have hb := h.below (N := n0) (by omega) fun k hk => hk.elim
  have hs := hb.size
  obtain ⟨B, h1, h2, h3⟩ := h
  have hba : Below w2.heap.size w2 (w2.alloc (.cells #[.slice none 0 0] 29)) := (Below.refl _ _).alloc (Nat.le_refl _) _
  have hbl : ∀ k, BlkW w2.heap.size [] (.slice none 0 0) k → k = w2.heap.size := fun k hk => by
    rcases hk with rfl | hk | ⟨x, hx, _⟩
    · rfl
    · cases hk
    · simp at hx
  refine ⟨⟨fun k => B k ∨ k = w2.heap.size, ⟨B, [], .slice none 0 0, S.on h1 hba, ⟨heap_alloc_new w2 _, by omega, Kind.own_nil _ _ _, fun x hx => by simp at hx, okW_nil, fun x hx => by simp at hx⟩, rfl, fun k hk hk' => ?_, Fr.refl _ _, fun k hk => ?_⟩, fun k hk => ?_⟩, hb.alloc (by omega) _⟩
  · have := (S.blk h1 k hk).2
    have := hbl k hk'
    omega
  · rcases hk with hk | hk
    · exact Or.inl (Or.inl hk)
    · exact Or.inl (Or.inr (hbl k hk))
  · rw [World.size_alloc]
    rcases hk with hk | hk
    · have := S.blk h1 k hk
      omega
    · omega

set_option maxHeartbeats 8000000 in
set_option maxRecDepth 100000 in
theorem plays11_any (S : SetApi) (v : Value) (ops : List Ow) (w : World) (hv : KOw.Is w v ops) (hx : ∀ x ∈ ops, OpW w x ∧ x.fd.length ≤ 50000000) (hl : ops.length < 50000000) :
    Calls Tryz.prog 3 #[v] w fun e w' => e = .returned (.bool true) ∧ Below w.heap.size w w' := by
  have HF := hid (fixed11_any S w)
  obtain ⟨p, cap, rfl, hd⟩ := hv
  have HD := hid hd
  have HX := hid hx
  clear hx hd
  go_enter Tryz.func3, Tryz.ntmps3
  go_wp2_with fail
  refine HF.out.mono ?_
  rintro e w1 ⟨rfl, hb1⟩
  have HN := hid (onew_new S w1)
  have HB1 := hid hb1
  clear hb1 HF
  go_wp2_with fail
  refine HN.out.mono ?_
  rintro e w2 ⟨g, rfl, hp2⟩
  obtain ⟨ht2, hb2⟩ := two_start11 rfl hp2
  have HTW := hid ht2
  have HB2 := hid (bel_then HB1.out HB1.out.size hb2)
  have hws := HB1.out.size
  obtain ⟨n0, hn0⟩ : ∃ n0, w1.heap.size = n0 := ⟨_, rfl⟩
  obtain ⟨gr, hgr⟩ : ∃ gr, w2.heap.size = gr := ⟨_, rfl⟩
  obtain ⟨W2, hW2⟩ : ∃ W2, w2.alloc (.cells #[.slice none 0 0] 29) = W2 := ⟨_, rfl⟩
  rw [hn0, hgr, hW2] at HTW
  rw [hW2] at HB2
  rw [hn0] at hws
  clear hp2 hb2 ht2 HN HB1
  try rw [hn0]
  go_wp2_with fail
  try rw [hW2]
  try rw [hgr]
  try rw [hn0]
  clear hn0 hgr hW2
  go_loopg [14] ops.length (fun gg vi wr => ∃ (i : Nat) (L : List RowW), vi = .int .i64 i ∧ i ≤ ops.length ∧ ops.length - i ≤ gg ∧ Hid (TwoS11 S n0 g gr L wr ∧ L.length ≤ i ∧ Below n0 W2 wr))
  case atStart => exact ⟨0, [], rfl, by omega, by omega, HTW.out, Nat.le_refl _, Below.refl _ _⟩
  case round =>
    clear HTW
    obtain ⟨i, L, rfl, hi, hgk, HI⟩ := hrel
    have hbw : Below w.heap.size w wr := HB2.out.trans (HI.out.2.2.mono hws)
    by_cases hlt : i < ops.length
    · have hltz : (i : Int) < (ops.length : Int) := by omega
      have hiz : (0 : Int) ≤ i := by omega
      obtain ⟨b1, o1, rfl, k1⟩ : ∃ b off, p = some ⟨b, off, none⟩ ∧ KOw.At w b off ops := by
        rcases HD.out with h | h
        · rw [h] at hlt; simp at hlt
        · exact h
      obtain ⟨y0, y1, y2, y3, y4, y5⟩ := kow_at (Kind.at_kept k1 hbw) i hlt
      have hxi := HX.out _ (List.getElem_mem hlt)
      generalize ops[i] = x at *
      obtain ⟨C, tw, hC⟩ := HI.out.1
      have hnw := tw.base
      have hBA : Below wr.heap.size wr (wr.alloc (.cells (encOw x).toArray 36)) := (Below.refl _ _).alloc (Nat.le_refl _) _
      have htA : TwoS11 S n0 g gr L (wr.alloc (.cells (encOw x).toArray 36)) := ⟨C, tw.rebase hBA, fun k hk => by rw [World.size_alloc]; have := hC k hk; omega⟩
      have HST := hid (step11_any S n0 g gr L w _ htA x hxi.1 hws (hbw.trans (hBA.mono (by omega))) (by have := HI.out.2.1; omega) hxi.2)
      have HBN : Hid (Below n0 W2 (wr.alloc (.cells (encOw x).toArray 36))) := HI.out.2.2.trans (hBA.mono hnw)
      have HRL := hid HI.out.2.1
      obtain ⟨xk, xa, xb, xp, xc, xo, xq, xqc, xm, xr, xrc, xf⟩ := x
      simp only [encOw] at *
      clear HI hxi hBA htA tw hC hbw k1 hnw
      go_wp2_with fail
      refine HST.out.mono ?_
      rintro e w3 ⟨rfl, L3, q3, b3, l3⟩
      have HQ3 := hid q3
      have HB3 := hid (HBN.out.trans b3)
      have HL3 := hid l3
      clear q3 b3 l3 HST HBN
      go_wp2_with fail
      go_roundg (ops.length - (i + 1))
      case measure => omega
      exact ⟨i + 1, L3, by go_num, by omega, by omega, HQ3.out, by have h1 := HL3.out; have h2 := HRL.out; omega, HB3.out⟩
    · have hltz : ¬ (i : Int) < (ops.length : Int) := by omega
      obtain ⟨C, tw, hC⟩ := HI.out.1
      have hlo : L.length ≤ 1300000000000 := by have := HI.out.2.1; omega
      have H1 := hid (tw_keys tw hlo)
      have HTW := hid tw
      have HBW := hid hbw
      clear HI tw hC hbw
      go_wp2_with fail
      refine H1.out.mono ?_
      rintro e w3 ⟨u1, rfl, hu1, hb3⟩
      have q3 := HTW.out.on hb3
      have H2 := hid (tw_rkeys q3 (by omega))
      have HU1 := hid hu1
      have HB3 := hid (hb3)
      clear q3 hu1 hb3 H1 HTW
      go_wp2_with fail
      refine H2.out.mono ?_
      rintro e w4 ⟨u2, rfl, hu2, hb4⟩
      have hkl : (keysW L).length = L.length := by unfold keysW; rw [List.length_map]
      have H3 := hid (keys_same (Kind.own_is (Kind.own_on HU1.out hb4)) (Kind.own_is hu2) (by omega) (by omega))
      rw [decide_eq_true rfl] at H3
      have HB4 := hid (bel_then HB3.out HB3.out.size hb4)
      clear hu2 hb4 H2 HU1 HB3 hkl
      go_wp2_with fail
      refine H3.out.mono ?_
      rintro e w5 ⟨rfl, hb5⟩
      have HB5 := hid (bel_then HBW.out HBW.out.size (bel_then HB4.out HB4.out.size hb5))
      clear hb5 H3 HB4
      go_wp2_with fail
      go_ret
      exact ⟨rfl, HB5.out⟩

end Go.Proofs.YtjehjjpdicimhaaGreat

/-
  WritesLast (stage 11), what its walk leans on.
-/
namespace Go.Proofs.YtjehjjpdicimhaaGreat
open Go.RowKit

/-- A set of the program; ahead of n0 all is as in w1. -/
def PrgS (S : SetApi) (n0 : Nat) (w1 : World) (g : Nat) (L : List RowW) (W : World) : Prop := (∃ B, S.Prg n0 W B g L) ∧ Below n0 w1 W ∧ n0 ≤ W.heap.size

section
variable {S : SetApi} {n0 : Nat} {w1 : World} {g : Nat} {L : List RowW} {W : World}
theorem PrgS.new {g : Nat} (hn : n0 = w1.heap.size) (h : OneW S n0 w1 (fun _ => False) g L W) : PrgS S n0 w1 g L W := by
  have hb := h.below (N := n0) (by omega) fun k hk => hk.elim
  have hs := hb.size
  obtain ⟨B, h1, _⟩ := h
  exact ⟨⟨B, h1⟩, hb, by omega⟩
theorem PrgS.on {W' : World} (h : PrgS S n0 w1 g L W) (hb : Below W.heap.size W W') : PrgS S n0 w1 g L W' := by
  obtain ⟨⟨B, h1⟩, h2, h3⟩ := h
  exact ⟨⟨B, S.on h1 hb⟩, h2.trans (hb.mono h3), Nat.le_trans h3 hb.size⟩
theorem PrgS.one (h : PrgS S n0 w1 g L W) : ∃ B, OneW S n0 W B g L W ∧ (∀ k, B k → n0 ≤ k ∧ k < W.heap.size) := by
  obtain ⟨⟨B, h1⟩, _⟩ := h
  exact ⟨B, OneW.start h1, fun k hk => S.blk h1 k hk⟩
theorem PrgS.then {B : Nat → Prop} {L' : List RowW} {W' : World} (h : PrgS S n0 w1 g L W) (hB : ∀ k, B k → n0 ≤ k) (h' : OneW S n0 W B g L' W') : PrgS S n0 w1 g L' W' := by
  have hb := h'.below (N := n0) h.2.2 hB
  have hs := h'.size
  obtain ⟨B', h1, _⟩ := h'
  exact ⟨⟨B', h1⟩, h.2.1.trans hb, Nat.le_trans h.2.2 hs⟩
theorem PrgS.ok (h : PrgS S n0 w1 g L W) : OkW L := by
  obtain ⟨⟨B, h1⟩, _⟩ := h
  exact S.ok h1
end

theorem codePW_cases (k : Ky) (v : List Fld) : codePW k v = 0 ∨ codePW k v = 2 ∨ codePW k v = 3 := by
  unfold codePW
  split
  · exact Or.inr (Or.inl rfl)
  · split
    · exact Or.inr (Or.inr rfl)
    · exact Or.inl rfl
theorem codeDW_cases (k : Ky) : codeDW k = 0 ∨ codeDW k = 2 := by
  unfold codeDW
  split
  · exact Or.inr rfl
  · exact Or.inl rfl

theorem fitKy_key {k : Ky} (h : keyB k.1 k.2 = true) : FitKy k := by
  unfold keyB at h
  rw [Bool.and_eq_true] at h
  have h1 := typeB_len h.1
  have h2 := idenB_len h.2
  simp at h1 h2
  unfold FitKy maxLen
  constructor <;> omega

theorem keysW_get {L : List RowW} (h : OkW L) {i : Nat} (hi : i < (keysW L).length) : FitKy (keysW L)[i] ∧ (getW L (keysW L)[i]).isSome = true := by
  have hm : (keysW L)[i] ∈ keysW L := List.getElem_mem hi
  obtain ⟨y, hy, he⟩ := List.mem_map.1 hm
  rw [← he]
  refine ⟨fitKy_key (h.key y hy), ?_⟩
  rw [getW_of h.rise hy]
  rfl
theorem keysW_ne {L : List RowW} (h : OkW L) {i j : Nat} (hij : i < j) (hj : j < (keysW L).length) : (keysW L)[i]'(by omega) ≠ (keysW L)[j] := fun e => by
  have hp := List.pairwise_iff_getElem.1 h.rise i j (by rw [keysW, List.length_map] at hj; omega) (by rw [keysW, List.length_map] at hj; exact hj) hij
  simp only [keysW, List.getElem_map] at e
  rw [e, totK.irr] at hp
  cases hp

end Go.Proofs.YtjehjjpdicimhaaGreat

/-
  A value that is being written over (no program).
-/
namespace Go.Proofs.YtjehjjpdicimhaaGreat
open Go.RowKit

def wipedA : ByteArray := ⟨#[119, 105, 112, 101, 100]⟩

/-- A value that is being written over: its blocks are those that it had. -/
structure WpIn (N : Nat) (w : World) (u : Value) (o0 o : List Fx) (W : World) : Prop where
  own : OwnJ N W u o
  len : o.length = o0.length
  blk : ∀ k, BlkX u o k → BlkX u o0 k
  fr : Fr (fun k => BlkX u o0 k) w W
  big : N ≤ W.heap.size

theorem WpIn.xst {N : Nat} {w W : World} {u : Value} {o0 o : List Fx} (h : WpIn N w u o0 o W) : XSt N N N W u o W :=
  ⟨h.own, fun k hk => Or.inr (World.ownsRow.lt h.own.1.1 k hk).1, fun x hx k hk => Or.inr (World.ownsRow.lt (h.own.1.2 x hx) k hk).1, ⟨rfl, rfl, rfl, h.big, fun _ _ _ => rfl⟩⟩

theorem WpIn.text {N : Nat} {w W : World} {u : Value} {o0 o : List Fx} (h : WpIn N w u o0 o W) {i : Nat} (hi : i < o.length) {j gt : Nat} (hp : (o[i]).p = some ⟨gt, 0, none⟩) (t : ByteArray) :
    WpIn N w u o0 (o.set i ⟨(o[i]).name, (o[i]).p, (o[i]).cap, (o[i]).txt.set j t⟩) (W.setCell ⟨gt, j, none⟩ (.string t)) := by
  have hx := h.xst.wipe hi (j := j) hp t
  have hbk : BlkX u o0 gt := h.blk gt (Or.inr ⟨o[i], List.getElem_mem hi, by unfold Fx.sl; rw [hp]; rfl⟩)
  have f : Fr (fun k => BlkX u o0 k) W (W.setCell ⟨gt, j, none⟩ (.string t)) := Fr.of_grown (grown_set W gt j _) fun k hk => by
    have : gt = k := by simpa using hk
    rw [← this]; exact hbk
  refine ⟨hx.own, by rw [List.length_set]; exact h.len, fun k hk => h.blk k ?_, h.fr.then f fun k hk => Or.inl hk, Nat.le_trans h.big f.size⟩
  rcases hk with hk | ⟨y, hy, hk⟩
  · exact Or.inl hk
  · obtain ⟨q, hq, rfl⟩ := List.mem_iff_getElem.1 hy
    rw [List.length_set] at hq
    rw [List.getElem_set] at hk
    by_cases e : i = q
    · rw [if_pos e] at hk
      refine Or.inr ⟨o[i], List.getElem_mem hi, ?_⟩
      rw [← hk]
      unfold Fx.sl
      simp [Value.ownBlock, hp]
    · rw [if_neg e] at hk
      exact Or.inr ⟨o[q], List.getElem_mem hq, hk⟩

theorem WpIn.field {N : Nat} {w W : World} {g c n : Nat} {o0 o : List Fx} (h : WpIn N w (.slice (some ⟨g, 0, none⟩) n c) o0 o W) (hn : o.length = n) {i : Nat} (hi : i < o.length) (nm : ByteArray) :
    WpIn N w (.slice (some ⟨g, 0, none⟩) n c) o0 (o.set i ⟨nm, none, 0, []⟩) ((W.setCell ⟨g, i * 2, none⟩ (.string nm)).setCell ⟨g, i * 2 + 1, none⟩ (.slice none 0 0)) := by
  have hx := h.xst.put hn hi ⟨nm, none, 0, []⟩ (World.ownsRow_nil _ _ _ _) (fun k hk => by cases hk) fun j hj hne => by
    rcases hb : (o[j]).sl.ownBlock with _ | k
    · exact Or.inl rfl
    · exact Or.inr (by simp [Fx.sl, Value.ownBlock])
  have hbk : BlkX (.slice (some ⟨g, 0, none⟩) n c) o0 g := h.blk g (Or.inl rfl)
  have f1 : ∀ (V : World) (j : Nat) (v : Value), Fr (fun k => BlkX (.slice (some ⟨g, 0, none⟩) n c) o0 k) V (V.setCell ⟨g, j, none⟩ v) := fun V j v => Fr.of_grown (grown_set V g j v) fun k hk => by
    have : g = k := by simpa using hk
    rw [← this]; exact hbk
  have f := (f1 W (i * 2) (.string nm)).then (f1 _ (i * 2 + 1) (.slice none 0 0)) fun k hk => Or.inl hk
  refine ⟨hx.own, by rw [List.length_set]; exact h.len, fun k hk => h.blk k ?_, h.fr.then f fun k hk => Or.inl hk, Nat.le_trans h.big f.size⟩
  rcases hk with hk | ⟨y, hy, hk⟩
  · exact Or.inl hk
  · obtain ⟨q, hq, rfl⟩ := List.mem_iff_getElem.1 hy
    rw [List.length_set] at hq
    rw [List.getElem_set] at hk
    by_cases e : i = q
    · rw [if_pos e] at hk
      cases hk
    · rw [if_neg e] at hk
      exact Or.inr ⟨o[q], List.getElem_mem hq, hk⟩

end Go.Proofs.YtjehjjpdicimhaaGreat

/-
  The laws of stage 11: wipe.
-/
namespace Go.Proofs.YtjehjjpdicimhaaGreat
open Go.RowKit

set_option maxHeartbeats 1000000 in
set_option maxRecDepth 100000 in
theorem wipe11_any (u : Value) (o0 : List Fx) (N : Nat) (w : World) (h : OwnJ N w u o0) (hfit : FitX o0) (hN : N ≤ w.heap.size) :
    Calls Tryz.prog 15 #[u] w fun e w' => e = .returned (.tuple #[]) ∧ Fr (fun k => BlkX u o0 k) w w' := by
  have hf : ∀ x ∈ o0, x.txt.length ≤ 9223372036854775807 := fun x hx => by have := (hfit.2 x hx).2.1; unfold maxLen at this; exact this
  have hl : o0.length ≤ 9223372036854775807 := by have := hfit.1; unfold maxLen at this; exact this
  clear hfit
  have H0 : Hid (WpIn N w u o0 o0 w) := ⟨h, rfl, fun k hk => hk, Fr.refl _ _, hN⟩
  obtain ⟨p, cap, rfl, hp⟩ : ∃ p cap, u = .slice p o0.length cap ∧ (0 < o0.length → ∃ g, p = some ⟨g, 0, none⟩) := by
    rcases h.1.1.2 with ⟨h1, h2⟩ | ⟨g, cap, _, h1, _⟩
    · exact ⟨none, 0, by rw [h2]; exact h1, fun h => by omega⟩
    · exact ⟨_, _, h1, fun _ => ⟨g, rfl⟩⟩
  have HP := hid hp
  have HF := hid hf
  clear h hf hp hN
  go_enter Tryz.func15, Tryz.ntmps15
  go_wp2_with fail
  go_loopg [6] o0.length (fun gg vi wr => ∃ (i : Nat) (o : List Fx), vi = .int .i64 i ∧ i ≤ o0.length ∧ o0.length - i ≤ gg ∧ Hid (WpIn N w (.slice p o0.length cap) o0 o wr) ∧ Hid (∀ q, i ≤ q → o[q]? = o0[q]?))
  case atStart => exact ⟨0, o0, rfl, by omega, by omega, H0.out, fun q _ => rfl⟩
  case round =>
    clear H0
    obtain ⟨i, o, rfl, hi, hgk, HI, HQ⟩ := hrel
    have hol := HI.out.len
    by_cases hlt : i < o0.length
    · have hltz : (i : Int) < (o0.length : Int) := by omega
      have hiz : (0 : Int) ≤ i := by omega
      obtain ⟨g, rfl⟩ := HP.out (by omega)
      have hio : i < o.length := by omega
      have hoi : o[i] = o0[i] := by
        have := HQ.out i (Nat.le_refl _)
        rw [List.getElem?_eq_getElem hio, List.getElem?_eq_getElem hlt] at this
        exact Option.some.inj this
      have hc := HI.out.xst.cells hol hio
      have hfi := HF.out _ (List.getElem_mem hlt)
      rw [hoi] at hc
      obtain ⟨x, hx⟩ : ∃ x, o0[i] = x := ⟨_, rfl⟩
      rw [hx] at hc hfi hoi
      have HX0 : Hid (o[i]? = some x) := by show _ = _; rw [List.getElem?_eq_getElem hio, hoi]
      obtain ⟨nm, p5, c5, ts⟩ := x
      simp only [Fx.sl] at hc hfi
      obtain ⟨y0, y1, y2, y3⟩ := hc
      have HQ1 : Hid (∀ q, i < q → o[q]? = o0[q]?) := fun q hq => HQ.out q (by omega)
      clear hx hoi hol HQ
      have HII := hid HI.out
      clear HI
      go_wp2_with fail
      clear y0 y1 y2 y3
      go_loopg [15] ts.length (fun gg vj wr2 => ∃ (j : Nat) (o2 : List Fx) (ts2 : List ByteArray), vj = .int .i64 j ∧ j ≤ ts.length ∧ ts.length - j ≤ gg ∧ Hid (WpIn N w (.slice (some ⟨g, 0, none⟩) o0.length cap) o0 o2 wr2) ∧ Hid (o2[i]? = some ⟨nm, p5, c5, ts2⟩ ∧ ts2.length = ts.length) ∧ Hid (∀ q, i < q → o2[q]? = o0[q]?))
      case atStart => exact ⟨0, o, ts, rfl, by omega, by omega, HII.out, ⟨HX0.out, rfl⟩, HQ1.out⟩
      case round =>
        clear HII HX0 HQ1
        obtain ⟨j, o2, ts2, rfl, hj, hgj, HJ, HE, HQ2⟩ := hrel
        have hol2 := HJ.out.len
        obtain ⟨hio2, hoe⟩ := List.getElem?_eq_some_iff.1 HE.out.1
        obtain ⟨y0, y1, y2, y3⟩ := HJ.out.xst.cells hol2 hio2
        have hte := HE.out.2
        have hown := HJ.out.own.1.2 _ (List.getElem_mem hio2)
        rw [hoe] at y0 y1 hown
        simp only [Fx.sl] at y0 y1 hown
        rw [hte] at y1
        by_cases hlj : j < ts.length
        · have hljz : (j : Int) < (ts.length : Int) := by omega
          have hjz : (0 : Int) ≤ j := by omega
          obtain ⟨gt, rfl⟩ : ∃ gt, p5 = some ⟨gt, 0, none⟩ := by
            rcases hown.2 with ⟨_, h2⟩ | ⟨gt, _, _, h2, _⟩
            · omega
            · injection h2 with h3 _ _; exact ⟨gt, h3⟩
          have t0 : wr.cell? ⟨gt, j, none⟩ = some (.string (ts2[j]'(by omega))) := by
            rw [World.ownsRow.cellAt hown j (by omega), List.getElem?_map, List.getElem?_eq_getElem (by omega)]; rfl
          have t1 : wr.frozen? ⟨gt, j, none⟩ = false := World.ownsRow.frozenAt hown j
          have HNX := hid (HJ.out.text hio2 (j := j) (gt := gt) (by rw [hoe]) wipedA)
          rw [hoe] at HNX
          have HNE : Hid ((o2.set i ⟨nm, some ⟨gt, 0, none⟩, c5, ts2.set j wipedA⟩)[i]? = some ⟨nm, some ⟨gt, 0, none⟩, c5, ts2.set j wipedA⟩ ∧ (ts2.set j wipedA).length = ts.length) := ⟨by rw [List.getElem?_set_self hio2], by rw [List.length_set]; exact hte⟩
          have HNQ : Hid (∀ q, i < q → (o2.set i ⟨nm, some ⟨gt, 0, none⟩, c5, ts2.set j wipedA⟩)[q]? = o0[q]?) := fun q hq => by
            rw [List.getElem?_set_ne (by omega)]; exact HQ2.out q hq
          generalize ts2[j]'(by omega) = told at t0
          clear hoe hown hte hol2 HJ HE HQ2
          unfold wipedA at HNX HNE HNQ
          go_wp2_with fail
          go_roundg (ts.length - (j + 1))
          case measure => omega
          exact ⟨j + 1, _, _, by go_num, by omega, by omega, HNX.out, HNE.out, HNQ.out⟩
        · have hljz : ¬ (j : Int) < (ts.length : Int) := by omega
          have HNX := hid (HJ.out.field hol2 hio2 wipedA)
          have HNQ : Hid (∀ q, i + 1 ≤ q → (o2.set i ⟨wipedA, none, 0, []⟩)[q]? = o0[q]?) := fun q hq => by
            rw [List.getElem?_set_ne (by omega)]; exact HQ2.out q (by omega)
          clear hoe hown hte hol2 HJ HE HQ2
          unfold wipedA at HNX HNQ
          go_wp2_with fail
          go_roundg (o0.length - (i + 1))
          case measure => omega
          exact ⟨i + 1, _, by go_num, by omega, by omega, HNX.out, HNQ.out⟩
    · have hltz : ¬ (i : Int) < (o0.length : Int) := by omega
      have HFR := hid HI.out.fr
      clear hol
      go_wp2_with fail
      go_end0
      exact ⟨rfl, HFR.out⟩

end Go.Proofs.YtjehjjpdicimhaaGreat

/-
  WritesKeeps (stage 11), what its walk leans on: what was told is written over, and nothing else turns.
-/
namespace Go.Proofs.YtjehjjpdicimhaaGreat
open Go.RowKit

section
variable {S : SetApi} {n0 : Nat} {V : World} {C : Nat → Prop} {g h : Nat} {L L' : List RowW} {W : World}

theorem TwoS11.on {W' : World} (t : TwoS11 S n0 g h L W) (hb : Below W.heap.size W W') : TwoS11 S n0 g h L W' := by
  obtain ⟨C, t1, hC⟩ := t
  exact ⟨C, t1.rebase hb, fun k hk => ⟨(hC k hk).1, Nat.lt_of_lt_of_le (hC k hk).2 hb.size⟩⟩

/-- What lies between the blocks of the sets is written over: the sets stay. -/
theorem TwoW.shut {P : Nat → Prop} {lo : Nat} {W' : World} (t : TwoW S n0 V C g h L L W) (f : Fr P W W') (hC : ∀ k, C k → n0 ≤ k ∧ k < lo) (hP : ∀ k, P k → lo ≤ k ∧ k < V.heap.size) (hn : n0 ≤ lo) (hlo : lo ≤ V.heap.size) :
    TwoS11 S n0 g h L W' ∧ Below n0 V W' ∧ ∀ b, b < lo → ¬ C b → W'.heap[b]? = V.heap[b]? := by
  obtain ⟨B, d, vs, h1, h2, h3, h4, h5, h6⟩ := t
  have hd : ∀ k, (B k ∨ BlkW h d vs k) → ¬ P k := fun k hk hp => by
    have h7 := hP k hp
    rcases h6 k hk with h8 | h8
    · have := (hC k h8).2; omega
    · omega
  have f2 : Fr (fun k => n0 ≤ k ∧ (lo ≤ k ∨ C k)) V W' := (h5.mono fun k hk => ⟨(hC k hk).1, Or.inr hk⟩).then f fun k hk => Or.inl ⟨by have := (hP k hk).1; omega, Or.inl (hP k hk).1⟩
  have t' : TwoW S n0 W' (fun k => B k ∨ BlkW h d vs k) g h L L W' := ⟨B, d, vs, S.fr h1 f fun k hk => hd k (Or.inl hk), h2.fr f fun k hk => hd k (Or.inr hk), h3, h4, Fr.refl _ _, fun k hk => Or.inl hk⟩
  refine ⟨t'.now, f2.below (by omega) fun k hk => hk.1, fun b hb hnb => f2.block b (by omega) fun hk => ?_⟩
  rcases hk.2 with h8 | h8
  · omega
  · exact hnb h8

theorem TwoW.ownJ {lo : Nat} {u : Value} {o : List Fx} (t : TwoW S n0 V C g h L L' W) (hJ : OwnJ lo V u o) (hC : ∀ k, C k → k < lo) : OwnJ lo W u o := by
  obtain ⟨B, d, vs, h1, h2, h3, h4, h5, h6⟩ := t
  exact ownJ_fr hJ h5 fun k hk hc => by
    have h7 := (ownJ_blk hJ k hk).1
    have h8 := hC k hc
    omega

/-- Over of the reference: the values lie where they lay in W. -/
theorem two_rover {W' : World} (t : TwoS11 S n0 g h L W) (hb : Below W.heap.size W W') (vf : Value) (fo : List Fd) (hfo : FoundIn W vf fo) (typ : ByteArray) (hl : fo.length + L.length ≤ 100000000) :
    Calls Tryz.prog 19 #[.pointer (some ⟨h, 0, none⟩), vf, .string typ, .slice none 0 0] W' fun e w' => OverPostT W' (fun x => x.at W ∧ FitX x.o) (overW L (fo.map Fd.fnd) typ (matchM [])) e w' := by
  obtain ⟨C, ⟨B, d, vs, h1, h2, rfl, h4, h5, h6⟩, _⟩ := t
  exact overW_T (h2.on hb) vf fo (hfo.on hb).is _ (fun f hf => ⟨(hfo.each f hf).1, (hfo.each f hf).2.1⟩) (fun x hx => ⟨(h2.at x hx).1, (h2.at x hx).2.1⟩) typ _ [] (Kind.is_nil KM W') ⟨Nat.zero_le _, fun _ h => by simp at h⟩ (by rw [List.length_map] at hl; omega)
end

theorem okW_val {L : List RowW} (h : OkW L) (k : Ky) {o : List Fx} (ho : o.map Fx.fld = valW (getW L k)) : FitX o := by
  have h0 : o.map Fx.fld = [] → FitX o := fun e => by
    rw [List.map_eq_nil_iff.1 e]
    exact ⟨Nat.zero_le _, fun x hx => by simp at hx⟩
  cases hg : getW L k with
  | none => rw [hg] at ho; exact h0 ho
  | some e =>
    cases e with
    | none => rw [hg] at ho; exact h0 ho
    | some v =>
      rw [hg] at ho
      exact (may_fit (by rw [ho]; exact h.may _ (getW_mem hg) v rfl)).1

/-- Finds that are copied one by one. -/
structure InSt (N : Nat) (W : World) (v : Value) (fs : List Fd) (pre : List Fnd) (w : World) : Prop where
  row : RowSt KFd N W v fs w
  each : ∀ f ∈ fs, OwnJ N w f.v.sl f.v.o ∧ FitX f.v.o ∧ CopyX f.v.o
  eq : fs.map Fd.fnd = pre

section
variable {N : Nat} {W : World} {v : Value} {fs : List Fd} {pre : List Fnd} {w : World}
theorem InSt.on {w' : World} (h : InSt N W v fs pre w) (hb : Below w.heap.size w w') : InSt N W v fs pre w' := ⟨h.row.on hb, fun f hf => ⟨(h.each f hf).1.on hb, (h.each f hf).2⟩, h.eq⟩
theorem InSt.len (h : InSt N W v fs pre w) : fs.length = pre.length := by
  rw [← h.eq, List.length_map]
theorem InSt.push {w' : World} {g cap : Nat} (h : InSt N W v fs pre w) (f : Fd) (hv : OwnJ N w f.v.sl f.v.o) (hf : FitX f.v.o ∧ CopyX f.v.o) (hst : RowSt KFd N W (.slice (some ⟨g, 0, none⟩) (fs.length + 1) cap) (fs ++ [f]) w') (hg : w.grownBy w' v.ownBlock) :
    InSt N W (.slice (some ⟨g, 0, none⟩) (fs.length + 1) cap) (fs ++ [f]) (pre ++ [f.fnd]) w' := by
  have fr : Fr (fun k => v.ownBlock = some k) w w' := Fr.of_grown hg fun k hk => hk
  have hk : ∀ u o, OwnJ N w u o → OwnJ N w' u o := fun u o hJ => ownJ_fr hJ fr fun k hb hv => fd_off h.row.own hJ k hv hb
  refine ⟨hst, fun y hy => ?_, by rw [List.map_append, h.eq]; rfl⟩
  rcases List.mem_append.1 hy with hy | hy
  · exact ⟨hk _ _ (h.each y hy).1, (h.each y hy).2⟩
  · rw [List.mem_singleton.1 hy]
    exact ⟨hk _ _ hv, hf⟩
theorem InSt.found (h : InSt N W v fs pre w) (hk : ∀ x ∈ pre, FitKy x.1) : FoundIn w v fs := ⟨h.row.is, fun f hf => ⟨(h.each f hf).1.1.is, (h.each f hf).2⟩, fun f hf => hk f.fnd (by rw [← h.eq]; exact List.mem_map.2 ⟨f, hf, rfl⟩)⟩
end

/-- Finds that were told, in memory of their own. -/
structure FoOwn (N : Nat) (W : World) (u : Value) (l : List Fnd) : Prop where
  ex : ∃ fs, KFd.Own N W u fs ∧ (∀ f ∈ fs, OwnJ N W f.v.sl f.v.o ∧ FitX f.v.o) ∧ fs.map Fd.fnd = l
theorem FoOwn.fr {N : Nat} {W W' : World} {u : Value} {l : List Fnd} {P : Nat → Prop} (h : FoOwn N W u l) (f : Fr P W W') (hP : ∀ k, P k → k < N) : FoOwn N W' u l := by
  obtain ⟨fs, h1, h2, h3⟩ := h.ex
  refine ⟨fs, f.row (show W.ownsRow N 53 7 u fs.length (KFd.cells fs) from h1) fun k hk hp => ?_, fun x hx => ⟨ownJ_fr (h2 x hx).1 f fun k hk hp => ?_, (h2 x hx).2⟩, h3⟩
  · have h4 := (World.ownsRow.lt (show W.ownsRow N 53 7 u fs.length (KFd.cells fs) from h1) k hk).1
    have h5 := hP k hp
    omega
  · have h4 := (ownJ_blk (h2 x hx).1 k hk).1
    have h5 := hP k hp
    omega
theorem FoOwn.on {N : Nat} {W W' : World} {u : Value} {l : List Fnd} (h : FoOwn N W u l) (hb : Below W.heap.size W W') : FoOwn N W' u l := h.fr (P := fun _ => False) (Fr.of_below hb) fun _ h => h.elim
theorem FoOwn.at {N : Nat} {W : World} {u : Value} {l : List Fnd} (h : FoOwn N W u l) : FoundAt W u l := by
  obtain ⟨fs, h1, h2, h3⟩ := h.ex
  exact ⟨fs, Kind.own_is h1, fun f hf => ⟨(h2 f hf).1.1.is, (h2 f hf).2⟩, h3⟩

/-- What the reference told: the row is new, the values lie where they lay in W0. -/
structure WantAt (W0 : World) (N : Nat) (W : World) (u : Value) (l : List Fnd) : Prop where
  ex : ∃ fs, KFd.Own N W u fs ∧ (∀ f ∈ fs, f.v.at W0 ∧ FitX f.v.o) ∧ fs.map Fd.fnd = l
theorem WantAt.at {W0 : World} {N : Nat} {W W' : World} {u : Value} {l : List Fnd} {P : Nat → Prop} (h : WantAt W0 N W u l) (f : Fr P W W') (hP : ∀ k, P k → k < N) (hb : Below W0.heap.size W0 W') : FoundAt W' u l := by
  obtain ⟨fs, h1, h2, h3⟩ := h.ex
  have h4 : KFd.Own N W' u fs := f.row (show W.ownsRow N 53 7 u fs.length (KFd.cells fs) from h1) fun k hk hp => by
    have h4 := (World.ownsRow.lt (show W.ownsRow N 53 7 u fs.length (KFd.cells fs) from h1) k hk).1
    have h5 := hP k hp
    omega
  exact ⟨fs, Kind.own_is h4, fun x hx => ⟨IsXs.kept (h2 x hx).1 hb, (h2 x hx).2⟩, h3⟩

def zeroFd : Fd := ⟨⟨#[]⟩, ⟨#[]⟩, ⟨0, 0, 0, false, none, 0, []⟩⟩

/-- Finds that are written over one by one: from the i-th on they are as they were. -/
structure AInF (Na top : Nat) (w : World) (u : Value) (oa : List Fd) (i : Nat) (da : List Fd) (W : World) : Prop where
  row : KFd.Own Na W u da
  len : da.length = oa.length
  rest : ∀ q, i ≤ q → da[q]? = oa[q]?
  val : ∀ q, (h : q < oa.length) → i ≤ q → OwnJ Na W (oa[q]).v.sl (oa[q]).v.o
  apart : ApartF oa
  bound : ∀ x ∈ oa, ∀ k, BlkV x.v k → Na ≤ k ∧ k < top
  rowb : ∀ k, u.ownBlock = some k → Na ≤ k ∧ k < top
  fr : Fr (fun k => Na ≤ k ∧ k < top) w W

theorem AInF.start {N top : Nat} {u : Value} {fs : List Fd} {w W : World} (hO : KFd.Own N w u fs) (hv : ∀ f ∈ fs, OwnJ N w f.v.sl f.v.o ∧ FitX f.v.o) (ha : ApartF fs) (hb : Below w.heap.size w W) (ht : w.heap.size = top) : AInF N top W u fs 0 fs W := by
  subst ht
  exact ⟨Kind.own_on hO hb, rfl, fun _ _ => rfl, fun q hq _ => (hv _ (List.getElem_mem hq)).1.on hb, ha, fun x hx k hk => ownJ_blk (hv x hx).1 k hk, fun k hk => World.ownsRow.lt (show w.ownsRow N 53 7 u fs.length (KFd.cells fs) from hO) k hk, Fr.refl _ _⟩

section
variable {Na top : Nat} {w W : World} {u : Value} {oa da : List Fd} {i : Nat}
theorem AInF.wipe {W' : World} (h : AInF Na top w u oa i da W) (hi : i < oa.length) (f : Fr (fun k => BlkX (oa[i]).v.sl (oa[i]).v.o k) W W') : AInF Na top w u oa (i + 1) da W' := by
  refine ⟨f.row (show W.ownsRow Na 53 7 u da.length (KFd.cells da) from h.row) fun k hk hb => fd_off h.row (h.val i hi (Nat.le_refl _)) k hk hb, h.len, fun q hq => h.rest q (by omega), fun q hq hiq => ?_, h.apart, h.bound, h.rowb, h.fr.then f fun k hk => Or.inl (h.bound _ (List.getElem_mem hi) k hk)⟩
  exact ownJ_fr (h.val q hq (by omega)) f fun k hk hb => List.pairwise_iff_getElem.1 h.apart i q hi hq (by omega) k hb hk

theorem AInF.cells {g c n : Nat} (h : AInF Na top w (.slice (some ⟨g, 0, none⟩) n c) oa i da W) {j : Nat} (hj : j < oa.length) : (∃ z, CellsF W g (j * 7) z) ∧ (∀ q, W.frozen? ⟨g, q, none⟩ = false) ∧ (i ≤ j → W.cell? ⟨g, j * 7 + 6, none⟩ = some (oa[j]).v.sl) := by
  obtain ⟨p', c', he⟩ := Kind.own_shape h.row
  injection he with _ hn _
  subst hn
  have hjd : j < da.length := by rw [h.len]; exact hj
  have hrow : W.ownsRow Na 53 7 (.slice (some ⟨g, 0, none⟩) da.length c) da.length (KFd.cells da) := h.row
  obtain ⟨p2, c2, he2, hat⟩ := Kind.own_is h.row
  injection he2 with he2 _ _
  subst he2
  rcases hat with hat | ⟨b, off, he3, hat⟩
  · rw [hat] at hjd; simp at hjd
  · injection he3 with he3
    injection he3 with hb ho _
    subst hb ho
    have hc := kfd_at hat j hjd
    rw [Nat.zero_add] at hc
    refine ⟨⟨_, hc⟩, fun q => hrow.frozenAt q, fun hij => ?_⟩
    have e : da[j] = oa[j] := by
      have := h.rest j hij
      rw [List.getElem?_eq_getElem hjd, List.getElem?_eq_getElem hj] at this
      exact Option.some.inj this
    obtain ⟨_, _, _, _, _, _, c6⟩ := hc
    rw [e] at c6
    exact c6

theorem AInF.zero {g c n : Nat} (h : AInF Na top w (.slice (some ⟨g, 0, none⟩) n c) oa (i + 1) da W) (hi : i < oa.length) :
    ∃ da', AInF Na top w (.slice (some ⟨g, 0, none⟩) n c) oa (i + 1) da' (setFrom W g (i * 7) 0 (encFd zeroFd)) := by
  have hid' : i < da.length := by rw [h.len]; exact hi
  have hlt := World.ownsRow.lt (show W.ownsRow Na 53 7 (.slice (some ⟨g, 0, none⟩) n c) da.length (KFd.cells da) from h.row) g rfl
  have hrs : RowSt KFd Na W (.slice (some ⟨g, 0, none⟩) n c) da W := ⟨h.row, Below.refl _ _, by omega⟩
  have hp : RowSt KFd Na W (.slice (some ⟨g, 0, none⟩) n c) (da.set i zeroFd) (setFrom W g (i * 7) 0 (encFd zeroFd)) := hrs.put i hid' zeroFd
  have f : Fr (fun k => k = g) W (setFrom W g (i * 7) 0 (encFd zeroFd)) := ⟨hp.bel.os, hp.bel.tape, hp.bel.output, by rw [size_setFrom]; exact Nat.le_refl _, fun k _ hk => block_setFrom hk 0 _ W⟩
  refine ⟨da.set i zeroFd, hp.own, by rw [List.length_set]; exact h.len, fun q hq => ?_, fun q hq hiq => ?_, h.apart, h.bound, h.rowb, h.fr.then f fun k hk => Or.inl (by rw [hk]; exact h.rowb g rfl)⟩
  · rw [List.getElem?_set_ne (by omega)]
    exact h.rest q hq
  · exact ownJ_fr (h.val q hq hiq) f fun k hk e => by
      subst e
      exact fd_off h.row (h.val q hq hiq) k rfl hk
end

end Go.Proofs.YtjehjjpdicimhaaGreat

/-
  WritesKeeps (stage 11): what was given and what was told may be written over: the set stays as it was.
-/
namespace Go.Proofs.YtjehjjpdicimhaaGreat
open Go.RowKit

set_option linter.unusedSimpArgs false in
set_option maxHeartbeats 16000000 in
set_option maxRecDepth 100000 in
theorem keeps11_any (S : SetApi) (v vf : Value) (ops : List Ow) (fo : List Fd) (w : World) (hv : KOw.Is w v ops) (hx : ∀ x ∈ ops, OpW w x) (hl : ops.length < 50000000) (hfo : FoundIn w vf fo) (hfl : fo.length ≤ 50000000) :
    Calls Tryz.prog 4 #[v, vf] w fun e w' => e = .returned (.bool true) ∧ Below w.heap.size w w' := by
  have HF := hid (fixed11_any S w)
  obtain ⟨i0, hi0, hz0, hz1, hz2⟩ := info_parts Tryz.infoFdW
  have HI0 := hid hi0
  obtain ⟨p, cap, rfl, hd⟩ := hv
  obtain ⟨pf, cf, rfl, _⟩ := id hfo.is
  have HD := hid hd
  have HX := hid hx
  have HFO := hid hfo
  clear hx hd hfo hi0
  go_enter Tryz.func4, Tryz.ntmps4
  go_wp2_with fail
  refine HF.out.mono ?_
  rintro e w1 ⟨rfl, hb1⟩
  have HN := hid (onew_new S w1)
  have HB1 := hid hb1
  clear hb1 HF
  go_wp2_with fail
  refine HN.out.mono ?_
  rintro e w2 ⟨g, rfl, hp2⟩
  obtain ⟨ht2, hb2⟩ := two_start11 rfl hp2
  have HTW := hid ht2
  have HB2 := hid (bel_then HB1.out HB1.out.size hb2)
  have hws := HB1.out.size
  obtain ⟨n0, hn0⟩ : ∃ n0, w1.heap.size = n0 := ⟨_, rfl⟩
  obtain ⟨gr, hgr⟩ : ∃ gr, w2.heap.size = gr := ⟨_, rfl⟩
  obtain ⟨W2, hW2⟩ : ∃ W2, w2.alloc (.cells #[.slice none 0 0] 29) = W2 := ⟨_, rfl⟩
  rw [hn0, hgr, hW2] at HTW
  rw [hW2] at HB2
  rw [hn0] at hws
  clear hp2 hb2 ht2 HN HB1
  try rw [hn0]
  go_wp2_with fail
  try rw [hW2]
  try rw [hgr]
  try rw [hn0]
  clear hn0 hgr hW2
  go_loopg [34] ops.length (fun gg vi wr => ∃ (i : Nat) (L : List RowW), vi = .int .i64 i ∧ i ≤ ops.length ∧ ops.length - i ≤ gg ∧ Hid (TwoS11 S n0 g gr L wr ∧ L.length ≤ i ∧ Below n0 W2 wr))
  case atStart => exact ⟨0, [], rfl, by omega, by omega, HTW.out, Nat.le_refl _, Below.refl _ _⟩
  case round =>
    clear HTW
    obtain ⟨i, L, rfl, hi, hgk, HI⟩ := hrel
    have hbw : Below w.heap.size w wr := HB2.out.trans (HI.out.2.2.mono hws)
    by_cases hlt : i < ops.length
    · have hltz : (i : Int) < (ops.length : Int) := by omega
      have hiz : (0 : Int) ≤ i := by omega
      obtain ⟨b1, o1, rfl, k1⟩ : ∃ b off, p = some ⟨b, off, none⟩ ∧ KOw.At w b off ops := by
        rcases HD.out with h | h
        · rw [h] at hlt; simp at hlt
        · exact h
      obtain ⟨y0, y1, y2, y3, y4, y5⟩ := kow_at (Kind.at_kept k1 hbw) i hlt
      have hx0 := HX.out _ (List.getElem_mem hlt)
      generalize ops[i] = x at *
      obtain ⟨C, tw, hC⟩ := HI.out.1
      have hnw := tw.base
      obtain ⟨V, hV⟩ : ∃ V, wr.alloc (.cells (encOw x).toArray 36) = V := ⟨_, rfl⟩
      obtain ⟨O, hO⟩ : ∃ O, wr.heap.size = O := ⟨_, rfl⟩
      have hbV : Below wr.heap.size wr V := by rw [← hV]; exact (Below.refl _ _).alloc (Nat.le_refl _) _
      have hVo : V.heap[O]? = some (.cells (encOw x).toArray 36 (0, 0)) := by rw [← hV, ← hO]; exact heap_alloc_new wr _
      have hVs : V.heap.size = O + 1 := by rw [← hV, ← hO]; simp
      have hbwV : Below w.heap.size w V := hbw.trans (hbV.mono (by omega))
      have hopV := hx0.on hbwV
      have HFI := hid (fields_any (.slice x.p x.o.length x.cap) x.o V hopV.is hopV.fit hopV.copy)
      have HXF := hid hopV.fit
      have HXK := hid hopV.kfit
      have hL13 : L.length < 1300000000000 := by have := HI.out.2.1; omega
      have hL20 : L.length < 2000000000000 := by omega
      have HBN : Hid (Below n0 W2 V) := HI.out.2.2.trans (hbV.mono hnw)
      have hnO : n0 ≤ O := by omega
      have HTWV : Hid (∀ w3, Below V.heap.size V w3 → TwoW S n0 w3 C g gr L L w3) := fun w3 h3 => tw.rebase (bel_then hbV hbV.size h3)
      have HC : Hid (∀ k, C k → n0 ≤ k ∧ k < O) := fun k hk => by have := hC k hk; omega
      have HVO := hid hVo
      have HBX : Hid (∀ W' : World, W'.heap[O]? = V.heap[O]? → W'.cell? ⟨O, 1, none⟩ = some (.string x.a) ∧ W'.cell? ⟨O, 2, none⟩ = some (.string x.b) ∧ W'.cell? ⟨O, 3, none⟩ = some (.slice x.p x.o.length x.cap)) := fun W' h => by
        have := h.trans hVo
        exact ⟨by rw [Lib.cell_of_heap this]; rfl, by rw [Lib.cell_of_heap this]; rfl, by rw [Lib.cell_of_heap this]; rfl⟩
      have HOP : Hid (∀ W', Below n0 V W' → OpW W' x) := fun W' h => hx0.on (hbwV.trans (h.mono hws))
      have HIL := hid HI.out.2.1
      clear hbw k1 HI hbV hVo hC tw hopV hnw hbwV hx0
      obtain ⟨xk, xa, xb, xp, xc, xo, xq, xqc, xm, xr, xrc, xf⟩ := x
      simp only [encOw, Ow.key, Ow.val] at *
      obtain ⟨c1, c2, c3⟩ := HBX.out V rfl
      go_wp2_with fail
      clear c1 c2 c3
      try rw [hV]
      try rw [hO]
      refine HFI.out.mono ?_
      rintro e w3 ⟨u, o3, rfl, hJ, ho, hb3⟩
      obtain ⟨pu, cu, rfl⟩ := ownJ_slice hJ
      rw [hVs] at hJ
      have q3 := HTWV.out w3 hb3
      have hs3 := hb3.size
      have hC1 : ∀ k, C k → k < O + 1 := fun k hk => by have := (HC.out k hk).2; omega
      have HCC : Hid (∀ L1 L2 w', TwoW S n0 w3 C g gr L1 L2 w' → (w'.cell? ⟨O, 1, none⟩ = some (.string xa) ∧ w'.cell? ⟨O, 2, none⟩ = some (.string xb) ∧ w'.cell? ⟨O, 3, none⟩ = some (.slice xp xo.length xc)) ∧ OpW w' ⟨xk, xa, xb, xp, xc, xo, xq, xqc, xm, xr, xrc, xf⟩ ∧ OwnJ (O + 1) w' (.slice pu o3.length cu) o3 ∧ O + 1 ≤ w'.heap.size) := fun L1 L2 w' q => by
        have hsq := q.size
        refine ⟨HBX.out w' ((q.block (b := O) (by omega) fun hc => ?_).trans (hb3.block O (by omega))), HOP.out w' ((hb3.mono (by omega)).trans (q.below (by omega) fun k hk => (HC.out k hk).1)), q.ownJ hJ hC1, by omega⟩
        have := (HC.out O hc).2
        omega
      have HJ3 := hid hJ
      have HO3 := hid ho
      have hft3 : FitX o3 := fitX_same ho HXF.out
      have HF3 := hid hft3
      have q3d : TwoW S n0 w3 C g gr L L w3.drew := q3.on (bel_drewN (Below.refl _ _) 1)
      obtain ⟨⟨c1, c2, c3⟩, hop3, hJd, _⟩ := HCC.out _ _ _ q3d
      have H2 := hid (tw_put q3d hL13 (xa, xb) HXK.out _ o3 (xo.map Fx.fld) hJd.1.is hft3 ho)
      have HS3 : Hid (O + 1 ≤ w3.heap.size) := by show _ ≤ _; omega
      have HB3 := hid (hb3)
      clear hJ ho hb3 q3 hs3 hC1 hft3 q3d hop3 hJd HFI HTWV hV HOP
      have HBX2 : Hid (∀ W' : World, W'.heap[O]? = V.heap[O]? → W'.cell? ⟨O, 1, none⟩ = some (.string xa) ∧ W'.cell? ⟨O, 2, none⟩ = some (.string xb) ∧ W'.cell? ⟨O, 3, none⟩ = some (.slice xp xo.length xc)) := HBX.out
      have hVs1 := hVs
      clear HBX hVs
      go_wp2_with fail
      refine wp_region_held_drew (S := fun w' => w'.cell? ⟨O, 1, none⟩ = some (.string xa) ∧ w'.cell? ⟨O, 2, none⟩ = some (.string xb) ∧ w'.cell? ⟨O, 3, none⟩ = some (.slice xp xo.length xc)) (by kernel_rfl) ⟨c1, c2, c3⟩ (fun hHeld => ?_)
      refine take_val (i := 0) (.pointer (some ⟨g, 0, none⟩)) rfl (by kernel_rfl) (by kernel_rfl) (by kernel_rfl) (fun _ _ _ h => h) (by rfl) (fun w hSw => by go_simp) hHeld ?_
      simp only [Act.put, List.setIfInBounds_toArray, List.set_cons_zero, List.set_cons_succ]
      refine take_val (i := 1) (.pointer (some ⟨O, 1, none⟩)) rfl (by kernel_rfl) (by kernel_rfl) (by kernel_rfl) (fun _ _ _ h => h) (by rfl) (fun w hSw => by go_simp) hHeld ?_
      simp only [Act.put, List.setIfInBounds_toArray, List.set_cons_zero, List.set_cons_succ]
      refine take_val (i := 2) (.agg #[.string xa, .string xb]) rfl (by kernel_rfl) (by kernel_rfl) (by kernel_rfl) (fun _ _ _ h => h) (by rfl) (fun w hSw => by go_simp) hHeld ?_
      simp only [Act.put, List.setIfInBounds_toArray, List.set_cons_zero, List.set_cons_succ]
      refine take_val (i := 3) (.slice pu o3.length cu) rfl (by kernel_rfl) (by kernel_rfl) (by kernel_rfl) (fun _ _ _ h => h) (by rfl) (fun w hSw => by go_simp) hHeld ?_
      simp only [Act.put, List.setIfInBounds_toArray, List.set_cons_zero, List.set_cons_succ]
      refine take_val (i := 5) (.pointer (some ⟨gr, 0, none⟩)) rfl (by kernel_rfl) (by kernel_rfl) (by kernel_rfl) (fun _ _ _ h => h) (by rfl) (fun w hSw => by go_simp) hHeld ?_
      simp only [Act.put, List.setIfInBounds_toArray, List.set_cons_zero, List.set_cons_succ]
      refine take_val (i := 6) (.pointer (some ⟨O, 1, none⟩)) rfl (by kernel_rfl) (by kernel_rfl) (by kernel_rfl) (fun _ _ _ h => h) (by rfl) (fun w hSw => by go_simp) hHeld ?_
      simp only [Act.put, List.setIfInBounds_toArray, List.set_cons_zero, List.set_cons_succ]
      refine take_val (i := 7) (.agg #[.string xa, .string xb]) rfl (by kernel_rfl) (by kernel_rfl) (by kernel_rfl) (fun _ _ _ h => h) (by rfl) (fun w hSw => by go_simp) hHeld ?_
      simp only [Act.put, List.setIfInBounds_toArray, List.set_cons_zero, List.set_cons_succ]
      refine take_val (i := 8) (.pointer (some ⟨O, 3, none⟩)) rfl (by kernel_rfl) (by kernel_rfl) (by kernel_rfl) (fun _ _ _ h => h) (by rfl) (fun w hSw => by go_simp) hHeld ?_
      simp only [Act.put, List.setIfInBounds_toArray, List.set_cons_zero, List.set_cons_succ]
      refine take_val (i := 9) (.slice xp xo.length xc) rfl (by kernel_rfl) (by kernel_rfl) (by kernel_rfl) (fun _ _ _ h => h) (by rfl) (fun w hSw => by go_simp) hHeld ?_
      simp only [Act.put, List.setIfInBounds_toArray, List.set_cons_zero, List.set_cons_succ]
      clear hHeld
      refine wpAnyH_ready (rs := [4]) (by kernel_rfl) (by simp) ?_
      refine AllReadyH.cons (at_drop0 rfl) (fun K hK => ?_) AllReadyH.nil
      rw [if_pos (by rfl)]
      go_simp
      refine H2.out.mono ?_
      rintro e w4 ⟨rfl, q4⟩
      obtain ⟨⟨d1, d2, d3⟩, hop4, _, _⟩ := HCC.out _ _ _ q4
      have H3 := hid (tw_rput q4 hL20 (xa, xb) HXK.out (.slice xp xo.length xc) xo (xo.map Fx.fld) hop4.is hop4.fit rfl)
      have HCP := hid (codePW_cases (xa, xb) (xo.map Fx.fld))
      clear q4 H2 hop4
      generalize codePW (xa, xb) (xo.map Fx.fld) = R at *
      go_wp2_with fail
      refine hK.out _ _ (⟨d1, d2, d3⟩) (fun hHeld => ?_)
      clear hK K
      try simp only [Act.put, List.setIfInBounds_toArray, List.set_cons_zero, List.set_cons_succ]
      clear hHeld
      refine wpAnyH_ready (rs := [10]) (by kernel_rfl) (by simp) ?_
      refine AllReadyH.cons (at_drop0 rfl) (fun K hK => ?_) AllReadyH.nil
      rw [if_pos (by rfl)]
      go_simp
      refine H3.out.mono ?_
      rintro e w5 ⟨rfl, q5⟩
      obtain ⟨⟨d1, d2, d3⟩, hop5, hJ5, _⟩ := HCC.out _ _ _ q5
      have H4 := hid (sameF_any (.slice pu o3.length cu) (.slice xp xo.length xc) o3 xo w5 hJ5.1.is hop5.is HF3.out hop5.fit)
      rw [decide_eq_true HO3.out] at H4
      have HQ5 := hid q5
      clear q5 H3 hop5 hJ5
      go_wp2_with fail
      refine hK.out _ _ (⟨d1, d2, d3⟩) (fun hHeld => ?_)
      clear hK K
      try simp only [Act.put, List.setIfInBounds_toArray, List.set_cons_zero, List.set_cons_succ]
      refine take_val (i := 11) (.bool false) rfl (by kernel_rfl) (by kernel_rfl) (by kernel_rfl) (fun _ _ _ h => h) (by rfl) (fun w hSw => by go_simp) hHeld ?_
      simp only [Act.put, List.setIfInBounds_toArray, List.set_cons_zero, List.set_cons_succ]
      refine take_val (i := 12) (.bool false) rfl (by kernel_rfl) (by kernel_rfl) (by kernel_rfl) (fun _ _ _ h => h) (by rfl) (fun w hSw => by go_simp) hHeld ?_
      simp only [Act.put, List.setIfInBounds_toArray, List.set_cons_zero, List.set_cons_succ]
      refine take_val (i := 13) (.slice pu o3.length cu) rfl (by kernel_rfl) (by kernel_rfl) (by kernel_rfl) (fun _ _ _ h => h) (by rfl) (fun w hSw => by go_simp) hHeld ?_
      simp only [Act.put, List.setIfInBounds_toArray, List.set_cons_zero, List.set_cons_succ]
      refine take_val (i := 14) (.pointer (some ⟨O, 3, none⟩)) rfl (by kernel_rfl) (by kernel_rfl) (by kernel_rfl) (fun _ _ _ h => h) (by rfl) (fun w hSw => by go_simp) hHeld ?_
      simp only [Act.put, List.setIfInBounds_toArray, List.set_cons_zero, List.set_cons_succ]
      refine take_val (i := 15) (.slice xp xo.length xc) rfl (by kernel_rfl) (by kernel_rfl) (by kernel_rfl) (fun _ _ _ h => h) (by rfl) (fun w hSw => by go_simp) hHeld ?_
      simp only [Act.put, List.setIfInBounds_toArray, List.set_cons_zero, List.set_cons_succ]
      clear hHeld
      refine wpAnyH_ready (rs := [16]) (by kernel_rfl) (by simp) ?_
      refine AllReadyH.cons (at_drop0 rfl) (fun K hK => ?_) AllReadyH.nil
      rw [if_pos (by rfl)]
      go_simp
      refine H4.out.mono ?_
      rintro e w6 ⟨rfl, n6, rfl⟩
      have q6 := HQ5.out.on (bel_drewN (Below.refl _ _) n6)
      obtain ⟨w6, hw6⟩ : ∃ w6, w5.drewN n6 = w6 := ⟨_, rfl⟩
      rw [hw6] at q6 ⊢
      obtain ⟨⟨d1, d2, d3⟩, _, hJ6, hs6⟩ := HCC.out _ _ _ q6
      have H5 := hid (wipe11_any (.slice pu o3.length cu) o3 (O + 1) w6 hJ6 HF3.out hs6)
      have HQ6 := hid q6
      clear q6 H4 hJ6 hs6 HQ5 hw6
      go_wp2_with fail
      refine hK.out _ _ (⟨d1, d2, d3⟩) (fun hHeld => ?_)
      clear hK K
      try simp only [Act.put, List.setIfInBounds_toArray, List.set_cons_zero, List.set_cons_succ]
      refine take_val (i := 17) (.bool false) rfl (by kernel_rfl) (by kernel_rfl) (by kernel_rfl) (fun _ _ _ h => h) (by rfl) (fun w hSw => by go_simp) hHeld ?_
      simp only [Act.put, List.setIfInBounds_toArray, List.set_cons_zero, List.set_cons_succ]
      refine take_val (i := 18) (.bool false) rfl (by kernel_rfl) (by kernel_rfl) (by kernel_rfl) (fun _ _ _ h => h) (by rfl) (fun w hSw => by go_simp) hHeld ?_
      simp only [Act.put, List.setIfInBounds_toArray, List.set_cons_zero, List.set_cons_succ]
      refine wpAnyH_done (by kernel_rfl) ?_ _
      clear hHeld c1 c2 c3 d1 d2 d3
      go_wp2_with fail
      refine H5.out.mono ?_
      rintro e w7 ⟨rfl, f7⟩
      obtain ⟨t7, hb7, hk7⟩ := HQ6.out.shut f7 (lo := O + 1) (fun k hk => by have := HC.out k hk; omega) (fun k hk => ownJ_blk HJ3.out k hk) (by omega) HS3.out
      have hbo : w7.heap[O]? = V.heap[O]? := (hk7 O (by omega) fun hc => by have := (HC.out O hc).2; omega).trans (HB3.out.block O (by rw [hVs1]; omega))
      obtain ⟨c1, c2, c3⟩ := HBX2.out w7 hbo
      obtain ⟨C7, tw7, hC7⟩ := t7
      have hn7 := tw7.base
      have hLL := putW_len L (xa, xb) (xo.map Fx.fld)
      have H6 := hid (tw_get tw7 (by omega) (xa, xb) HXK.out)
      have HOK := hid tw7.ok.1
      have HQ7 : Hid (∀ w8 w9, ∀ u o8, Below w7.heap.size w7 w8 → OwnJ w7.heap.size w8 u o8 → Fr (fun k => BlkX u o8 k) w8 w9 → TwoS11 S n0 g gr (putW L (xa, xb) (xo.map Fx.fld)) w9 ∧ Below n0 W2 w9) := fun w8 w9 u o8 h8 hj8 f9 => by
        obtain ⟨t9, hb9, _⟩ := (tw7.rebase h8).shut f9 (lo := w7.heap.size) hC7 (fun k hk => ownJ_blk hj8 k hk) hn7 h8.size
        exact ⟨t9, (HBN.out.trans ((HB3.out.mono (by rw [hVs1]; omega)).trans (hb7.trans (h8.mono hn7)))).trans hb9⟩
      have HLL := hid hLL
      clear f7 hb7 hk7 hbo hn7 tw7 hC7 H5 HQ6 HCC HBX2 hLL
      generalize putW L (xa, xb) (xo.map Fx.fld) = L1 at *
      go_wp2_with fail
      refine H6.out.mono ?_
      rintro e w8 ⟨p8, c8, o8, rfl, hJ8, ho8, hb8⟩
      have H7 := hid (wipe11_any (.slice p8 o8.length c8) o8 w7.heap.size w8 hJ8 (okW_val HOK.out _ ho8) hb8.size)
      have HE8 : Hid (∀ w9, Fr (fun k => BlkX (.slice p8 o8.length c8) o8 k) w8 w9 → TwoS11 S n0 g gr L1 w9 ∧ Below n0 W2 w9) := fun w9 f9 => HQ7.out w8 w9 _ o8 hb8 hJ8 f9
      clear hJ8 ho8 hb8 H6 HQ7 HOK
      generalize liveW (getW L1 (xa, xb)) = R1 at *
      generalize (getW L1 (xa, xb)).isSome = R2 at *
      go_wp2_with fail
      refine H7.out.mono ?_
      rintro e w9 ⟨rfl, f9⟩
      have HE9 := hid (HE8.out w9 f9)
      clear f9 H7 HE8
      go_wp2_with fail
      go_roundg (ops.length - (i + 1))
      case measure => omega
      exact ⟨i + 1, L1, by go_num, by omega, by omega, HE9.out.1, by have h1 := HLL.out; have h2 := HIL.out; omega, HE9.out.2⟩
    · have hltz : ¬ (i : Int) < (ops.length : Int) := by omega
      obtain ⟨we, hwe⟩ : ∃ we, wr = we := ⟨_, rfl⟩
      rw [hwe] at hbw HI ⊢
      have hLo : L.length ≤ 50000000 := by have := HI.out.2.1; omega
      have HT := hid HI.out.1
      have HBE := hid hbw
      have hwn := hbw.size
      have HIN0 : Hid (InSt we.heap.size we (.slice none 0 0) [] ((fo.map Fd.fnd).take 0) we) := ⟨RowSt.nil KFd (Below.refl _ _) (Nat.le_refl _), fun f hf => by simp at hf, rfl⟩
      clear HI hbw hwe
      go_wp2_with fail
      clear hltz hi hgk hlt
      go_loopg [13, 75] fo.length (fun gg v13 vi wr => ∃ (i : Nat) (p' : Option Addr) (c' : Nat) (fs : List Fd), vi = .int .i64 i ∧ v13 = .slice p' fs.length c' ∧ i ≤ fo.length ∧ fo.length - i ≤ gg ∧ fs.length ≤ i ∧ Hid (InSt we.heap.size we (.slice p' fs.length c') fs ((fo.map Fd.fnd).take i) wr))
      case atStart => exact ⟨0, none, 0, [], rfl, rfl, by omega, by omega, Nat.le_refl _, HIN0.out⟩
      case round =>
        clear HIN0
        obtain ⟨i, p', c', fs, rfl, rfl, hi, hgk, hfi, HI⟩ := hrel
        have hbw : Below w.heap.size w wr := HBE.out.trans (HI.out.row.bel.mono hwn)
        by_cases hlt : i < fo.length
        · have hltz : (i : Int) < (fo.length : Int) := by omega
          have hiz : (0 : Int) ≤ i := by omega
          have hfis := HFO.out.on hbw
          obtain ⟨b1, o1, rfl, k1⟩ : ∃ b off, pf = some ⟨b, off, none⟩ ∧ KFd.At wr b off fo := by
            obtain ⟨p', c', he, h⟩ := hfis.is
            injection he with e1 _ _
            subst e1
            rcases h with h | h
            · rw [h] at hlt; simp at hlt
            · exact h
          obtain ⟨y0, y1, y2, y3, y4, y5, y6⟩ := kfd_at k1 i hlt
          have hef := hfis.each _ (List.getElem_mem hlt)
          have htk : (fo.map Fd.fnd).take (i + 1) = (fo.map Fd.fnd).take i ++ [(fo[i]).fnd] := by
            rw [List.take_succ_eq_append_getElem (by rw [List.length_map]; exact hlt), List.getElem_map]
          have HTK := hid htk
          clear htk k1 hfis
          generalize fo[i] = f at *
          obtain ⟨V, hV⟩ : ∃ V, wr.alloc (.cells (encFd f).toArray 53) = V := ⟨_, rfl⟩
          obtain ⟨O, hO⟩ : ∃ O, wr.heap.size = O := ⟨_, rfl⟩
          have hbV : Below wr.heap.size wr V := by rw [← hV]; exact (Below.refl _ _).alloc (Nat.le_refl _) _
          have hVo : V.heap[O]? = some (.cells (encFd f).toArray 53 (0, 0)) := by rw [← hV, ← hO]; exact heap_alloc_new wr _
          have hVs : V.heap.size = O + 1 := by rw [← hV, ← hO]; simp
          have HINV := hid (HI.out.on hbV)
          have hnO : we.heap.size ≤ O := by rw [← hO]; exact HI.out.row.base
          have HOWN : Hid (∀ k, (Value.slice p' fs.length c').ownBlock = some k → k < O) := fun k hk => by
            have := (World.ownsRow.lt HI.out.row.own k hk).2
            omega
          have HBX : Hid (∀ W' : World, W'.heap[O]? = V.heap[O]? → CellsF W' O 0 f) := fun W' h => by
            have := h.trans hVo
            obtain ⟨fa, fb, ⟨fn, fq, ft, fl, fp, fc, fx⟩⟩ := f
            exact ⟨by rw [Lib.cell_of_heap this]; rfl, by rw [Lib.cell_of_heap this]; rfl, by rw [Lib.cell_of_heap this]; rfl, by rw [Lib.cell_of_heap this]; rfl, by rw [Lib.cell_of_heap this]; rfl, by rw [Lib.cell_of_heap this]; rfl, by rw [Lib.cell_of_heap this]; rfl⟩
          have hbVd : Below wr.heap.size wr V.drew := bel_drewN hbV 1
          have HVER := hid (version_any f.v V.drew (IsXs.kept hef.1 hbVd) hef.2.1 hef.2.2)
          have HEF := hid hef.2
          clear HI hbw hbV hVo hef hbVd
          obtain ⟨fa, fb, ⟨fn, fq, ft, fl, fp, fc, fx⟩⟩ := f
          simp only [encFd, encVx, Vx.sl, CellsF, CellsV, Nat.zero_add] at *
          obtain ⟨c0, c1, c2, c3, c4, c5, c6⟩ := HBX.out V rfl
          go_wp2_with fail
          try rw [hV]
          try rw [hO]
          clear y0 y1 y2 y3 y4 y5 y6
          refine wp_region_held_drew (S := fun w' => w'.cell? ⟨O, 0, none⟩ = some (.string fa) ∧ w'.cell? ⟨O, 1, none⟩ = some (.string fb) ∧ w'.cell? ⟨O, 2, none⟩ = some (.int .i64 fn) ∧ w'.cell? ⟨O, 3, none⟩ = some (.int .u64 fq) ∧ w'.cell? ⟨O, 4, none⟩ = some (.int .i64 ft) ∧ w'.cell? ⟨O, 5, none⟩ = some (.bool fl) ∧ w'.cell? ⟨O, 6, none⟩ = some (.slice fp fx.length fc)) (by kernel_rfl) ⟨c0, c1, c2, c3, c4, c5, c6⟩ (fun hHeld => ?_)
          refine take_val (i := 0) (.slice p' fs.length c') rfl (by kernel_rfl) (by kernel_rfl) (by kernel_rfl) (fun _ _ _ h => h) (by rfl) (fun w hSw => by go_simp) hHeld ?_
          simp only [Act.put, List.setIfInBounds_toArray, List.set_cons_zero, List.set_cons_succ]
          refine take_val (i := 1) (.pointer (some ⟨O, 0, none⟩)) rfl (by kernel_rfl) (by kernel_rfl) (by kernel_rfl) (fun _ _ _ h => h) (by rfl) (fun w hSw => by go_simp) hHeld ?_
          simp only [Act.put, List.setIfInBounds_toArray, List.set_cons_zero, List.set_cons_succ]
          refine take_val (i := 2) (.agg #[.string fa, .string fb]) rfl (by kernel_rfl) (by kernel_rfl) (by kernel_rfl) (fun _ _ _ h => h) (by rfl) (fun w hSw => by go_simp) hHeld ?_
          simp only [Act.put, List.setIfInBounds_toArray, List.set_cons_zero, List.set_cons_succ]
          refine take_val (i := 3) (.pointer (some ⟨O, 2, none⟩)) rfl (by kernel_rfl) (by kernel_rfl) (by kernel_rfl) (fun _ _ _ h => h) (by rfl) (fun w hSw => by go_simp) hHeld ?_
          simp only [Act.put, List.setIfInBounds_toArray, List.set_cons_zero, List.set_cons_succ]
          refine take_val (i := 4) (.agg #[.int .i64 fn, .int .u64 fq, .int .i64 ft, .bool fl, .slice fp fx.length fc]) rfl (by kernel_rfl) (by kernel_rfl) (by kernel_rfl) (fun _ _ _ h => h) (by rfl) (fun w hSw => by go_simp) hHeld ?_
          simp only [Act.put, List.setIfInBounds_toArray, List.set_cons_zero, List.set_cons_succ]
          clear hHeld c0 c1 c2 c3 c4 c5 c6
          refine wpAnyH_ready (rs := [5]) (by kernel_rfl) (by simp) ?_
          refine AllReadyH.cons (at_drop0 rfl) (fun K hK => ?_) AllReadyH.nil
          rw [if_pos (by rfl)]
          go_simp
          refine HVER.out.mono ?_
          rintro e w5 ⟨p5, f5, o5, rfl, hJ5, ho5, hb5⟩
          obtain ⟨V5, hV5⟩ : ∃ V5, w5.alloc (.cells (encFd ⟨fa, fb, ⟨fn, fq, ft, fl, p5, f5, o5⟩⟩).toArray 53) = V5 := ⟨_, rfl⟩
          obtain ⟨O5, hO5⟩ : ∃ O5, w5.heap.size = O5 := ⟨_, rfl⟩
          have hbV5 : Below w5.heap.size w5 V5 := by rw [← hV5]; exact (Below.refl _ _).alloc (Nat.le_refl _) _
          have hVo5 : V5.heap[O5]? = some (.cells (encFd ⟨fa, fb, ⟨fn, fq, ft, fl, p5, f5, o5⟩⟩).toArray 53 (0, 0)) := by rw [← hV5, ← hO5]; exact heap_alloc_new w5 _
          have hs5 : O + 1 ≤ w5.heap.size := by have := hb5.size; rw [← hVs]; exact this
          have hk5 : w5.heap[O]? = V.heap[O]? := hb5.block O (by show O < V.heap.size; omega)
          have hk6 : V5.heap[O]? = V.heap[O]? := (hbV5.block O (by omega)).trans hk5
          have hb5V : Below V.heap.size V w5 := (bel_drewN (Below.refl _ _) 1).trans hb5
          have HIN5 := hid ((HINV.out.on hb5V).on hbV5)
          have HJ5 : Hid (OwnJ we.heap.size V5 (.slice p5 o5.length f5) o5) := (own_weakJ hJ5 (by show we.heap.size ≤ V.heap.size; omega)).on hbV5
          have HF5 : Hid (FitX o5 ∧ CopyX o5) := ⟨fitX_same ho5 HEF.out.1, copyX_same ho5 HEF.out.2⟩
          have HO5 := hid ho5
          have HN5 := hid hVo5
          obtain ⟨d0, d1, d2, d3, d4, d5, d6⟩ := HBX.out w5 hk5
          obtain ⟨e0, e1, e2, e3, e4, e5, e6⟩ := HBX.out V5 hk6
          have HK7 : Hid (∀ w7, V5.grownBy w7 (Value.slice p' fs.length c').ownBlock → w7.heap[O]? = V.heap[O]?) := fun w7 hg => by
            rw [hg.block O (by have := hbV5.size; omega) fun e => by have := HOWN.out O e.symm; omega]
            exact hk6
          simp only [encFd, encVx, Vx.sl] at *
          clear hJ5 ho5 hb5 hbV5 hVo5 hk5 hk6 hb5V HVER HINV
          go_wp2_with fail
          refine hK.out _ _ (⟨d0, d1, d2, d3, d4, d5, d6⟩) (fun hHeld => ?_)
          clear hK K
          try simp only [Act.put, List.setIfInBounds_toArray, List.set_cons_zero, List.set_cons_succ]
          refine take_val (i := 6) (.agg #[.string fa, .string fb, .int .i64 fn, .int .u64 fq, .int .i64 ft, .bool fl, .slice p5 o5.length f5]) rfl (by kernel_rfl) (by kernel_rfl) (by kernel_rfl) (fun _ _ _ h => h) (by rfl) (fun w hSw => by go_simp) hHeld ?_
          simp only [Act.put, List.setIfInBounds_toArray, List.set_cons_zero, List.set_cons_succ]
          clear hHeld
          refine wpAnyH_ready (rs := [7]) (by kernel_rfl) (by simp) ?_
          refine AllReadyH.cons (at_drop0 rfl) (fun K hK => ?_) AllReadyH.nil
          rw [if_pos (by rfl)]
          go_simp
          go_wp2_with fail
          try rw [hV5]
          try rw [hO5]
          refine hK.out _ _ (⟨e0, e1, e2, e3, e4, e5, e6⟩) (fun hHeld => ?_)
          clear hK K
          try simp only [Act.put, List.setIfInBounds_toArray, List.set_cons_zero, List.set_cons_succ]
          clear hHeld
          refine wpAnyH_ready (rs := [8]) (by kernel_rfl) (by simp) ?_
          refine AllReadyH.cons (at_drop0 rfl) (fun K hK => ?_) AllReadyH.nil
          refine step_push KFd rfl _ _ 34 rfl i0 _ 88 Tryz.underlying34 HI0.out hz0 hz1 hz2 rfl we.heap.size we _ fs rfl HIN5.out.row ⟨fa, fb, ⟨fn, fq, ft, fl, p5, f5, o5⟩⟩ O5 _ _ rfl rfl _ _ HN5.out (by unfold maxLen; omega) (by omega) ?_
          intro g7 c7 w7 hst7 hg7 _
          have HIN7 := hid (HIN5.out.push ⟨fa, fb, ⟨fn, fq, ft, fl, p5, f5, o5⟩⟩ HJ5.out HF5.out hst7 hg7)
          have hfe : (⟨fa, fb, ⟨fn, fq, ft, fl, p5, f5, o5⟩⟩ : Fd).fnd = (⟨fa, fb, ⟨fn, fq, ft, fl, fp, fc, fx⟩⟩ : Fd).fnd := by
            show ((fa, fb), (_ : Vr)) = _
            unfold Fd.fnd Vx.ver
            rw [HO5.out]
          rw [hfe, ← HTK.out] at HIN7
          obtain ⟨d0, d1, d2, d3, d4, d5, d6⟩ := HBX.out w7 (HK7.out w7 hg7)
          clear hst7 hg7 hfe HIN5 HN5 HK7 e0 e1 e2 e3 e4 e5 e6
          refine hK.out _ _ (⟨d0, d1, d2, d3, d4, d5, d6⟩) (fun hHeld => ?_)
          clear hK K
          try simp only [Act.put, List.setIfInBounds_toArray, List.set_cons_zero, List.set_cons_succ]
          refine take_val (i := 9) (.slice (some ⟨g7, 0, none⟩) (fs.length + 1) c7) rfl (by kernel_rfl) (by kernel_rfl) (by kernel_rfl) (fun _ _ _ h => h) (by rfl) (fun w hSw => by go_simp) hHeld ?_
          simp only [Act.put, List.setIfInBounds_toArray, List.set_cons_zero, List.set_cons_succ]
          refine wpAnyH_done (by kernel_rfl) ?_ _
          clear hHeld d0 d1 d2 d3 d4 d5 d6 hV hV5 HBX
          go_wp2_with fail
          go_roundg (fo.length - (i + 1))
          case measure => omega
          exact ⟨i + 1, some ⟨g7, 0, none⟩, c7, fs ++ [⟨fa, fb, ⟨fn, fq, ft, fl, p5, f5, o5⟩⟩], by go_num, by rw [List.length_append]; rfl, by omega, by omega, by rw [List.length_append]; simp; omega, by rw [List.length_append]; exact HIN7.out⟩
        · have hltz : ¬ (i : Int) < (fo.length : Int) := by omega
          obtain ⟨wa, hwa⟩ : ∃ wa, wr = wa := ⟨_, rfl⟩
          rw [hwa] at hbw HI ⊢
          have hti : (fo.map Fd.fnd).take i = fo.map Fd.fnd := List.take_of_length_le (by rw [List.length_map]; omega)
          rw [hti] at HI
          have hfsl : fs.length = fo.length := by rw [HI.out.len, List.length_map]
          have hta := HT.out.on (bel_then (Below.refl _ _) (Nat.le_refl _) HI.out.row.bel)
          have hfin := HI.out.found fun x hx => by
            obtain ⟨f, hf, rfl⟩ := List.mem_map.1 hx
            exact HFO.out.kfit f hf
          have heq := HI.out.eq
          obtain ⟨l, hl⟩ : ∃ l, overW L (fo.map Fd.fnd) ⟨#[65]⟩ (matchM []) = l := ⟨_, rfl⟩
          have hll : l.length ≤ 100000000 := by
            have := over_len_le L (fo.map Fd.fnd) ⟨#[65]⟩ (matchM [])
            rw [hl, List.length_map] at this
            omega
          have HOVA : Hid (∀ W, Below wa.heap.size wa W → Calls Tryz.prog 18 #[.pointer (some ⟨g, 0, none⟩), .slice p' fs.length c', .string ⟨#[65]⟩, .slice none 0 0] W fun e w' => FoPost W l e w') := fun W hW => by
            obtain ⟨C, t, _⟩ := hta.on hW
            have := tw_over t _ fs (hfin.on hW) ⟨#[65]⟩ (.slice none 0 0) [] (Kind.is_nil KM W) ⟨Nat.zero_le _, fun _ h => by simp at h⟩ (by omega)
            rw [heq, hl] at this
            exact this
          have HOVR : Hid (∀ W, Below wa.heap.size wa W → Calls Tryz.prog 19 #[.pointer (some ⟨gr, 0, none⟩), .slice pf fo.length cf, .string ⟨#[65]⟩, .slice none 0 0] W fun e w' => OverPostT W (fun x => x.at wa ∧ FitX x.o) l e w') := fun W hW => by
            have := two_rover hta hW (.slice pf fo.length cf) fo (HFO.out.on hbw) ⟨#[65]⟩ (by omega)
            rw [hl] at this
            exact this
          have HIN : Hid (∀ W, Below wa.heap.size wa W → FoundIn W (.slice p' fs.length c') fs ∧ FoundIn W (.slice pf fo.length cf) fo) := fun W hW => ⟨hfin.on hW, HFO.out.on (hbw.trans (hW.mono (Nat.le_trans hwn HI.out.row.base)))⟩
          have HEQ := hid heq
          have HBA := hid hbw
          have hwa' : w.heap.size ≤ wa.heap.size := Nat.le_trans hwn HI.out.row.base
          have hf5 : fs.length ≤ 50000000 := by omega
          clear HI hbw hwa hti hta hfin heq hl HT HBE HFO hfsl
          have HV1 := hid (HOVA.out wa (Below.refl _ _))
          go_wp2_with fail
          clear hltz hi hgk hlt hfi
          refine HV1.out.mono ?_
          rintro e wb ⟨ua, fa, rfl, hOa, hVa, hPa, hEa, hba⟩
          obtain ⟨pa, ca, rfl⟩ := Kind.own_shape hOa
          have HOa := hid hOa
          have HVa := hid hVa
          have HPa := hid hPa
          have HBa := hid hba
          have hfal : fa.length ≤ 100000000 := by
            have := congrArg List.length hEa
            rw [List.length_map] at this
            omega
          have HV2 := hid (HOVA.out wb hba)
          clear hOa hVa hPa hEa hba HV1
          go_wp2_with fail
          refine HV2.out.mono ?_
          rintro e wc ⟨ub, fb, rfl, hOb, hVb, _, hEb, hbb⟩
          have HFB : Hid (FoOwn wb.heap.size wc ub l) := ⟨⟨fb, hOb, hVb, hEb⟩⟩
          have HBb := hid hbb
          have HV3 := hid (HOVR.out wc (bel_then HBa.out HBa.out.size hbb))
          clear hOb hVb hEb hbb HV2
          go_wp2_with fail
          refine HV3.out.mono ?_
          rintro e wd ⟨uw, fw, rfl, hOw, hVw, hEw, hbc⟩
          have HFW : Hid (WantAt wa wc.heap.size wd uw l) := ⟨⟨fw, hOw, hVw, hEw⟩⟩
          have HFB2 := hid (HFB.out.on hbc)
          have HBbd := hid (bel_then HBb.out HBb.out.size hbc)
          have hsab := HBa.out.size
          have hsbc := HBb.out.size
          have hscd := hbc.size
          have HA0 : Hid (AInF wa.heap.size wb.heap.size wd (.slice pa fa.length ca) fa 0 fa wd) := AInF.start HOa.out HVa.out HPa.out HBbd.out rfl
          have HPA : Hid (0 < fa.length → ∃ g, pa = some ⟨g, 0, none⟩) := fun h0 => by
            rcases HOa.out.2 with ⟨h, h'⟩ | ⟨b, _, _, h, _⟩
            · omega
            · injection h with h2 _ _; exact ⟨b, h2⟩
          have HFA : Hid (∀ x ∈ fa, FitX x.v.o) := fun x hx => (HVa.out x hx).2
          have HBAD := hid (bel_then HBa.out HBa.out.size HBbd.out)
          have hsad := HBAD.out.size
          clear hOw hVw hEw hbc HV3 HOa HVa HPa HFB HBbd HBb HBa
          go_wp2_with fail
          go_loopg [100] fa.length (fun gg vi wx => ∃ (m : Nat) (da : List Fd), vi = .int .i64 m ∧ m ≤ fa.length ∧ fa.length - m ≤ gg ∧ Hid (AInF wa.heap.size wb.heap.size wd (.slice pa fa.length ca) fa m da wx))
          case atStart => exact ⟨0, fa, rfl, by omega, by omega, HA0.out⟩
          case round =>
            clear HA0
            obtain ⟨m, da, rfl, hm, hgm, HAI⟩ := hrel
            by_cases hlm : m < fa.length
            · have hlmz : (m : Int) < (fa.length : Int) := by omega
              have hmz : (0 : Int) ≤ m := by omega
              obtain ⟨ga, rfl⟩ := HPA.out (by omega)
              have y6 := (HAI.out.cells hlm).2.2 (Nat.le_refl _)
              have HWP := hid (wipe11_any (fa[m]).v.sl (fa[m]).v.o _ wr (HAI.out.val m hlm (Nat.le_refl _)) (HFA.out _ (List.getElem_mem hlm)) (by have h1 := HAI.out.fr.size; omega))
              have HST : Hid (∀ W', Fr (fun k => BlkX (fa[m]).v.sl (fa[m]).v.o k) wr W' → AInF wa.heap.size wb.heap.size wd (.slice (some ⟨ga, 0, none⟩) fa.length ca) fa (m + 1) da W') := fun W' hf => HAI.out.wipe hlm hf
              generalize fa[m] = xm at *
              obtain ⟨xa, xb, ⟨zn, zs, zt, zl, zp, zc, zo⟩⟩ := xm
              simp only [Vx.sl] at y6 HWP HST
              clear HAI
              go_wp2_with fail
              clear y6
              refine HWP.out.mono ?_
              rintro e wx ⟨rfl, hFx⟩
              have hA1 := HST.out wx hFx
              obtain ⟨⟨z, hz⟩, hfz, _⟩ := hA1.cells hlm
              have HNX := hid (hA1.zero hlm)
              obtain ⟨za, zb, ⟨zn', zs', zt', zl', zp', zc', zo'⟩⟩ := z
              simp only [CellsF, CellsV, Vx.sl, encFd, encVx, zeroFd, setFrom, Nat.add_zero, Nat.zero_add] at hz HNX
              obtain ⟨e0, e1, e2, e3, e4, e5, e6⟩ := hz
              have f0 := hfz (m * 7)
              have f1 := hfz (m * 7 + 1)
              have f2 := hfz (m * 7 + 2)
              have f3 := hfz (m * 7 + 3)
              have f4 := hfz (m * 7 + 4)
              have f5 := hfz (m * 7 + 5)
              have f6 := hfz (m * 7 + 6)
              clear hA1 hFx HWP HST hfz
              go_wp2_with fail
              go_roundg (fa.length - (m + 1))
              case measure => omega
              obtain ⟨da', hda'⟩ := HNX.out
              exact ⟨m + 1, da', by go_num, by omega, by omega, hda'⟩
            · have hlmz : ¬ (m : Int) < (fa.length : Int) := by omega
              obtain ⟨wz, hwz⟩ : ∃ wz, wr = wz := ⟨_, rfl⟩
              rw [hwz] at HAI ⊢
              have hfz := HAI.out.fr
              have hbz : Below wa.heap.size wa wz := HBAD.out.trans (hfz.below hsad fun k hk => hk.1)
              have hfb : FoundAt wz ub l := (HFB2.out.fr hfz fun k hk => hk.2).at
              have hfw : FoundAt wz uw l := HFW.out.at hfz (fun k hk => by have := hk.2; omega) hbz
              have HALL : Hid (∀ W, Below wz.heap.size wz W → FoundAt W ub l ∧ FoundAt W uw l ∧ FoundIn W (.slice p' fs.length c') fs ∧ FoundIn W (.slice pf fo.length cf) fo ∧ Below wa.heap.size wa W ∧ Below w.heap.size w W) := fun W hW => by
                have hb : Below wa.heap.size wa W := bel_then hbz hbz.size hW
                exact ⟨hfb.on hW, hfw.on hW, (HIN.out W hb).1, (HIN.out W hb).2, hb, HBA.out.trans (hb.mono hwa')⟩
              have HG1 := hid (S.get_nil wz (⟨#[65]⟩, ⟨#[97]⟩) ⟨by decide, by decide⟩)
              clear HAI hwz hfz hbz hfb hfw HIN HBA HBAD HFB2 HFW HPA HFA HX HD HB2
              go_wp2_with fail
              clear hlmz hm hgm hlm
              refine HG1.out.mono ?_
              rintro e x1 ⟨p1, f1, o1, rfl, _, _, hb1⟩
              rw [show liveW (getW [] (⟨#[65]⟩, ⟨#[97]⟩)) = false from rfl, show (getW [] (⟨#[65]⟩, ⟨#[97]⟩)).isSome = false from rfl]
              have HB1 := hid hb1
              have HG2 := hid (S.put_nil x1 (⟨#[65]⟩, ⟨#[97]⟩) (.slice none 0 0))
              clear hb1 HG1
              go_wp2_with fail
              refine HG2.out.mono ?_
              rintro e x2 ⟨rfl, hb2⟩
              have HB2 := hid (bel_then HB1.out HB1.out.size hb2)
              have HG3 := hid (S.del_nil x2 (⟨#[65]⟩, ⟨#[97]⟩))
              clear hb2 HG2 HB1
              go_wp2_with fail
              refine HG3.out.mono ?_
              rintro e x3 ⟨rfl, hb3⟩
              have HB3 := hid (bel_then HB2.out HB2.out.size hb3)
              obtain ⟨V, hV⟩ : ∃ V, x3.alloc (.cells #[.slice none 0 0] 29) = V := ⟨_, rfl⟩
              obtain ⟨E, hE⟩ : ∃ E, x3.heap.size = E := ⟨_, rfl⟩
              have hbV : Below x3.heap.size x3 V := by rw [← hV]; exact (Below.refl _ _).alloc (Nat.le_refl _) _
              have hVo : V.heap[E]? = some (.cells #[.slice none 0 0] 29 (0, 0)) := by rw [← hV, ← hE]; exact heap_alloc_new x3 _
              have HRF : Hid (RefW 0 V E [] (.slice none 0 0)) := ⟨hVo, Nat.zero_le _, Kind.own_nil _ _ _, fun x hx => by simp at hx, okW_nil, fun x hx => by simp at hx⟩
              have HB4 := hid (bel_then HB3.out HB3.out.size hbV)
              have HZV : Hid (∀ W, Below V.heap.size V W → Below wz.heap.size wz W) := fun W hW => bel_then HB4.out HB4.out.size hW
              obtain ⟨_, _, hi4, hf4, _⟩ := HALL.out V HB4.out
              have HS1 := hid (found_same hi4.at hf4.at (by rw [List.length_map]; omega))
              rw [decide_eq_true HEQ.out] at HS1
              clear hb3 HG3 HB2 HB3 hbV hVo hi4 hf4
              go_wp2_with fail
              try rw [hV]
              try rw [hE]
              clear hV hE
              refine HS1.out.mono ?_
              rintro e x5 ⟨rfl, hb5⟩
              have HB5 := hid hb5
              obtain ⟨hs1, hs2, _⟩ := HALL.out x5 (HZV.out x5 hb5)
              have HS2 := hid (found_same hs1 hs2 (by omega))
              rw [decide_eq_true rfl] at HS2
              clear hb5 hs1 hs2 HS1 HB4
              go_wp2_with fail
              refine HS2.out.mono ?_
              rintro e x6 ⟨rfl, hb6⟩
              have HB6 := hid (bel_then HB5.out HB5.out.size hb6)
              have HS3 := hid (HOVA.out x6 (HALL.out x6 (HZV.out x6 HB6.out)).2.2.2.2.1)
              clear hb6 HS2 HB5
              go_wp2_with fail
              refine HS3.out.mono ?_
              intro e x7 hpo
              obtain ⟨u7, fs7, rfl, _, _, _, _, hb7⟩ := id hpo
              have HB7 := hid (bel_then HB6.out HB6.out.size hb7)
              have HS4 := hid (found_same hpo.at (HALL.out x7 (HZV.out x7 HB7.out)).2.1 (by omega))
              rw [decide_eq_true rfl] at HS4
              clear hpo hb7 HS3 HB6
              go_wp2_with fail
              refine HS4.out.mono ?_
              rintro e x8 ⟨rfl, hb8⟩
              have HB8 := hid (bel_then HB7.out HB7.out.size hb8)
              have HS5 := hid (S.forget_nil x8 (⟨#[]⟩, ⟨#[]⟩) ⟨by decide, by decide⟩)
              clear hb8 HS4 HB7
              go_wp2_with fail
              refine HS5.out.mono ?_
              rintro e x9 ⟨rfl, hb9⟩
              have HB9 := hid (bel_then HB8.out HB8.out.size hb9)
              have HS6 := hid (S.len_nil x9)
              clear hb9 HS5 HB8
              go_wp2_with fail
              refine HS6.out.mono ?_
              rintro e x10 ⟨rfl, hb10⟩
              have HB10 := hid (bel_then HB9.out HB9.out.size hb10)
              have HS7 := hid (S.keys_nil x10)
              clear hb10 HS6 HB9
              go_wp2_with fail
              refine HS7.out.mono ?_
              rintro e x11 ⟨u11, rfl, hu11, hb11⟩
              obtain ⟨p11, c11, rfl⟩ := Kind.own_shape hu11
              rw [show ([] : List Ky).length = 0 from rfl]
              have HB11 := hid (bel_then HB10.out HB10.out.size hb11)
              have HS8 := hid (S.over_nil x11 (.slice p' fs.length c') fs (HALL.out x11 (HZV.out x11 HB11.out)).2.2.1 ⟨#[65]⟩ (.slice none 0 0) [] (Kind.is_nil KM x11) ⟨Nat.zero_le _, fun _ h => by simp at h⟩ (by omega))
              rw [HEQ.out] at HS8
              clear hu11 hb11 HS7 HB10
              go_wp2_with fail
              refine HS8.out.mono ?_
              intro e x12 hpo
              obtain ⟨u12, fs12, rfl, _, _, _, _, hb12⟩ := id hpo
              have HB12 := hid (bel_then HB11.out HB11.out.size hb12)
              have HF12 := hid hpo.at
              have hf12 := (HALL.out x12 (HZV.out x12 HB12.out)).2.2.2.1
              have HS9 := hid (overW_any (HRF.out.on HB12.out) (.slice pf fo.length cf) fo hf12.is (fun f hf => ⟨(hf12.each f hf).1, (hf12.each f hf).2.1⟩) ⟨#[65]⟩ (.slice none 0 0) [] (Kind.is_nil KM x12) ⟨Nat.zero_le _, fun _ h => by simp at h⟩ (by rw [List.length_nil]; omega))
              clear hpo hb12 HS8 HB11 hf12
              go_wp2_with fail
              refine HS9.out.mono ?_
              intro e x13 hpo
              obtain ⟨u13, fs13, rfl, _, _, _, hb13⟩ := id hpo
              have HB13 := hid (bel_then HB12.out HB12.out.size hb13)
              have hll0 := over_len_le [] (fo.map Fd.fnd) ⟨#[65]⟩ (matchM [])
              rw [List.length_map, List.length_nil] at hll0
              have HS10 := hid (found_same (HF12.out.on hb13) hpo.at (by omega))
              rw [decide_eq_true (by rfl)] at HS10
              clear hpo hb13 HS9 HB12 HF12 hll0
              go_wp2_with fail
              refine HS10.out.mono ?_
              rintro e x14 ⟨rfl, hb14⟩
              have HEND := hid (HALL.out x14 (HZV.out x14 (bel_then HB13.out HB13.out.size hb14))).2.2.2.2.2
              clear hb14 HS10 HB13
              go_wp2_with fail
              go_ret
              exact ⟨rfl, HEND.out⟩

end Go.Proofs.YtjehjjpdicimhaaGreat

/-
  For every script and all finds of bulk at most 1048576 the Go function WritesKeeps of package foliolaw11 returns true, and its arguments read behind the call as they read before; over the contracts of package writes.
-/
namespace Go.Proofs.YtjehjjpdicimhaaGreat
open Go.ChangeShapes Go.WideShapes Go.ChangeAt Go.RowKit Go.Joins

set_option maxRecDepth 100000 in
theorem writeskeeps_walked (S : SetApi) {H : Type} {enc : TypeId × Value → H} (W : World) (base : Nat) (args : Array Value) (ds gs : List (DataW H)) (before : List MemPlace)
    (hval : ∀ (j : Nat) t v, Tryz.f4.params[j]? = some t → args[j]? = some v → Value.okWide Tryz.prog W .any base t v)
    (hW : DataW.Whole enc Tryz.prog Tryz.f4.params.toList Rows.writesKeepsSpec.vars false W args.toList ds gs before)
    (hZ : (DataW.weightsEach Tryz.prog (Tryz.f4.params.toList ++ (OpenSpec.ofChange Rows.writesKeepsSpec).bare.plain.varTypes Tryz.prog) (ds ++ gs)).all (· ≤ reachBytes) = true) (hk : Rows.uptoSmall H (ds ++ gs) = true) :
    Calls Tryz.prog 4 args W fun e W' => ∃ v, e = .returned v ∧ Rows.writesKeepsSpec.post enc Tryz.prog Tryz.f4 false true false false W args v W' := by
  have hW' := hW
  obtain ⟨p, q, hA0, hV, rfl, _, _⟩ := hW
  have hA : DataW.TrodAll enc Tryz.prog W 0 (fun _ => true) true Tryz.f4.params.toList args.toList ds p := hA0
  rw [Tryz.params4] at hA hval hZ
  obtain ⟨v0, vs0, d0, ds0, p0, q0, hargs, rfl, rfl, h0, r0⟩ := trodAll_cons hA
  obtain ⟨v1, vs1, d1, ds1, p1, q1, rfl, rfl, rfl, h1, r1⟩ := trodAll_cons r0
  obtain ⟨rfl, rfl, rfl⟩ := trodAll_nil r1
  obtain rfl : args = #[v0, v1] := by cases args; simp_all
  obtain ⟨rfl, rfl⟩ := trodVars_none hV
  have lt0 : ∀ x ∈ p0, x.block < W.heap.size := by obtain ⟨m, hm⟩ := h0; exact DataW.trod_lt m _ _ _ hm
  have lt1 : ∀ x ∈ p1, x.block < W.heap.size := by obtain ⟨m, hm⟩ := h1; exact DataW.trod_lt m _ _ _ hm
  have k0 := h0
  have k1 := h1
  have hb : Rows.uptoBulk d0 + Rows.uptoBulk d1 ≤ 1048576 := by
    have := of_decide_eq_true hk
    simp only [List.append_nil, Rows.uptoBulkAll] at this
    omega
  have hwalk : Calls Tryz.prog 4 #[v0, v1] W fun e w' => e = .returned (.bool true) ∧ Below W.heap.size W w' := by
    have z0 : ∀ n ∈ d0.weights Tryz.prog 22, n ≤ reachBytes := fun n hn => by
      have := List.all_eq_true.1 hZ n (DataW.weights_mem_each (j := 0) rfl rfl n hn)
      simpa using this
    have z1 : ∀ n ∈ d1.weights Tryz.prog 34, n ≤ reachBytes := fun n hn => by
      have := List.all_eq_true.1 hZ n (DataW.weights_mem_each (j := 1) rfl rfl n hn)
      simpa using this
    obtain ⟨ops, hx, ho, hl, hlb⟩ := open_opsW (hval 0 22 v0 rfl rfl) h0 z0
    obtain ⟨fo, hfo, hfk, hfb⟩ := open_foundW (hval 1 34 v1 rfl rfl) h1 z1
    exact keeps11_any S v0 v1 ops fo W hx (fun x hx => (ho x hx).1) (by omega) hfo (by omega)
  clear hA0
  refine hwalk.mono fun o W' ⟨he, bel⟩ => ?_
  subst he
  exact ⟨_, rfl, _, _, _, [], _, [], hW', trodAll_mk1 (shut_bool Tryz.underlying4 _),
    (trodAll_cons_mk (Below.trod Tryz.laidOut (by kernel_rfl) (of_decide_eq_true (by kernel_rfl)) k0 bel lt0) (trodAll_cons_mk (Below.trod Tryz.laidOut (by kernel_rfl) (of_decide_eq_true (by kernel_rfl)) k1 bel lt1) trodAll_mk0)), rfl, bel.frame _, fun h => by cases h⟩

theorem writeskeeps_reads (os : Os) {H : Type} (enc : TypeId × Value → H) : ∃ places, DataW.whole enc Tryz.prog ((World.laidAll Tryz.prog os []).forCall (fun _ _ => 0) ⟨#[], #[.slice none 0 0, .slice none 0 0], []⟩).memory Tryz.f4.params.toList Rows.writesKeepsSpec.vars false #[Value.slice none 0 0, .slice none 0 0].toList 8 = some ([.nil, .nil], [], places) :=
  ⟨[], by kernel_rfl⟩

set_option maxRecDepth 100000 in
theorem writeskeeps_lifted (S : SetApi) (os : Os) (started : os.Started) (H : Type) (enc : TypeId × Value → H) (F : Stop.Interp) :
    ReturnsInHanded {} Tryz.checked os 4 .any ((Rows.OpenSpec.upto Rows.writesKeepsSpec).preRow enc Tryz.prog Tryz.f4 Rows.writesKeepsUptoRow.domain false Rows.writesKeepsUptoRow.laid) (((Rows.OpenSpec.upto Rows.writesKeepsSpec).at F).post enc Tryz.prog Tryz.f4 false true false false) := by
  obtain ⟨places, hx⟩ := writeskeeps_reads os enc
  refine returnsInHanded_of_row (C := Tryz.checked) (s := Rows.OpenSpec.upto Rows.writesKeepsSpec) Tryz.own started (by kernel_rfl) Tryz.func4
    (witness_row_at (enc := enc) (C := Tryz.checked) false (World.laidAll Tryz.prog os []) #[.slice none 0 0, .slice none 0 0] (World.laidAll_os _ _ _) (by kernel_rfl) (by kernel_rfl) (by kernel_rfl)
      (OpenSpec.preRow_of_cond 8 hx (by kernel_rfl) (fun k hk => by cases hk; kernel_rfl) (by kernel_rfl)
        (by rw [MakeChecks.laidMetH_plain _ _ _ (by kernel_rfl)]; exact laidMet_laidAll (laid := []) _ (by kernel_rfl) (by kernel_rfl)))) ?_
  intro W base args ds gs before hval hW _ hcond hZ _ _ _
  exact writeskeeps_walked S W base args ds gs before hval hW hZ (hcond _ rfl)

theorem writeskeeps_of (S : SetApi) : Rows.WritesKeepsUptoSaid :=
  OpenClaim.holds_of_cond 4 Tryz.f4 rfl rfl rfl rfl rfl rfl rfl ⟨rfl, rfl, rfl, rfl, rfl⟩ rfl rfl rfl rfl rfl (by kernel_rfl) Tryz.func4 (by kernel_rfl)
    (of_decide_eq_true (by kernel_rfl)) (by unfold Func.isWrapper; first | (rw [if_pos (by decide +kernel)]; kernel_rfl) | (rw [if_neg (by decide +kernel)]; exact ⟨rfl, rfl⟩))
    (fun os started H enc _ F => by rw [OpenClaim.pre_eq_preRow]; exact writeskeeps_lifted S os started H enc F)

end Go.Proofs.YtjehjjpdicimhaaGreat
