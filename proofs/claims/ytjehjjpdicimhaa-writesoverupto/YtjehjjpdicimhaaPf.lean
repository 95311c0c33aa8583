/-
  Texts of this claim, one behind the other: Wfd Wfw Wla Wom Wov Wa3.
-/
import Derived.Test.YtjehjjpdicimhaaPc
import Derived.Test.YtjehjjpdicimhaaRows
import Derived.Test.YtjehjjpdicimhaaPe
/-
  The laws of stage 11: the chapter's examples, as data.
-/
namespace Go.Proofs.Ytjehjjpdicimhaa
open Go.RowKit

def gxT : ByteArray := ⟨#[65]⟩
def gxa : Ky := (⟨#[65]⟩, ⟨#[97]⟩)
def gxb : Ky := (⟨#[65]⟩, ⟨#[98]⟩)
def gxd : Ky := (⟨#[65]⟩, ⟨#[100]⟩)
def gxV : List Fld := [(⟨#[110]⟩, [⟨#[120]⟩])]
theorem gx_may : mayB gxV = true := by decide
theorem gx_ka : keyB gxa.1 gxa.2 = true := by decide
theorem gx_kb : keyB gxb.1 gxb.2 = true := by decide
theorem gx_k0 : keyB (⟨#[]⟩ : ByteArray) ⟨#[]⟩ = false := by decide
theorem gx_ab : gxa ≠ gxb := fun h => by
  have := congrArg (fun k : Ky => k.2.data.toList) h
  simp [gxa, gxb] at this
theorem gx_ad : gxa ≠ gxd := fun h => by
  have := congrArg (fun k : Ky => k.2.data.toList) h
  simp [gxa, gxd] at this
theorem gx_bd : gxb ≠ gxd := fun h => by
  have := congrArg (fun k : Ky => k.2.data.toList) h
  simp [gxb, gxd] at this
theorem gx_lt : ltKy gxb gxa = false := by decide
theorem gx_lt2 : ltKy gxa gxd = true := by decide

def gW1 : List RowW := [(gxa, some gxV)]
def gW2 : List RowW := [(gxa, some gxV), (gxb, none)]
theorem gc1 : codePW gxa gxV = 0 := by unfold codePW; rw [if_neg (by rw [gx_ka]; simp), if_neg (by rw [gx_may]; simp)]
theorem gc2 : codeDW gxb = 0 := by unfold codeDW; rw [if_neg (by rw [gx_kb]; simp)]
theorem gc3 : codePW (⟨#[]⟩, ⟨#[]⟩) [] = 2 := by unfold codePW; rw [if_pos gx_k0]
theorem gp1 : putW [] gxa gxV = gW1 := by unfold putW; rw [if_pos gc1]; rfl
theorem gp2 : dltW gW1 gxb = gW2 := by
  unfold dltW
  rw [if_pos gc2]
  unfold layW delW gW1
  rw [List.filter_cons, decide_eq_false gx_ab]
  simp only [Bool.not_false, if_true, List.filter_nil]
  unfold insP
  rw [gx_lt]
  rfl
theorem gp3 : putW gW2 (⟨#[]⟩, ⟨#[]⟩) [] = gW2 := by unfold putW; rw [gc3]; rfl
theorem gg1 : getW gW2 gxa = some (some gxV) := by unfold gW2 getW; rw [if_pos rfl]
theorem gg2 : getW gW2 gxb = some none := by unfold gW2 getW; rw [if_neg gx_ab]; unfold getW; rw [if_pos rfl]
theorem gg3 : getW gW2 gxd = none := by unfold gW2 getW; rw [if_neg gx_ad]; unfold getW; rw [if_neg gx_bd]; rfl
theorem gg4 : getW (delW gW2 gxb) gxb = none := by rw [getW_del, if_pos rfl]

def gF : List Fnd := [(gxb, ⟨0, 0, 0, false, []⟩), (gxd, ⟨0, 0, 0, false, []⟩)]
theorem gover : overW gW2 gF gxT (matchM []) = [(gxa, ⟨0, 0, 0, true, gxV⟩), (gxd, ⟨0, 0, 0, false, []⟩)] := by
  have h1 : freeW gW2 gF = [(gxd, ⟨0, 0, 0, false, []⟩)] := by
    unfold freeW gF
    have e1 : (getW gW2 ((gxb, (⟨0, 0, 0, false, []⟩ : Vr)) : Fnd).1).isNone = false := by rw [gg2]; rfl
    have e2 : (getW gW2 ((gxd, (⟨0, 0, 0, false, []⟩ : Vr)) : Fnd).1).isNone = true := by rw [gg3]; rfl
    rw [List.filter_cons, List.filter_cons, e1, e2]
    rfl
  have h2 : hitsW gW2 gxT (matchM []) = [(gxa, ⟨0, 0, 0, true, gxV⟩)] := by
    unfold hitsW gW2
    rw [List.filterMap_cons]
    have : hitW gxT (matchM []) (gxa, some gxV) = some (gxa, ⟨0, 0, 0, true, gxV⟩) := by
      unfold hitW
      simp only
      rw [if_pos ⟨rfl, rfl⟩]
    rw [this]
    rfl
  unfold overW
  rw [h1, h2]
  show insP (gxa, _) [(gxd, _)] = _
  unfold insP
  show (if ltKy gxa gxd = true then _ else _) = _
  rw [gx_lt2]
  rfl

theorem fitKy_a : FitKy gxa := ⟨by decide, by decide⟩
theorem fitKy_b : FitKy gxb := ⟨by decide, by decide⟩
theorem fitKy_0 : FitKy ((⟨#[]⟩ : ByteArray), ⟨#[]⟩) := ⟨by decide, by decide⟩

end Go.Proofs.Ytjehjjpdicimhaa

/-
  The laws of stage 11: the chapter's examples, walked.
-/
namespace Go.Proofs.Ytjehjjpdicimhaa
open Go.RowKit

/-- The field n with the text x, as it lies: two blocks. -/
def gXs (b : Nat) : List Fx := [⟨⟨#[110]⟩, some ⟨b, 0, none⟩, 1, [⟨#[120]⟩]⟩]
theorem gxs_is {W : World} {b c : Nat} (h1 : W.heap[c]? = some (.cells #[.string ⟨#[110]⟩, .slice (some ⟨b, 0, none⟩) 1 1] 56 (0, 0))) (h2 : W.heap[b]? = some (.cells #[.string ⟨#[120]⟩] 9 (0, 0))) : IsXs W (.slice (some ⟨c, 0, none⟩) 1 1) (gXs b) := by
  refine ⟨_, _, rfl, Or.inr ⟨_, _, rfl, fun i hi => ?_⟩, fun x hx => ?_⟩
  · have hi' : i = 0 := by simpa [gXs] using hi
    subst hi'
    exact ⟨by rw [Lib.cell_of_heap h1]; rfl, by rw [Lib.cell_of_heap h1]; rfl⟩
  · rw [gXs, List.mem_singleton] at hx
    subst hx
    refine Or.inr ⟨_, _, rfl, fun i hi => ?_⟩
    have hi' : i = 0 := by simpa using hi
    subst hi'
    rw [Lib.cell_of_heap h2]; rfl
theorem gxs_fit (b : Nat) : FitX (gXs b) := (may_fit (o := gXs b) gx_may).1

/-- The two finds of the example, as they lie. -/
def gFd : List Fd := [⟨⟨#[65]⟩, ⟨#[98]⟩, ⟨0, 0, 0, false, none, 0, []⟩⟩, ⟨⟨#[65]⟩, ⟨#[100]⟩, ⟨0, 0, 0, false, none, 0, []⟩⟩]
theorem gfd_in {W : World} {c : Nat} (h : W.heap[c]? = some (.cells #[.string ⟨#[65]⟩, .string ⟨#[98]⟩, .int .i64 0, .int .u64 0, .int .i64 0, .bool false, .slice none 0 0, .string ⟨#[65]⟩, .string ⟨#[100]⟩, .int .i64 0, .int .u64 0, .int .i64 0, .bool false, .slice none 0 0] 49 (0, 0))) : FoundIn W (.slice (some ⟨c, 0, none⟩) 2 2) gFd := by
  refine ⟨⟨_, _, rfl, Or.inr ⟨c, 0, rfl, fun i hi j u hu => ?_⟩⟩, fun f hf => ?_, fun f hf => ?_⟩
  · have hi' : i = 0 ∨ i = 1 := by simp [gFd] at hi; omega
    rw [Lib.cell_of_heap h]
    rcases hi' with rfl | rfl
    · have hj := (List.getElem?_eq_some_iff.1 hu).1
      have : j < 7 := hj
      rcases j with _ | _ | _ | _ | _ | _ | _ | j
      all_goals first | exact hu | omega
    · have hj := (List.getElem?_eq_some_iff.1 hu).1
      have : j < 7 := hj
      rcases j with _ | _ | _ | _ | _ | _ | _ | j
      all_goals first | exact hu | omega
  · have : f.v = ⟨0, 0, 0, false, none, 0, []⟩ := by
      simp only [gFd, List.mem_cons, List.not_mem_nil, or_false] at hf
      rcases hf with rfl | rfl <;> rfl
    rw [this]
    exact ⟨(isXs_nil W).1, (isXs_nil W).2.1, (isXs_nil W).2.2⟩
  · simp only [gFd, List.mem_cons, List.not_mem_nil, or_false] at hf
    rcases hf with rfl | rfl
    · exact ⟨by decide, by decide⟩
    · exact ⟨by decide, by decide⟩

set_option linter.unusedSimpArgs false in
set_option maxHeartbeats 8000000 in
set_option maxRecDepth 100000 in
theorem fixed11_any (S : SetApi) (w : World) : Calls Try.prog 6 #[] w fun e w' => e = .returned (.bool true) ∧ Below w.heap.size w w' := by
  have HN := hid (S.new w.heap.size w (Nat.le_refl _))
  go_enter Try.func6, Try.ntmps6
  go_wp2_with fail
  refine HN.out.mono ?_
  rintro e w1 ⟨B, g, rfl, hp1, hb1, hB⟩
  obtain ⟨N, hN⟩ : ∃ N, w.heap.size = N := ⟨_, rfl⟩
  obtain ⟨A, hA⟩ : ∃ A, w1.heap.size = A := ⟨_, rfl⟩
  have hNA : N ≤ A := by have := hb1.size; omega
  obtain ⟨W2, hW2⟩ : ∃ W2, (w1.alloc (.cells #[.string ⟨#[65]⟩, .string ⟨#[97]⟩] 27)).alloc (.cells #[.string ⟨#[65]⟩, .string ⟨#[98]⟩] 27) = W2 := ⟨_, rfl⟩
  have hbW2 : Below w1.heap.size w1 W2 := by rw [← hW2]; exact ((Below.refl _ _).alloc (Nat.le_refl _) _).alloc (by simp) _
  have hsW2 : W2.heap.size = A + 2 := by rw [← hW2, ← hA]; simp
  have hka : W2.heap[A]? = some (.cells #[.string ⟨#[65]⟩, .string ⟨#[97]⟩] 27 (0, 0)) := by rw [← hW2, ← hA, Below.heap_alloc _ _ _ (by simp)]; exact heap_alloc_new w1 _
  have hkb : W2.heap[A + 1]? = some (.cells #[.string ⟨#[65]⟩, .string ⟨#[98]⟩] 27 (0, 0)) := by
    rw [← hW2, ← hA]; have := heap_alloc_new (w1.alloc (.cells #[.string ⟨#[65]⟩, .string ⟨#[97]⟩] 27)) (.cells #[.string ⟨#[65]⟩, .string ⟨#[98]⟩] 27); simpa using this
  have hBA : ∀ k, B k → N ≤ k ∧ k < A := fun k hk => by have := S.blk hp1 k hk; omega
  have KEY : Hid (∀ L W, OneW S N W2 B g L W → (W.cell? ⟨A, 0, none⟩ = some (.string ⟨#[65]⟩) ∧ W.cell? ⟨A, 1, none⟩ = some (.string ⟨#[97]⟩) ∧ W.cell? ⟨A + 1, 0, none⟩ = some (.string ⟨#[65]⟩) ∧ W.cell? ⟨A + 1, 1, none⟩ = some (.string ⟨#[98]⟩)) ∧ N ≤ W.heap.size ∧ A + 2 ≤ W.heap.size) := fun L W h => by
    have h1 := (h.block (b := A) (by omega) (fun hb => by have := hBA A hb; omega)).trans hka
    have h2 := (h.block (b := A + 1) (by omega) (fun hb => by have := hBA _ hb; omega)).trans hkb
    have h3 := h.size
    exact ⟨⟨by rw [Lib.cell_of_heap h1]; rfl, by rw [Lib.cell_of_heap h1]; rfl, by rw [Lib.cell_of_heap h2]; rfl, by rw [Lib.cell_of_heap h2]; rfl⟩, by omega, by omega⟩
  have HBW : Hid (∀ L W, OneW S N W2 B g L W → Below N w W) := fun L W h => (by rw [← hN]; exact bel_then hb1 hb1.size hbW2 : Below N w W2).trans (h.below (by omega) fun k hk => (hBA k hk).1)
  have H2 : Hid (OneW S N W2 B g [] W2) := OneW.start (by rw [← hN]; exact S.on hp1 hbW2)
  obtain ⟨⟨a0, a1, b0, b1⟩, _⟩ := KEY.out _ _ H2.out
  -- the value's two blocks
  obtain ⟨W3, hW3⟩ : ∃ W3, (W2.drew.alloc (.cells #[.string ⟨#[120]⟩] 9)) = W3 := ⟨_, rfl⟩
  obtain ⟨W4, hW4⟩ : ∃ W4, W3.alloc (.cells #[.string ⟨#[110]⟩, .slice (some ⟨A + 2, 0, none⟩) 1 1] 56) = W4 := ⟨_, rfl⟩
  have hb3 : Below W2.heap.size W2 W3 := by rw [← hW3]; exact (bel_drewN (Below.refl _ _) 1).alloc (Nat.le_refl _) _
  have hs3 : W3.heap.size = A + 3 := by rw [← hW3]; simp [hsW2]
  have hb4 : Below W3.heap.size W3 W4 := by rw [← hW4]; exact (Below.refl _ _).alloc (Nat.le_refl _) _
  have h32 : W3.heap[A + 2]? = some (.cells #[.string ⟨#[120]⟩] 9 (0, 0)) := by rw [← hW3, ← hsW2]; exact heap_alloc_new W2.drew _
  have h43 : W4.heap[A + 3]? = some (.cells #[.string ⟨#[110]⟩, .slice (some ⟨A + 2, 0, none⟩) 1 1] 56 (0, 0)) := by rw [← hW4, ← hs3]; exact heap_alloc_new W3 _
  have h42 : W4.heap[A + 2]? = some (.cells #[.string ⟨#[120]⟩] 9 (0, 0)) := (hb4.block _ (by omega)).trans h32
  have o3 := H2.out.on hb3
  have o4 := o3.on hb4
  obtain ⟨⟨c0, c1, d0, d1⟩, _⟩ := KEY.out _ _ o3
  obtain ⟨⟨e0, e1, f0, f1⟩, hn4, _⟩ := KEY.out _ _ o4
  have HP1 := hid (onew_put o4 hn4 (by decide) gxa fitKy_a _ (gXs (A + 2)) gxV (gxs_is h43 h42) (gxs_fit _) rfl)
  rw [gc1, gp1] at HP1
  simp only [gxa] at HP1
  clear hp1 hb1 hB hka hkb hbW2 hb3 hb4 h32 h43 h42 o3 o4 HN hn4
  go_upto_region 5 with fail
  try rw [hA]
  try rw [hW2]
  refine wp_region_held_drew (S := fun w' => w'.cell? ⟨A, 0, none⟩ = some (.string ⟨#[65]⟩) ∧ w'.cell? ⟨A, 1, none⟩ = some (.string ⟨#[97]⟩) ∧ w'.cell? ⟨A + 1, 0, none⟩ = some (.string ⟨#[65]⟩) ∧ w'.cell? ⟨A + 1, 1, none⟩ = some (.string ⟨#[98]⟩)) (by kernel_rfl) ⟨a0, a1, b0, b1⟩ (fun hHeld => ?_)
  refine take_val (i := 0) (.pointer (some ⟨g, 0, none⟩)) rfl (by kernel_rfl) (by kernel_rfl) (by kernel_rfl) (fun _ _ _ h => h) (by rfl) (fun w hSw => by go_simp) hHeld ?_
  simp only [Act.put, List.setIfInBounds_toArray, List.set_cons_zero, List.set_cons_succ]
  refine take_val (i := 1) (.agg #[.string ⟨#[65]⟩, .string ⟨#[97]⟩]) rfl (by kernel_rfl) (by kernel_rfl) (by kernel_rfl) (fun _ _ _ h => h) (by rfl) (fun w hSw => by go_simp) hHeld ?_
  simp only [Act.put, List.setIfInBounds_toArray, List.set_cons_zero, List.set_cons_succ]
  refine take_val (i := 6) (.pointer (some ⟨g, 0, none⟩)) rfl (by kernel_rfl) (by kernel_rfl) (by kernel_rfl) (fun _ _ _ h => h) (by rfl) (fun w hSw => by go_simp) hHeld ?_
  simp only [Act.put, List.setIfInBounds_toArray, List.set_cons_zero, List.set_cons_succ]
  refine take_val (i := 7) (.agg #[.string ⟨#[65]⟩, .string ⟨#[98]⟩]) rfl (by kernel_rfl) (by kernel_rfl) (by kernel_rfl) (fun _ _ _ h => h) (by rfl) (fun w hSw => by go_simp) hHeld ?_
  simp only [Act.put, List.setIfInBounds_toArray, List.set_cons_zero, List.set_cons_succ]
  refine take_val (i := 9) (.pointer (some ⟨g, 0, none⟩)) rfl (by kernel_rfl) (by kernel_rfl) (by kernel_rfl) (fun _ _ _ h => h) (by rfl) (fun w hSw => by go_simp) hHeld ?_
  simp only [Act.put, List.setIfInBounds_toArray, List.set_cons_zero, List.set_cons_succ]
  refine take_val (i := 10) (.agg #[.string ⟨#[]⟩, .string ⟨#[]⟩]) rfl (by kernel_rfl) (by kernel_rfl) (by kernel_rfl) (fun _ _ _ h => h) (by rfl) (fun w hSw => by go_simp) hHeld ?_
  simp only [Act.put, List.setIfInBounds_toArray, List.set_cons_zero, List.set_cons_succ]
  clear hHeld
  refine wpAnyH_ready (rs := [2]) (by kernel_rfl) (by simp) ?_
  refine AllReadyH.cons (at_drop0 rfl) (fun K hK => ?_) AllReadyH.nil
  rw [if_pos (by rfl)]
  go_simp
  go_wp2_with fail
  try rw [hW3]
  refine hK.out _ _ (⟨c0, c1, d0, d1⟩) (fun hHeld => ?_)
  clear hK K
  try simp only [Act.put, List.setIfInBounds_toArray, List.set_cons_zero, List.set_cons_succ]
  refine take_val (i := 3) (.agg #[.string ⟨#[110]⟩, .slice (some ⟨A + 2, 0, none⟩) 1 1]) rfl (by kernel_rfl) (by kernel_rfl) (by kernel_rfl) (fun _ _ _ h => h) (by rfl) (fun w hSw => by go_simp) hHeld ?_
  simp only [Act.put, List.setIfInBounds_toArray, List.set_cons_zero, List.set_cons_succ]
  clear hHeld
  refine wpAnyH_ready (rs := [4]) (by kernel_rfl) (by simp) ?_
  refine AllReadyH.cons (at_drop0 rfl) (fun K hK => ?_) AllReadyH.nil
  rw [if_pos (by rfl)]
  go_simp
  go_wp2_with fail
  try rw [hW4]
  refine hK.out _ _ (⟨e0, e1, f0, f1⟩) (fun hHeld => ?_)
  clear hK K
  try simp only [Act.put, List.setIfInBounds_toArray, List.set_cons_zero, List.set_cons_succ]
  clear hHeld
  refine wpAnyH_ready (rs := [5]) (by kernel_rfl) (by simp) ?_
  refine AllReadyH.cons (at_drop0 rfl) (fun K hK => ?_) AllReadyH.nil
  rw [if_pos (by rfl)]
  go_simp
  refine HP1.out.mono ?_
  rintro e w5 ⟨rfl, o5⟩
  obtain ⟨⟨a0, a1, b0, b1⟩, hn5, _⟩ := KEY.out _ _ o5
  have HP2 := hid (onew_del o5 hn5 (by decide) gxb fitKy_b)
  rw [gc2, gp2] at HP2
  simp only [gxb] at HP2
  clear o5 HP1 hn5
  go_wp2_with fail
  refine hK.out _ _ (⟨a0, a1, b0, b1⟩) (fun hHeld => ?_)
  clear hK K
  try simp only [Act.put, List.setIfInBounds_toArray, List.set_cons_zero, List.set_cons_succ]
  clear hHeld
  refine wpAnyH_ready (rs := [8]) (by kernel_rfl) (by simp) ?_
  refine AllReadyH.cons (at_drop0 rfl) (fun K hK => ?_) AllReadyH.nil
  rw [if_pos (by rfl)]
  go_simp
  refine HP2.out.mono ?_
  rintro e w6 ⟨rfl, o6⟩
  obtain ⟨⟨a0, a1, b0, b1⟩, hn6, _⟩ := KEY.out _ _ o6
  have HP3 := hid (onew_put o6 hn6 (by decide) (⟨#[]⟩, ⟨#[]⟩) fitKy_0 (.slice none 0 0) [] [] (isXs_nil _).1 (isXs_nil w6).2.1 rfl)
  rw [gc3, gp3] at HP3
  clear o6 HP2 hn6
  go_wp2_with fail
  refine hK.out _ _ (⟨a0, a1, b0, b1⟩) (fun hHeld => ?_)
  clear hK K
  try simp only [Act.put, List.setIfInBounds_toArray, List.set_cons_zero, List.set_cons_succ]
  clear hHeld
  refine wpAnyH_ready (rs := [11]) (by kernel_rfl) (by simp) ?_
  refine AllReadyH.cons (at_drop0 rfl) (fun K hK => ?_) AllReadyH.nil
  rw [if_pos (by rfl)]
  go_simp
  refine HP3.out.mono ?_
  rintro e w7 ⟨rfl, o7⟩
  obtain ⟨⟨a0, a1, b0, b1⟩, hn7, hn7'⟩ := KEY.out _ _ o7
  have HG := hid (onew_get o7 (by decide) gxa fitKy_a)
  have HO7 := hid o7
  simp only [gxa] at HG
  clear o7 HP3
  go_wp2_with fail
  refine hK.out _ _ (⟨a0, a1, b0, b1⟩) (fun hHeld => ?_)
  clear hK K
  try simp only [Act.put, List.setIfInBounds_toArray, List.set_cons_zero, List.set_cons_succ]
  refine take_val (i := 12) (.int .i64 0) rfl (by kernel_rfl) (by kernel_rfl) (by kernel_rfl) (fun _ _ _ h => h) (by rfl) (fun w hSw => by go_simp) hHeld ?_
  simp only [Act.put, List.setIfInBounds_toArray, List.set_cons_zero, List.set_cons_succ]
  refine take_val (i := 13) (.int .i64 0) rfl (by kernel_rfl) (by kernel_rfl) (by kernel_rfl) (fun _ _ _ h => h) (by rfl) (fun w hSw => by go_simp) hHeld ?_
  simp only [Act.put, List.setIfInBounds_toArray, List.set_cons_zero, List.set_cons_succ]
  refine take_val (i := 14) (.int .i64 2) rfl (by kernel_rfl) (by kernel_rfl) (by kernel_rfl) (fun _ _ _ h => h) (by rfl) (fun w hSw => by go_simp) hHeld ?_
  simp only [Act.put, List.setIfInBounds_toArray, List.set_cons_zero, List.set_cons_succ]
  refine wpAnyH_done (by kernel_rfl) ?_ _
  clear hHeld
  go_wp2_with fail
  refine HG.out.mono ?_
  rintro e w8 ⟨p, c, o, rfl, _, ho, hb8⟩
  have hgg := gg1
  rw [gxa] at hgg
  rw [hgg] at ho ⊢
  have hlv : liveW (some (some gxV)) = true := rfl
  rw [hlv]
  have hol : o.length = 1 := by
    have := congrArg List.length ho
    simpa [valW, gxV] using this
  have o8 := HO7.out.on hb8
  obtain ⟨⟨a0, a1, b0, b1⟩, hn8, hn8'⟩ := KEY.out _ _ o8
  rw [hol]
  clear ho hb8 HO7 HG hn7 hn7' hol hgg
  obtain ⟨A8, hA8⟩ : ∃ A8, w8.heap.size = A8 := ⟨_, rfl⟩
  obtain ⟨W9, hW9⟩ : ∃ W9, w8.alloc (.cells #[.string ⟨#[65]⟩, .string ⟨#[98]⟩, .int .i64 0, .int .u64 0, .int .i64 0, .bool false, .slice none 0 0, .string ⟨#[65]⟩, .string ⟨#[100]⟩, .int .i64 0, .int .u64 0, .int .i64 0, .bool false, .slice none 0 0] 49) = W9 := ⟨_, rfl⟩
  have hb9 : Below w8.heap.size w8 W9 := by rw [← hW9]; exact (Below.refl _ _).alloc (Nat.le_refl _) _
  have hob9 : W9.heap[A8]? = some (.cells #[.string ⟨#[65]⟩, .string ⟨#[98]⟩, .int .i64 0, .int .u64 0, .int .i64 0, .bool false, .slice none 0 0, .string ⟨#[65]⟩, .string ⟨#[100]⟩, .int .i64 0, .int .u64 0, .int .i64 0, .bool false, .slice none 0 0] 49 (0, 0)) := by rw [← hW9, ← hA8]; exact heap_alloc_new w8 _
  have o9 := o8.on hb9
  have HOV := hid (onew_over o9 _ gFd (gfd_in hob9) gxT (.slice none 0 0) [] (Kind.is_nil KM W9) ⟨Nat.zero_le _, fun _ h => by simp at h⟩ (by decide))
  have hgm : gFd.map Fd.fnd = gF := rfl
  rw [hgm, gover] at HOV
  simp only [gxT] at HOV
  have HO9 := hid o9
  clear o8 o9 hb9 hob9 hgm hn8 hn8'
  go_wp2_with fail
  try rw [hA8]
  try rw [hW9]
  refine HOV.out.mono ?_
  rintro e w10 ⟨u, fs, rfl, hown, _, _, hfs, hb10⟩
  obtain ⟨f0, f1, rfl⟩ : ∃ f0 f1, fs = [f0, f1] := by
    have := congrArg List.length hfs
    match fs, this with
    | [x, y], _ => exact ⟨x, y, rfl⟩
  obtain ⟨pu, cap, rfl⟩ := Kind.own_shape hown
  obtain ⟨G, rfl, _, _, hat, _⟩ := Kind.own_form hown (by simp)
  have o10 := HO9.out.on hb10
  obtain ⟨k0, k1, _⟩ := kfd_at hat 0 (by simp)
  have hf0 : f0.fnd = (gxa, ⟨0, 0, 0, true, gxV⟩) := by
    simp only [List.map_cons, List.map_nil] at hfs
    injection hfs
  have ha0 : f0.a = ⟨#[65]⟩ := congrArg (fun x : Fnd => x.1.1) hf0
  have hb0 : f0.b = ⟨#[97]⟩ := congrArg (fun x : Fnd => x.1.2) hf0
  simp only [List.getElem_cons_zero, Nat.zero_mul, Nat.zero_add, ha0, hb0] at k0 k1
  have hGs := cell_block k0
  clear hfs hat hf0 ha0 hb0
  have hGn : W9.heap.size ≤ G := (World.ownsRow.lt hown G rfl).1
  obtain ⟨B9, hp9, hf9, hB9⟩ := HO9.out
  have hs29 := hf9.size
  have hs10 := hb10.size
  have KEY2 : Hid (∀ L W, OneW S N w10 B9 g L W → (W.cell? ⟨A, 0, none⟩ = some (.string ⟨#[65]⟩) ∧ W.cell? ⟨A, 1, none⟩ = some (.string ⟨#[97]⟩) ∧ W.cell? ⟨A + 1, 0, none⟩ = some (.string ⟨#[65]⟩) ∧ W.cell? ⟨A + 1, 1, none⟩ = some (.string ⟨#[98]⟩) ∧ W.cell? ⟨G, 0, none⟩ = some (.string ⟨#[65]⟩) ∧ W.cell? ⟨G, 1, none⟩ = some (.string ⟨#[97]⟩)) ∧ N ≤ W.heap.size ∧ Below N w W) := fun L W h => by
    have hA9 : ∀ k, k = A ∨ k = A + 1 → ¬ B9 k := fun k hk hb => by
      rcases hB9 k hb with h1 | h1
      · have := hBA k h1; omega
      · omega
    obtain ⟨⟨z0, z1, z2, z3⟩, z4, _⟩ := KEY.out _ _ o10
    have hbl : ∀ b o v, w10.cell? ⟨b, o, none⟩ = some v → ¬ B9 b → W.cell? ⟨b, o, none⟩ = some v := fun b o v hc hb => (World.cell?_of_block (a := ⟨b, o, none⟩) (h.block (b := b) (cell_block hc) hb)).trans hc
    have hG9 : ¬ B9 G := fun hb => by have := (S.blk hp9 G hb).2; omega
    exact ⟨⟨hbl _ _ _ z0 (hA9 A (Or.inl rfl)), hbl _ _ _ z1 (hA9 A (Or.inl rfl)), hbl _ _ _ z2 (hA9 _ (Or.inr rfl)), hbl _ _ _ z3 (hA9 _ (Or.inr rfl)), hbl _ _ _ k0 hG9, hbl _ _ _ k1 hG9⟩, Nat.le_trans z4 h.size, (HBW.out _ _ o10).trans (h.below z4 fun k hk => (S.blk hp9 k hk).1)⟩
  have q10 : OneW S N w10 B9 g gW2 w10 := OneW.start (S.on hp9 hb10)
  have qd : OneW S N w10 B9 g gW2 w10.drew := q10.on (bel_drewN (Below.refl _ _) 1)
  obtain ⟨⟨a0, a1, b0, b1, g0, g1⟩, _⟩ := KEY2.out _ _ q10
  have HL := hid (onew_len qd (by decide))
  have HQD := hid qd
  have hgl : gW2.length = 2 := rfl
  rw [hgl] at HL
  have heq := fun W => Z.eql_key ⟨#[65]⟩ ⟨#[97]⟩ ⟨#[65]⟩ ⟨#[97]⟩ W
  rw [Z.eqK_iff (⟨#[65]⟩, ⟨#[97]⟩) (⟨#[65]⟩, ⟨#[97]⟩), decide_eq_true rfl] at heq
  clear hown HO9 hp9 hf9 hB9 hb10 o10 q10 qd KEY HBW H2 HOV hW2 hW3 hW4 hW9 k0 k1 hGs hgl
  go_wp2_with fail
  refine wp_region_held_drew (S := fun w' => w'.cell? ⟨A, 0, none⟩ = some (.string ⟨#[65]⟩) ∧ w'.cell? ⟨A, 1, none⟩ = some (.string ⟨#[97]⟩) ∧ w'.cell? ⟨A + 1, 0, none⟩ = some (.string ⟨#[65]⟩) ∧ w'.cell? ⟨A + 1, 1, none⟩ = some (.string ⟨#[98]⟩) ∧ w'.cell? ⟨G, 0, none⟩ = some (.string ⟨#[65]⟩) ∧ w'.cell? ⟨G, 1, none⟩ = some (.string ⟨#[97]⟩)) (by kernel_rfl) ⟨a0, a1, b0, b1, g0, g1⟩ (fun hHeld => ?_)
  refine take_val (i := 0) (.int .i64 0) rfl (by kernel_rfl) (by kernel_rfl) (by kernel_rfl) (fun _ _ _ h => h) (by rfl) (fun w hSw => by go_simp) hHeld ?_
  simp only [Act.put, List.setIfInBounds_toArray, List.set_cons_zero, List.set_cons_succ]
  refine take_val (i := 1) (.bool true) rfl (by kernel_rfl) (by kernel_rfl) (by kernel_rfl) (fun _ _ _ h => h) (by rfl) (fun w hSw => by go_simp) hHeld ?_
  simp only [Act.put, List.setIfInBounds_toArray, List.set_cons_zero, List.set_cons_succ]
  refine take_val (i := 2) (.bool true) rfl (by kernel_rfl) (by kernel_rfl) (by kernel_rfl) (fun _ _ _ h => h) (by rfl) (fun w hSw => by go_simp) hHeld ?_
  simp only [Act.put, List.setIfInBounds_toArray, List.set_cons_zero, List.set_cons_succ]
  refine take_val (i := 3) (.int .i64 0) rfl (by kernel_rfl) (by kernel_rfl) (by kernel_rfl) (fun _ _ _ h => h) (by rfl) (fun w hSw => by go_simp) hHeld ?_
  simp only [Act.put, List.setIfInBounds_toArray, List.set_cons_zero, List.set_cons_succ]
  refine take_val (i := 4) (.bool true) rfl (by kernel_rfl) (by kernel_rfl) (by kernel_rfl) (fun _ _ _ h => h) (by rfl) (fun w hSw => by go_simp) hHeld ?_
  simp only [Act.put, List.setIfInBounds_toArray, List.set_cons_zero, List.set_cons_succ]
  refine take_val (i := 5) (.bool true) rfl (by kernel_rfl) (by kernel_rfl) (by kernel_rfl) (fun _ _ _ h => h) (by rfl) (fun w hSw => by go_simp) hHeld ?_
  simp only [Act.put, List.setIfInBounds_toArray, List.set_cons_zero, List.set_cons_succ]
  refine take_val (i := 6) (.bool true) rfl (by kernel_rfl) (by kernel_rfl) (by kernel_rfl) (fun _ _ _ h => h) (by rfl) (fun w hSw => by go_simp) hHeld ?_
  simp only [Act.put, List.setIfInBounds_toArray, List.set_cons_zero, List.set_cons_succ]
  refine take_val (i := 7) (.int .i64 2) rfl (by kernel_rfl) (by kernel_rfl) (by kernel_rfl) (fun _ _ _ h => h) (by rfl) (fun w hSw => by go_simp) hHeld ?_
  simp only [Act.put, List.setIfInBounds_toArray, List.set_cons_zero, List.set_cons_succ]
  refine take_val (i := 8) (.bool true) rfl (by kernel_rfl) (by kernel_rfl) (by kernel_rfl) (fun _ _ _ h => h) (by rfl) (fun w hSw => by go_simp) hHeld ?_
  simp only [Act.put, List.setIfInBounds_toArray, List.set_cons_zero, List.set_cons_succ]
  refine take_val (i := 9) (.bool true) rfl (by kernel_rfl) (by kernel_rfl) (by kernel_rfl) (fun _ _ _ h => h) (by rfl) (fun w hSw => by go_simp) hHeld ?_
  simp only [Act.put, List.setIfInBounds_toArray, List.set_cons_zero, List.set_cons_succ]
  refine take_val (i := 10) (.bool true) rfl (by kernel_rfl) (by kernel_rfl) (by kernel_rfl) (fun _ _ _ h => h) (by rfl) (fun w hSw => by go_simp) hHeld ?_
  simp only [Act.put, List.setIfInBounds_toArray, List.set_cons_zero, List.set_cons_succ]
  refine take_val (i := 11) (.slice p 1 c) rfl (by kernel_rfl) (by kernel_rfl) (by kernel_rfl) (fun _ _ _ h => h) (by rfl) (fun w hSw => by go_simp) hHeld ?_
  simp only [Act.put, List.setIfInBounds_toArray, List.set_cons_zero, List.set_cons_succ]
  refine take_val (i := 12) (.int .i64 1) rfl (by kernel_rfl) (by kernel_rfl) (by kernel_rfl) (fun _ _ _ h => h) (by rfl) (fun w hSw => by go_simp) hHeld ?_
  simp only [Act.put, List.setIfInBounds_toArray, List.set_cons_zero, List.set_cons_succ]
  refine take_val (i := 13) (.bool true) rfl (by kernel_rfl) (by kernel_rfl) (by kernel_rfl) (fun _ _ _ h => h) (by rfl) (fun w hSw => by go_simp) hHeld ?_
  simp only [Act.put, List.setIfInBounds_toArray, List.set_cons_zero, List.set_cons_succ]
  refine take_val (i := 14) (.bool true) rfl (by kernel_rfl) (by kernel_rfl) (by kernel_rfl) (fun _ _ _ h => h) (by rfl) (fun w hSw => by go_simp) hHeld ?_
  simp only [Act.put, List.setIfInBounds_toArray, List.set_cons_zero, List.set_cons_succ]
  refine take_val (i := 15) (.bool true) rfl (by kernel_rfl) (by kernel_rfl) (by kernel_rfl) (fun _ _ _ h => h) (by rfl) (fun w hSw => by go_simp) hHeld ?_
  simp only [Act.put, List.setIfInBounds_toArray, List.set_cons_zero, List.set_cons_succ]
  refine take_val (i := 16) (.bool true) rfl (by kernel_rfl) (by kernel_rfl) (by kernel_rfl) (fun _ _ _ h => h) (by rfl) (fun w hSw => by go_simp) hHeld ?_
  simp only [Act.put, List.setIfInBounds_toArray, List.set_cons_zero, List.set_cons_succ]
  refine take_val (i := 17) (.bool true) rfl (by kernel_rfl) (by kernel_rfl) (by kernel_rfl) (fun _ _ _ h => h) (by rfl) (fun w hSw => by go_simp) hHeld ?_
  simp only [Act.put, List.setIfInBounds_toArray, List.set_cons_zero, List.set_cons_succ]
  refine take_val (i := 18) (.bool true) rfl (by kernel_rfl) (by kernel_rfl) (by kernel_rfl) (fun _ _ _ h => h) (by rfl) (fun w hSw => by go_simp) hHeld ?_
  simp only [Act.put, List.setIfInBounds_toArray, List.set_cons_zero, List.set_cons_succ]
  refine take_val (i := 19) (.bool true) rfl (by kernel_rfl) (by kernel_rfl) (by kernel_rfl) (fun _ _ _ h => h) (by rfl) (fun w hSw => by go_simp) hHeld ?_
  simp only [Act.put, List.setIfInBounds_toArray, List.set_cons_zero, List.set_cons_succ]
  refine take_val (i := 20) (.bool true) rfl (by kernel_rfl) (by kernel_rfl) (by kernel_rfl) (fun _ _ _ h => h) (by rfl) (fun w hSw => by go_simp) hHeld ?_
  simp only [Act.put, List.setIfInBounds_toArray, List.set_cons_zero, List.set_cons_succ]
  refine take_val (i := 21) (.bool true) rfl (by kernel_rfl) (by kernel_rfl) (by kernel_rfl) (fun _ _ _ h => h) (by rfl) (fun w hSw => by go_simp) hHeld ?_
  simp only [Act.put, List.setIfInBounds_toArray, List.set_cons_zero, List.set_cons_succ]
  refine take_val (i := 22) (.slice (some ⟨G, 0, none⟩) 2 cap) rfl (by kernel_rfl) (by kernel_rfl) (by kernel_rfl) (fun _ _ _ h => h) (by rfl) (fun w hSw => by go_simp) hHeld ?_
  simp only [Act.put, List.setIfInBounds_toArray, List.set_cons_zero, List.set_cons_succ]
  refine take_val (i := 23) (.int .i64 2) rfl (by kernel_rfl) (by kernel_rfl) (by kernel_rfl) (fun _ _ _ h => h) (by rfl) (fun w hSw => by go_simp) hHeld ?_
  simp only [Act.put, List.setIfInBounds_toArray, List.set_cons_zero, List.set_cons_succ]
  refine take_val (i := 24) (.bool true) rfl (by kernel_rfl) (by kernel_rfl) (by kernel_rfl) (fun _ _ _ h => h) (by rfl) (fun w hSw => by go_simp) hHeld ?_
  simp only [Act.put, List.setIfInBounds_toArray, List.set_cons_zero, List.set_cons_succ]
  refine take_val (i := 25) (.bool true) rfl (by kernel_rfl) (by kernel_rfl) (by kernel_rfl) (fun _ _ _ h => h) (by rfl) (fun w hSw => by go_simp) hHeld ?_
  simp only [Act.put, List.setIfInBounds_toArray, List.set_cons_zero, List.set_cons_succ]
  refine take_val (i := 26) (.bool true) rfl (by kernel_rfl) (by kernel_rfl) (by kernel_rfl) (fun _ _ _ h => h) (by rfl) (fun w hSw => by go_simp) hHeld ?_
  simp only [Act.put, List.setIfInBounds_toArray, List.set_cons_zero, List.set_cons_succ]
  refine take_val (i := 27) (.slice (some ⟨G, 0, none⟩) 2 cap) rfl (by kernel_rfl) (by kernel_rfl) (by kernel_rfl) (fun _ _ _ h => h) (by rfl) (fun w hSw => by go_simp) hHeld ?_
  simp only [Act.put, List.setIfInBounds_toArray, List.set_cons_zero, List.set_cons_succ]
  refine take_val (i := 28) (.pointer (some ⟨G, 0, none⟩)) rfl (by kernel_rfl) (by kernel_rfl) (by kernel_rfl) (fun _ _ _ h => h) (by rfl) (fun w hSw => by go_simp) hHeld ?_
  simp only [Act.put, List.setIfInBounds_toArray, List.set_cons_zero, List.set_cons_succ]
  refine take_val (i := 29) (.pointer (some ⟨G, 0, none⟩)) rfl (by kernel_rfl) (by kernel_rfl) (by kernel_rfl) (fun _ _ _ h => h) (by rfl) (fun w hSw => by go_simp) hHeld ?_
  simp only [Act.put, List.setIfInBounds_toArray, List.set_cons_zero, List.set_cons_succ]
  refine take_val (i := 30) (.agg #[.string ⟨#[65]⟩, .string ⟨#[97]⟩]) rfl (by kernel_rfl) (by kernel_rfl) (by kernel_rfl) (fun _ _ _ h => h) (by rfl) (fun w hSw => by go_simp) hHeld ?_
  simp only [Act.put, List.setIfInBounds_toArray, List.set_cons_zero, List.set_cons_succ]
  refine take_val (i := 31) (.agg #[.string ⟨#[65]⟩, .string ⟨#[97]⟩]) rfl (by kernel_rfl) (by kernel_rfl) (by kernel_rfl) (fun _ _ _ h => h) (by rfl) (fun w hSw => by go_simp) hHeld ?_
  simp only [Act.put, List.setIfInBounds_toArray, List.set_cons_zero, List.set_cons_succ]
  refine take_val (i := 32) (.bool true) rfl (by kernel_rfl) (by kernel_rfl) (by kernel_rfl) (fun _ _ _ h => h) (by rfl) (fun w hSw => by go_simp) hHeld ?_
  simp only [Act.put, List.setIfInBounds_toArray, List.set_cons_zero, List.set_cons_succ]
  refine take_val (i := 33) (.bool true) rfl (by kernel_rfl) (by kernel_rfl) (by kernel_rfl) (fun _ _ _ h => h) (by rfl) (fun w hSw => by go_simp) hHeld ?_
  simp only [Act.put, List.setIfInBounds_toArray, List.set_cons_zero, List.set_cons_succ]
  refine take_val (i := 34) (.bool true) rfl (by kernel_rfl) (by kernel_rfl) (by kernel_rfl) (fun _ _ _ h => h) (by rfl) (fun w hSw => by go_simp) hHeld ?_
  simp only [Act.put, List.setIfInBounds_toArray, List.set_cons_zero, List.set_cons_succ]
  refine take_val (i := 35) (.pointer (some ⟨g, 0, none⟩)) rfl (by kernel_rfl) (by kernel_rfl) (by kernel_rfl) (fun _ _ _ h => h) (by rfl) (fun w hSw => by go_simp) hHeld ?_
  simp only [Act.put, List.setIfInBounds_toArray, List.set_cons_zero, List.set_cons_succ]
  clear hHeld
  refine wpAnyH_ready (rs := [36]) (by kernel_rfl) (by simp) ?_
  refine AllReadyH.cons (at_drop0 rfl) (fun K hK => ?_) AllReadyH.nil
  rw [if_pos (by rfl)]
  go_simp
  refine HL.out.mono ?_
  rintro e w11 ⟨rfl, hb11⟩
  have q11 := HQD.out.on hb11
  obtain ⟨⟨a0, a1, b0, b1, g0, g1⟩, _⟩ := KEY2.out _ _ q11
  have HKS := hid (onew_keys q11 (by decide))
  have HQ11 := hid q11
  clear hb11 HL q11 HQD
  go_wp2_with fail
  refine hK.out _ _ (⟨a0, a1, b0, b1, g0, g1⟩) (fun hHeld => ?_)
  clear hK K
  try simp only [Act.put, List.setIfInBounds_toArray, List.set_cons_zero, List.set_cons_succ]
  refine take_val (i := 37) (.bool true) rfl (by kernel_rfl) (by kernel_rfl) (by kernel_rfl) (fun _ _ _ h => h) (by rfl) (fun w hSw => by go_simp) hHeld ?_
  simp only [Act.put, List.setIfInBounds_toArray, List.set_cons_zero, List.set_cons_succ]
  refine take_val (i := 38) (.bool true) rfl (by kernel_rfl) (by kernel_rfl) (by kernel_rfl) (fun _ _ _ h => h) (by rfl) (fun w hSw => by go_simp) hHeld ?_
  simp only [Act.put, List.setIfInBounds_toArray, List.set_cons_zero, List.set_cons_succ]
  refine take_val (i := 39) (.bool true) rfl (by kernel_rfl) (by kernel_rfl) (by kernel_rfl) (fun _ _ _ h => h) (by rfl) (fun w hSw => by go_simp) hHeld ?_
  simp only [Act.put, List.setIfInBounds_toArray, List.set_cons_zero, List.set_cons_succ]
  refine take_val (i := 40) (.pointer (some ⟨g, 0, none⟩)) rfl (by kernel_rfl) (by kernel_rfl) (by kernel_rfl) (fun _ _ _ h => h) (by rfl) (fun w hSw => by go_simp) hHeld ?_
  simp only [Act.put, List.setIfInBounds_toArray, List.set_cons_zero, List.set_cons_succ]
  clear hHeld
  refine wpAnyH_ready (rs := [41]) (by kernel_rfl) (by simp) ?_
  refine AllReadyH.cons (at_drop0 rfl) (fun K hK => ?_) AllReadyH.nil
  rw [if_pos (by rfl)]
  go_simp
  refine HKS.out.mono ?_
  rintro e w12 ⟨u, rfl, hu, hb12⟩
  obtain ⟨pk, ck, rfl⟩ := Kind.own_shape hu
  have hkl : (keysW gW2).length = 2 := rfl
  rw [hkl]
  have q12 := HQ11.out.on hb12
  obtain ⟨⟨a0, a1, b0, b1, g0, g1⟩, hn12, _⟩ := KEY2.out _ _ q12
  have HF1 := hid (onew_forget q12 hn12 (by decide) gxb fitKy_b)
  rw [gg2] at HF1
  simp only [gxb] at HF1
  clear hb12 HKS q12 HQ11 hu hkl hn12
  go_wp2_with fail
  refine hK.out _ _ (⟨a0, a1, b0, b1, g0, g1⟩) (fun hHeld => ?_)
  clear hK K
  try simp only [Act.put, List.setIfInBounds_toArray, List.set_cons_zero, List.set_cons_succ]
  refine take_val (i := 42) (.int .i64 2) rfl (by kernel_rfl) (by kernel_rfl) (by kernel_rfl) (fun _ _ _ h => h) (by rfl) (fun w hSw => by go_simp) hHeld ?_
  simp only [Act.put, List.setIfInBounds_toArray, List.set_cons_zero, List.set_cons_succ]
  refine take_val (i := 43) (.bool true) rfl (by kernel_rfl) (by kernel_rfl) (by kernel_rfl) (fun _ _ _ h => h) (by rfl) (fun w hSw => by go_simp) hHeld ?_
  simp only [Act.put, List.setIfInBounds_toArray, List.set_cons_zero, List.set_cons_succ]
  refine take_val (i := 44) (.bool true) rfl (by kernel_rfl) (by kernel_rfl) (by kernel_rfl) (fun _ _ _ h => h) (by rfl) (fun w hSw => by go_simp) hHeld ?_
  simp only [Act.put, List.setIfInBounds_toArray, List.set_cons_zero, List.set_cons_succ]
  refine take_val (i := 45) (.bool true) rfl (by kernel_rfl) (by kernel_rfl) (by kernel_rfl) (fun _ _ _ h => h) (by rfl) (fun w hSw => by go_simp) hHeld ?_
  simp only [Act.put, List.setIfInBounds_toArray, List.set_cons_zero, List.set_cons_succ]
  refine take_val (i := 46) (.pointer (some ⟨g, 0, none⟩)) rfl (by kernel_rfl) (by kernel_rfl) (by kernel_rfl) (fun _ _ _ h => h) (by rfl) (fun w hSw => by go_simp) hHeld ?_
  simp only [Act.put, List.setIfInBounds_toArray, List.set_cons_zero, List.set_cons_succ]
  refine take_val (i := 47) (.agg #[.string ⟨#[65]⟩, .string ⟨#[98]⟩]) rfl (by kernel_rfl) (by kernel_rfl) (by kernel_rfl) (fun _ _ _ h => h) (by rfl) (fun w hSw => by go_simp) hHeld ?_
  simp only [Act.put, List.setIfInBounds_toArray, List.set_cons_zero, List.set_cons_succ]
  clear hHeld
  refine wpAnyH_ready (rs := [48]) (by kernel_rfl) (by simp) ?_
  refine AllReadyH.cons (at_drop0 rfl) (fun K hK => ?_) AllReadyH.nil
  rw [if_pos (by rfl)]
  go_simp
  refine HF1.out.mono ?_
  rintro e w13 ⟨rfl, q13⟩
  obtain ⟨⟨a0, a1, b0, b1, g0, g1⟩, hn13, _⟩ := KEY2.out _ _ q13
  have HF2 := hid (onew_forget q13 hn13 (Nat.le_trans (delW_len _ _) (by decide)) gxb fitKy_b)
  have hg4 := gg4
  simp only [gxb] at hg4 HF2
  rw [hg4] at HF2
  clear HF1 q13 hn13 hg4
  go_wp2_with fail
  refine hK.out _ _ (⟨a0, a1, b0, b1, g0, g1⟩) (fun hHeld => ?_)
  clear hK K
  try simp only [Act.put, List.setIfInBounds_toArray, List.set_cons_zero, List.set_cons_succ]
  refine take_val (i := 49) (.bool true) rfl (by kernel_rfl) (by kernel_rfl) (by kernel_rfl) (fun _ _ _ h => h) (by rfl) (fun w hSw => by go_simp) hHeld ?_
  simp only [Act.put, List.setIfInBounds_toArray, List.set_cons_zero, List.set_cons_succ]
  refine take_val (i := 50) (.bool true) rfl (by kernel_rfl) (by kernel_rfl) (by kernel_rfl) (fun _ _ _ h => h) (by rfl) (fun w hSw => by go_simp) hHeld ?_
  simp only [Act.put, List.setIfInBounds_toArray, List.set_cons_zero, List.set_cons_succ]
  refine take_val (i := 51) (.pointer (some ⟨g, 0, none⟩)) rfl (by kernel_rfl) (by kernel_rfl) (by kernel_rfl) (fun _ _ _ h => h) (by rfl) (fun w hSw => by go_simp) hHeld ?_
  simp only [Act.put, List.setIfInBounds_toArray, List.set_cons_zero, List.set_cons_succ]
  refine take_val (i := 52) (.agg #[.string ⟨#[65]⟩, .string ⟨#[98]⟩]) rfl (by kernel_rfl) (by kernel_rfl) (by kernel_rfl) (fun _ _ _ h => h) (by rfl) (fun w hSw => by go_simp) hHeld ?_
  simp only [Act.put, List.setIfInBounds_toArray, List.set_cons_zero, List.set_cons_succ]
  clear hHeld
  refine wpAnyH_ready (rs := [53]) (by kernel_rfl) (by simp) ?_
  refine AllReadyH.cons (at_drop0 rfl) (fun K hK => ?_) AllReadyH.nil
  rw [if_pos (by rfl)]
  go_simp
  refine HF2.out.mono ?_
  rintro e w14 ⟨rfl, q14⟩
  obtain ⟨⟨a0, a1, b0, b1, g0, g1⟩, _, hb14⟩ := KEY2.out _ _ q14
  have HB14 := hid hb14
  clear HF2 q14 hb14
  go_wp2_with fail
  refine hK.out _ _ (⟨a0, a1, b0, b1, g0, g1⟩) (fun hHeld => ?_)
  clear hK K
  try simp only [Act.put, List.setIfInBounds_toArray, List.set_cons_zero, List.set_cons_succ]
  refine take_val (i := 54) (.bool true) rfl (by kernel_rfl) (by kernel_rfl) (by kernel_rfl) (fun _ _ _ h => h) (by rfl) (fun w hSw => by go_simp) hHeld ?_
  simp only [Act.put, List.setIfInBounds_toArray, List.set_cons_zero, List.set_cons_succ]
  refine take_val (i := 55) (.bool true) rfl (by kernel_rfl) (by kernel_rfl) (by kernel_rfl) (fun _ _ _ h => h) (by rfl) (fun w hSw => by go_simp) hHeld ?_
  simp only [Act.put, List.setIfInBounds_toArray, List.set_cons_zero, List.set_cons_succ]
  refine take_val (i := 56) (.bool true) rfl (by kernel_rfl) (by kernel_rfl) (by kernel_rfl) (fun _ _ _ h => h) (by rfl) (fun w hSw => by go_simp) hHeld ?_
  simp only [Act.put, List.setIfInBounds_toArray, List.set_cons_zero, List.set_cons_succ]
  refine wpAnyH_done (by kernel_rfl) ?_ _
  clear hHeld
  go_wp2_with fail
  go_ret
  rw [hN]
  exact ⟨rfl, HB14.out⟩

end Go.Proofs.Ytjehjjpdicimhaa

/-
  WritesLast (stage 11), what its walk leans on.
-/
namespace Go.Proofs.Ytjehjjpdicimhaa
open Go.RowKit

/-- A set of the program; ahead of n0 all is as in w1. -/
def PrgS (S : SetApi) (n0 : Nat) (w1 : World) (g : Nat) (L : List RowW) (W : World) : Prop := (∃ B, S.Prg n0 W B g L) ∧ Below n0 w1 W ∧ n0 ≤ W.heap.size

section
variable {S : SetApi} {n0 : Nat} {w1 : World} {g : Nat} {L : List RowW} {W : World}
theorem PrgS.new {g : Nat} (hn : n0 = w1.heap.size) (h : OneW S n0 w1 (fun _ => False) g L W) : PrgS S n0 w1 g L W := by
  have hb := h.below (N := n0) (by omega) fun k hk => hk.elim
  have hs := hb.size
  obtain ⟨B, h1, _⟩ := h
  exact ⟨⟨B, h1⟩, hb, by omega⟩
theorem PrgS.on {W' : World} (h : PrgS S n0 w1 g L W) (hb : Below W.heap.size W W') : PrgS S n0 w1 g L W' := by
  obtain ⟨⟨B, h1⟩, h2, h3⟩ := h
  exact ⟨⟨B, S.on h1 hb⟩, h2.trans (hb.mono h3), Nat.le_trans h3 hb.size⟩
theorem PrgS.one (h : PrgS S n0 w1 g L W) : ∃ B, OneW S n0 W B g L W ∧ (∀ k, B k → n0 ≤ k ∧ k < W.heap.size) := by
  obtain ⟨⟨B, h1⟩, _⟩ := h
  exact ⟨B, OneW.start h1, fun k hk => S.blk h1 k hk⟩
theorem PrgS.then {B : Nat → Prop} {L' : List RowW} {W' : World} (h : PrgS S n0 w1 g L W) (hB : ∀ k, B k → n0 ≤ k) (h' : OneW S n0 W B g L' W') : PrgS S n0 w1 g L' W' := by
  have hb := h'.below (N := n0) h.2.2 hB
  have hs := h'.size
  obtain ⟨B', h1, _⟩ := h'
  exact ⟨⟨B', h1⟩, h.2.1.trans hb, Nat.le_trans h.2.2 hs⟩
theorem PrgS.ok (h : PrgS S n0 w1 g L W) : OkW L := by
  obtain ⟨⟨B, h1⟩, _⟩ := h
  exact S.ok h1
end

theorem codePW_cases (k : Ky) (v : List Fld) : codePW k v = 0 ∨ codePW k v = 2 ∨ codePW k v = 3 := by
  unfold codePW
  split
  · exact Or.inr (Or.inl rfl)
  · split
    · exact Or.inr (Or.inr rfl)
    · exact Or.inl rfl
theorem codeDW_cases (k : Ky) : codeDW k = 0 ∨ codeDW k = 2 := by
  unfold codeDW
  split
  · exact Or.inr rfl
  · exact Or.inl rfl

theorem fitKy_key {k : Ky} (h : keyB k.1 k.2 = true) : FitKy k := by
  unfold keyB at h
  rw [Bool.and_eq_true] at h
  have h1 := typeB_len h.1
  have h2 := idenB_len h.2
  simp at h1 h2
  unfold FitKy maxLen
  constructor <;> omega

theorem keysW_get {L : List RowW} (h : OkW L) {i : Nat} (hi : i < (keysW L).length) : FitKy (keysW L)[i] ∧ (getW L (keysW L)[i]).isSome = true := by
  have hm : (keysW L)[i] ∈ keysW L := List.getElem_mem hi
  obtain ⟨y, hy, he⟩ := List.mem_map.1 hm
  rw [← he]
  refine ⟨fitKy_key (h.key y hy), ?_⟩
  rw [getW_of h.rise hy]
  rfl
theorem keysW_ne {L : List RowW} (h : OkW L) {i j : Nat} (hij : i < j) (hj : j < (keysW L).length) : (keysW L)[i]'(by omega) ≠ (keysW L)[j] := fun e => by
  have hp := List.pairwise_iff_getElem.1 h.rise i j (by rw [keysW, List.length_map] at hj; omega) (by rw [keysW, List.length_map] at hj; exact hj) hij
  simp only [keysW, List.getElem_map] at e
  rw [e, totK.irr] at hp
  cases hp

end Go.Proofs.Ytjehjjpdicimhaa

/-
  WritesOver (stage 11), what its walk leans on.
-/
namespace Go.Proofs.Ytjehjjpdicimhaa
open Go.RowKit

theorem freeW_step (L : List RowW) (fs : List Fnd) (i : Nat) (hi : i < fs.length) : (freeW L (fs.take (i + 1))).length = (freeW L (fs.take i)).length + (if (getW L (fs[i]).1).isSome = true then 0 else 1) := by
  rw [List.take_succ_eq_append_getElem hi, freeW_snoc, List.length_append]
  congr 1
  cases h : getW L (fs[i]).1 with
  | none => rfl
  | some v => rfl

theorem hitsW_step {L : List RowW} (h : OkW L) (typ : ByteArray) (i : Nat) (hi : i < L.length) : (hitsW (L.take (i + 1)) typ (matchM [])).length = (hitsW (L.take i) typ (matchM [])).length + (if liveW (getW L (L[i]).1) = true ∧ (L[i]).1.1 = typ then 1 else 0) := by
  have hg := getW_of h.rise (List.getElem_mem hi)
  rw [List.take_succ_eq_append_getElem hi]
  unfold hitsW
  rw [List.filterMap_append, List.length_append, hg]
  congr 1
  generalize L[i] = y
  obtain ⟨k, e⟩ := y
  cases e with
  | none =>
    rw [if_neg (by simp [liveW])]
    rfl
  | some v =>
    by_cases ht : k.1 = typ
    · rw [if_pos ⟨rfl, ht⟩]
      have : hitW typ (matchM []) (k, some v) = some (k, ⟨0, 0, 0, true, v⟩) := by
        unfold hitW
        simp only
        rw [if_pos ⟨ht, rfl⟩]
      rw [List.filterMap_cons, this]
      rfl
    · rw [if_neg fun h => ht h.2]
      have : hitW typ (matchM []) (k, some v) = none := by
        unfold hitW
        simp only
        rw [if_neg fun h => ht h.1]
      rw [List.filterMap_cons, this]
      rfl

theorem keysW_at {L : List RowW} {i : Nat} (h : i < (keysW L).length) (h' : i < L.length) : (keysW L)[i] = (L[i]).1 := List.getElem_map _

/-- What stands next to what. -/
theorem overW_next {L : List RowW} {fs : List Fnd} {typ : ByteArray} {m : List Fld → Bool} {l : List Fnd} (hl : l = overW L fs typ m) {i : Nat} (hi : i + 1 < l.length) : ltKy (l[i + 1]).1 (l[i]'(by omega)).1 = false := by
  subst hl
  exact rise_get (overW_rise L fs typ m) (Nat.lt_succ_self i) hi

theorem lt_cases {a b c d : ByteArray} (h : ltKy (c, d) (a, b) = false) : (ltB a c = true ∧ a ≠ c) ∨ (a = c ∧ (ltB b d = true ∨ b = d)) := by
  have h' : ¬ (ltB c a = true ∨ c = a ∧ ltB d b = true) := fun h2 => by
    rw [ltKy_true.2 h2] at h
    cases h
  rcases ltB_cases a c with h1 | h1 | h1
  · refine Or.inl ⟨h1, fun e => ?_⟩
    rw [e, ltB_irrefl] at h1
    cases h1
  · refine Or.inr ⟨h1, ?_⟩
    rcases ltB_cases b d with h2 | h2 | h2
    · exact Or.inl h2
    · exact Or.inr h2
    · exact absurd (Or.inr ⟨h1.symm, h2⟩) h'
  · exact absurd (Or.inl h1) h'

end Go.Proofs.Ytjehjjpdicimhaa

/-
  WritesOver (stage 11): of what was found just what isn't written stays; of the written ones of the type just the live ones are there; in order.
-/
namespace Go.Proofs.Ytjehjjpdicimhaa
open Go.RowKit

set_option linter.unusedSimpArgs false in
set_option maxHeartbeats 16000000 in
set_option maxRecDepth 100000 in
theorem over11_any (S : SetApi) (v vf : Value) (ops : List Ow) (fo : List Fd) (typ : ByteArray) (w : World) (hv : KOw.Is w v ops) (hx : ∀ x ∈ ops, OpW w x) (hl : ops.length < 50000000) (hfo : FoundIn w vf fo) (hfk : ∀ f ∈ fo, FitKy (f.a, f.b)) (hfl : fo.length ≤ 50000000) :
    Calls Try.prog 4 #[v, vf, .string typ] w fun e w' => e = .returned (.bool true) ∧ Below w.heap.size w w' := by
  have HF := hid (fixed11_any S w)
  obtain ⟨p, cap, rfl, hd⟩ := hv
  obtain ⟨pf, cf, rfl, _⟩ := id hfo.is
  have HD := hid hd
  have HX := hid hx
  have HFO := hid hfo
  have HFK := hid hfk
  clear hx hd hfo hfk
  go_enter Try.func4, Try.ntmps4
  go_wp2_with fail
  refine HF.out.mono ?_
  rintro e w1 ⟨rfl, hb1⟩
  have HN := hid (onew_new S w1)
  have HB1 := hid hb1
  clear hb1 HF
  go_wp2_with fail
  refine HN.out.mono ?_
  rintro e w2 ⟨g, rfl, hp2⟩
  have HP2 := hid (PrgS.new rfl hp2)
  have hws := HB1.out.size
  obtain ⟨n0, hn0⟩ : ∃ n0, w1.heap.size = n0 := ⟨_, rfl⟩
  rw [hn0] at HP2 hws
  have HBW : Hid (∀ W, Below n0 w1 W → Below w.heap.size w W) := fun W h => HB1.out.trans (h.mono hws)
  clear hp2 HN hn0
  go_wp2_with fail
  go_loopg [32] ops.length (fun gg vi wr => ∃ (i : Nat) (L : List RowW), vi = .int .i64 i ∧ i ≤ ops.length ∧ ops.length - i ≤ gg ∧ Hid (PrgS S n0 w1 g L wr) ∧ L.length ≤ i)
  case atStart => exact ⟨0, [], rfl, by omega, by omega, HP2.out, Nat.le_refl _⟩
  case round =>
    clear HP2
    obtain ⟨i, L, rfl, hi, hgk, HI, hLi⟩ := hrel
    have hbw : Below w.heap.size w wr := HBW.out wr HI.out.2.1
    by_cases hlt : i < ops.length
    · have hltz : (i : Int) < (ops.length : Int) := by omega
      have hiz : (0 : Int) ≤ i := by omega
      obtain ⟨b1, o1, rfl, k1⟩ : ∃ b off, p = some ⟨b, off, none⟩ ∧ KOw.At w b off ops := by
        rcases HD.out with h | h
        · rw [h] at hlt; simp at hlt
        · exact h
      obtain ⟨y0, y1, y2, y3, y4, y5⟩ := kow_at (Kind.at_kept k1 hbw) i hlt
      have hx0 := HX.out _ (List.getElem_mem hlt)
      generalize ops[i] = x at *
      have hbV : Below wr.heap.size wr (wr.alloc (.cells (encOw x).toArray 32)) := (Below.refl _ _).alloc (Nat.le_refl _) _
      have hPV := HI.out.on hbV
      obtain ⟨B, oV, hB2⟩ := hPV.one
      have hop := hx0.on (HBW.out _ hPV.2.1)
      have HNX : Hid (∀ L1 w', OneW S n0 (wr.alloc (.cells (encOw x).toArray 32)) B g L1 w' → PrgS S n0 w1 g L1 w') := fun L1 w' q => hPV.then (fun k hk => (hB2 k hk).1) q
      have HPUT := hid (onew_put oV hPV.2.2 (by omega) x.key hop.kfit _ x.o x.val hop.is hop.fit rfl)
      have HDEL := hid (onew_del oV hPV.2.2 (by omega) x.key hop.kfit)
      have HLP := hid (putW_len L x.key x.val)
      have HLD := hid (dltW_len L x.key)
      clear hx0 hbw k1 HI hbV hPV oV hB2 hop
      obtain ⟨xk, xa, xb, xp, xc, xo, xq, xqc, xm, xr, xrc, xf⟩ := x
      simp only [encOw, Ow.key, Ow.val] at *
      by_cases e1 : xk = 1
      · subst e1
        go_wp2_with fail
        refine HPUT.out.mono ?_
        rintro e w7 ⟨rfl, q⟩
        have HE := hid (HNX.out _ _ q)
        clear q HPUT HDEL HNX
        go_wp2_with fail
        go_roundg (ops.length - (i + 1))
        case measure => omega
        exact ⟨i + 1, _, by go_num, by omega, by omega, HE.out, by have := HLP.out; omega⟩
      · have b1 : (xk == 1) = false := by simpa using e1
        go_wp2_with fail
        refine HDEL.out.mono ?_
        rintro e w7 ⟨rfl, q⟩
        have HE := hid (HNX.out _ _ q)
        clear q HPUT HDEL HNX
        go_wp2_with fail
        go_roundg (ops.length - (i + 1))
        case measure => omega
        exact ⟨i + 1, _, by go_num, by omega, by omega, HE.out, by have := HLD.out; omega⟩
    · have hltz : ¬ (i : Int) < (ops.length : Int) := by omega
      have hL13 : L.length ≤ 1300000000000 := by omega
      have hL5 : L.length ≤ 50000000 := by omega
      obtain ⟨B, hB1, _⟩ := HI.out.one
      have HOV := hid (onew_over hB1 _ fo (HFO.out.on hbw) typ (.slice none 0 0) [] (Kind.is_nil KM wr) ⟨Nat.zero_le _, fun _ h => by simp at h⟩ (by omega))
      have HOK := hid HI.out.ok
      have HGET : Hid (∀ (k : Ky) W, PrgS S n0 w1 g L W → FitKy k → Calls Try.prog 11 #[.pointer (some ⟨g, 0, none⟩), .agg #[.string k.1, .string k.2]] W fun e w' => GetPostP W L k e w') := fun k W h hk => by
        obtain ⟨B, h1, _⟩ := h.one
        exact onew_get h1 hL13 k hk
      have HKEYS : Hid (∀ W, PrgS S n0 w1 g L W → Calls Try.prog 13 #[.pointer (some ⟨g, 0, none⟩)] W fun e w' => KeysPost W (keysW L) e w') := fun W h => by
        obtain ⟨B, h1, _⟩ := h.one
        exact onew_keys h1 hL13
      clear hB1 hbw
      go_wp2_with fail
      clear hltz hi hgk hlt hLi
      refine HOV.out.mono ?_
      rintro e wo ⟨u, fs, rfl, hown, hval, _, hfs, hbo⟩
      obtain ⟨pu, cu, rfl⟩ := Kind.own_shape hown
      have HPO := hid (HI.out.on hbo)
      have HROW := hid (Kind.own_is hown)
      have HVAL := hid hval
      have HFS := hid hfs
      have hfsl : fs.length = (freeW L (fo.map Fd.fnd)).length + (hitsW L typ (matchM [])).length := by
        have := congrArg List.length hfs
        rw [List.length_map, overW_len] at this
        exact this
      have hfr := freeW_len L (fo.map Fd.fnd)
      rw [List.length_map] at hfr
      have hhr : (hitsW L typ (matchM [])).length ≤ L.length := List.length_filterMap_le _ _
      have hfs8 : fs.length ≤ 100000000 := by omega
      have HFL := hid hfsl
      clear hown hval hfs hbo HOV HI hfsl hfr hhr
      go_wp2_with fail
      go_loopg [11, 56] fo.length (fun gg v11 vi wr => ∃ (i : Nat) (n : Nat), vi = .int .i64 i ∧ v11 = .int .i64 n ∧ i ≤ fo.length ∧ fo.length - i ≤ gg ∧ n ≤ i ∧ Hid (n = (freeW L ((fo.map Fd.fnd).take i)).length ∧ PrgS S n0 w1 g L wr ∧ Below wo.heap.size wo wr))
      case atStart => exact ⟨0, 0, rfl, rfl, by omega, by omega, by omega, rfl, HPO.out, Below.refl _ _⟩
      case round =>
        clear HPO
        obtain ⟨i, n, rfl, rfl, hi, hgk, hni, HJ⟩ := hrel
        by_cases hlt : i < fo.length
        · have hltz : (i : Int) < (fo.length : Int) := by omega
          have hiz : (0 : Int) ≤ i := by omega
          have hbw := HBW.out _ HJ.out.2.1.2.1
          obtain ⟨b1, o1, rfl, k1⟩ : ∃ b off, pf = some ⟨b, off, none⟩ ∧ KFd.At wr b off fo := by
            obtain ⟨p', c', he, h⟩ := (HFO.out.on hbw).is
            injection he with e1 _ _
            subst e1
            rcases h with h | h
            · rw [h] at hlt; simp at hlt
            · exact h
          obtain ⟨y0, y1, y2, y3, y4, y5, y6⟩ := kfd_at k1 i hlt
          have hst := freeW_step L (fo.map Fd.fnd) i (by simpa using hlt)
          rw [List.getElem_map] at hst
          have hfk := HFK.out _ (List.getElem_mem hlt)
          have HSS : Hid ((freeW L ((fo.map Fd.fnd).take (i + 1))).length = (freeW L ((fo.map Fd.fnd).take i)).length + (if (getW L ((fo[i]).a, (fo[i]).b)).isSome = true then 0 else 1)) := hst
          clear hst k1
          generalize fo[i] = f at *
          have hbV : Below wr.heap.size wr (wr.alloc (.cells (encFd f).toArray 49)) := (Below.refl _ _).alloc (Nat.le_refl _) _
          have hPV := HJ.out.2.1.on hbV
          have HG := hid (HGET.out (f.a, f.b) _ hPV hfk)
          have HPV := hid hPV
          have HBO := hid (bel_then HJ.out.2.2 HJ.out.2.2.size hbV)
          have HNN := hid HJ.out.1
          obtain ⟨fa, fb, ⟨fn, fq, ft, fl, fp, fc, fx⟩⟩ := f
          simp only [encFd, encVx, Vx.sl] at *
          clear HJ hbw hfk hbV hPV
          cases hso : (getW L (fa, fb)).isSome with
          | true =>
            rw [hso] at HSS
            have HS2 : Hid (n = (freeW L ((fo.map Fd.fnd).take (i + 1))).length) := by rw [HSS.out]; exact HNN.out
            clear HSS HNN
            go_wp2_with fail
            refine HG.out.mono ?_
            rintro e w5 ⟨p5, f5, o5, rfl, _, _, hb5⟩
            rw [hso]
            have HE : Hid (PrgS S n0 w1 g L w5 ∧ Below wo.heap.size wo w5) := ⟨HPV.out.on hb5, bel_then HBO.out HBO.out.size hb5⟩
            generalize liveW (getW L (fa, fb)) = R1 at *
            clear hb5 HG HPV HBO hso
            go_wp2_with fail
            go_roundg (fo.length - (i + 1))
            case measure => omega
            exact ⟨i + 1, n, by go_num, rfl, by omega, by omega, by omega, HS2.out, HE.out⟩
          | false =>
            rw [hso] at HSS
            have HS2 : Hid (n + 1 = (freeW L ((fo.map Fd.fnd).take (i + 1))).length) := by rw [HSS.out, ← HNN.out]; rfl
            clear HSS HNN
            go_wp2_with fail
            refine HG.out.mono ?_
            rintro e w5 ⟨p5, f5, o5, rfl, _, _, hb5⟩
            rw [hso]
            have HE : Hid (PrgS S n0 w1 g L w5 ∧ Below wo.heap.size wo w5) := ⟨HPV.out.on hb5, bel_then HBO.out HBO.out.size hb5⟩
            generalize liveW (getW L (fa, fb)) = R1 at *
            clear hb5 HG HPV HBO hso
            go_wp2_with fail
            go_roundg (fo.length - (i + 1))
            case measure => omega
            exact ⟨i + 1, n + 1, by go_num, by go_num, by omega, by omega, by omega, HS2.out, HE.out⟩
        · have hltz : ¬ (i : Int) < (fo.length : Int) := by omega
          have hti : (fo.map Fd.fnd).take i = fo.map Fd.fnd := List.take_of_length_le (by rw [List.length_map]; omega)
          rw [hti] at HJ
          have HK := hid (HKEYS.out _ HJ.out.2.1)
          have HNF := hid HJ.out.1
          go_wp2_with fail
          refine HK.out.mono ?_
          rintro e wk ⟨uk, rfl, hu, hbk⟩
          obtain ⟨pk, ck, rfl⟩ := Kind.own_shape hu
          have HU := hid (Kind.own_is hu)
          have HPK : Hid (PrgS S n0 w1 g L wk ∧ Below wo.heap.size wo wk) := ⟨HJ.out.2.1.on hbk, bel_then HJ.out.2.2 HJ.out.2.2.size hbk⟩
          obtain ⟨ks, hks⟩ : ∃ ks, keysW L = ks := ⟨_, rfl⟩
          have hkl : ks.length = L.length := by rw [← hks]; unfold keysW; rw [List.length_map]
          have HKG : Hid (∀ j, (hj : j < ks.length) → FitKy ks[j] ∧ (hitsW (L.take (j + 1)) typ (matchM [])).length = (hitsW (L.take j) typ (matchM [])).length + (if liveW (getW L ks[j]) = true ∧ (ks[j]).1 = typ then 1 else 0)) := by
            subst hks
            intro j hj
            refine ⟨(keysW_get HOK.out hj).1, ?_⟩
            have hj' : j < L.length := by rw [← hkl]; exact hj
            rw [keysW_at hj hj']
            exact hitsW_step HOK.out typ j hj'
          rw [hks] at HU ⊢
          have hkm : ks.length ≤ 50000000 := by omega
          have HKL := hid hkl
          have hnf : n ≤ fo.length := by omega
          clear hu hbk HK hks hti HJ hi hgk hlt hltz hkl hni
          go_wp2_with fail
          go_loopg [11, 76] ks.length (fun gg v11 vi wr => ∃ (j : Nat) (m : Nat), vi = .int .i64 j ∧ v11 = .int .i64 m ∧ j ≤ ks.length ∧ ks.length - j ≤ gg ∧ m ≤ fo.length + j ∧ Hid (m = n + (hitsW (L.take j) typ (matchM [])).length ∧ PrgS S n0 w1 g L wr ∧ Below wo.heap.size wo wr ∧ Below wk.heap.size wk wr))
          case atStart => exact ⟨0, n, rfl, rfl, by omega, by omega, by omega, by simp [hitsW], HPK.out.1, HPK.out.2, Below.refl _ _⟩
          case round =>
            clear HPK
            obtain ⟨j, m, rfl, rfl, hj, hgj, hmj, HJ⟩ := hrel
            by_cases hjt : j < ks.length
            · have hjz : (j : Int) < (ks.length : Int) := by omega
              have hj0 : (0 : Int) ≤ j := by omega
              obtain ⟨b1, o1, rfl, k1⟩ : ∃ b off, pk = some ⟨b, off, none⟩ ∧ KK.At wr b off ks := by
                obtain ⟨p', c', he, h⟩ := Kind.is_kept HU.out HJ.out.2.2.2
                injection he with e1 _ _
                subst e1
                rcases h with h | h
                · rw [h] at hjt; simp at hjt
                · exact h
              obtain ⟨y0, y1⟩ := kk_at k1 j hjt
              obtain ⟨hfk, hst⟩ := HKG.out j hjt
              have HSS := hid hst
              clear k1 hst
              generalize ks[j] = K at *
              obtain ⟨V, hV⟩ : ∃ V, wr.alloc (.cells #[.string K.1, .string K.2] 27) = V := ⟨_, rfl⟩
              obtain ⟨O, hO⟩ : ∃ O, wr.heap.size = O := ⟨_, rfl⟩
              have hbV : Below wr.heap.size wr V := by rw [← hV]; exact (Below.refl _ _).alloc (Nat.le_refl _) _
              have hVo : V.heap[O]? = some (.cells #[.string K.1, .string K.2] 27 (0, 0)) := by rw [← hV, ← hO]; exact heap_alloc_new wr _
              have hPV := HJ.out.2.1.on hbV
              have HG := hid (HGET.out K _ hPV hfk)
              have HKC : Hid (∀ W, Below V.heap.size V W → W.cell? ⟨O, 0, none⟩ = some (.string K.1) ∧ W.cell? ⟨O, 1, none⟩ = some (.string K.2)) := fun W hW => by
                have := (hW.block O (Array.getElem?_eq_some_iff.1 hVo).1).trans hVo
                exact ⟨by rw [Lib.cell_of_heap this]; rfl, by rw [Lib.cell_of_heap this]; rfl⟩
              have HNX : Hid (∀ W, Below V.heap.size V W → PrgS S n0 w1 g L W ∧ Below wo.heap.size wo W ∧ Below wk.heap.size wk W) := fun W hW => by
                have hb2 := bel_then hbV hbV.size hW
                exact ⟨hPV.on hW, bel_then HJ.out.2.2.1 HJ.out.2.2.1.size hb2, bel_then HJ.out.2.2.2 HJ.out.2.2.2.size hb2⟩
              have HMM := hid HJ.out.1
              obtain ⟨v0, v1⟩ := HKC.out V (Below.refl _ _)
              clear hfk hbV hVo hPV HJ
              obtain ⟨ka, kb⟩ := K
              simp only at *
              cases hlv : liveW (getW L (ka, kb)) with
              | false =>
                have HS2 : Hid (m = n + (hitsW (L.take (j + 1)) typ (matchM [])).length) := by
                  show m = _
                  rw [HSS.out, if_neg (by rw [hlv]; simp)]
                  exact HMM.out
                clear HSS HMM
                go_wp2_with fail
                try rw [hV]
                try rw [hO]
                refine HG.out.mono ?_
                rintro e w5 ⟨p5, f5, o5, rfl, _, _, hb5⟩
                rw [hlv]
                have HE := hid (HNX.out w5 hb5)
                generalize (getW L (ka, kb)).isSome = R2 at *
                clear hb5 HG HNX hlv HKC
                go_wp2_with fail
                go_roundg (ks.length - (j + 1))
                case measure => omega
                exact ⟨j + 1, m, by go_num, rfl, by omega, by omega, by omega, HS2.out, HE.out⟩
              | true =>
                by_cases ht : ka = typ
                · have hte : (ka.toList == typ.toList) = true := seq_true ht
                  have HS2 : Hid (m + 1 = n + (hitsW (L.take (j + 1)) typ (matchM [])).length) := by
                    show m + 1 = _
                    rw [HSS.out, if_pos ⟨hlv, ht⟩, HMM.out]
                    omega
                  clear HSS HMM ht
                  go_wp2_with fail
                  try rw [hV]
                  try rw [hO]
                  refine HG.out.mono ?_
                  rintro e w5 ⟨p5, f5, o5, rfl, _, _, hb5⟩
                  rw [hlv]
                  obtain ⟨x0, x1⟩ := HKC.out w5 hb5
                  have HE := hid (HNX.out w5 hb5)
                  generalize (getW L (ka, kb)).isSome = R2 at *
                  clear hb5 HG HNX hlv HKC
                  go_wp2_with fail
                  go_roundg (ks.length - (j + 1))
                  case measure => omega
                  exact ⟨j + 1, m + 1, by go_num, by go_num, by omega, by omega, by omega, HS2.out, HE.out⟩
                · have hte : (ka.toList == typ.toList) = false := seq_false ht
                  have HS2 : Hid (m = n + (hitsW (L.take (j + 1)) typ (matchM [])).length) := by
                    show m = _
                    rw [HSS.out, if_neg fun h => ht h.2]
                    exact HMM.out
                  clear HSS HMM ht
                  go_wp2_with fail
                  try rw [hV]
                  try rw [hO]
                  refine HG.out.mono ?_
                  rintro e w5 ⟨p5, f5, o5, rfl, _, _, hb5⟩
                  rw [hlv]
                  obtain ⟨x0, x1⟩ := HKC.out w5 hb5
                  have HE := hid (HNX.out w5 hb5)
                  generalize (getW L (ka, kb)).isSome = R2 at *
                  clear hb5 HG HNX hlv HKC
                  go_wp2_with fail
                  go_roundg (ks.length - (j + 1))
                  case measure => omega
                  exact ⟨j + 1, m, by go_num, rfl, by omega, by omega, by omega, HS2.out, HE.out⟩
            · have hjz : ¬ (j : Int) < (ks.length : Int) := by omega
              have hjl : L.take j = L := List.take_of_length_le (by have := HKL.out; omega)
              have hmfs : m = fs.length := by
                have h1 := HJ.out.1
                rw [hjl] at h1
                rw [h1, HNF.out, HFL.out]
              have HP4 : Hid (PrgS S n0 w1 g L wr ∧ Below wo.heap.size wo wr) := ⟨HJ.out.2.1, HJ.out.2.2.1⟩
              subst hmfs
              clear HJ hjl HNF HFL HKG HU HKL hj hgj hmj hjt
              go_wp2_with fail
              go_loopg [99] fs.length (fun gg vi wr => ∃ (i : Nat), vi = .int .i64 i ∧ i ≤ fs.length ∧ fs.length - i ≤ gg ∧ Hid (PrgS S n0 w1 g L wr ∧ Below wo.heap.size wo wr))
              case atStart => exact ⟨0, rfl, by omega, by omega, HP4.out⟩
              case round =>
                clear HP4 hjz
                obtain ⟨i, rfl, hi, hgk, HJ⟩ := hrel
                by_cases hlt : i < fs.length
                · have hltz : (i : Int) < (fs.length : Int) := by omega
                  have hiz : (0 : Int) ≤ i := by omega
                  obtain ⟨bu, ou, rfl, k1⟩ : ∃ b off, pu = some ⟨b, off, none⟩ ∧ KFd.At wo b off fs := by
                    obtain ⟨p', c', he, h⟩ := HROW.out
                    injection he with e1 _ _
                    subst e1
                    rcases h with h | h
                    · rw [h] at hlt; simp at hlt
                    · exact h
                  have HCL : Hid (∀ m, (hm : m < fs.length) → ∀ W, Below wo.heap.size wo W → CellsF W bu (ou + m * 7) fs[m]) := fun m hm W hW => kfd_at (Kind.at_kept k1 hW) m hm
                  obtain ⟨y0, y1, y2, y3, y4, y5, y6⟩ := HCL.out i hlt wr HJ.out.2
                  have hmem : (fs[i]).fnd ∈ overW L (fo.map Fd.fnd) typ (matchM []) := by rw [← HFS.out]; exact List.mem_map_of_mem (List.getElem_mem hlt)
                  have HMEM : Hid (getW L ((fs[i]).a, (fs[i]).b) = none ∨ ∃ v', getW L ((fs[i]).a, (fs[i]).b) = some (some v') ∧ (fs[i]).a = typ ∧ (fs[i]).v.o.map Fx.fld = v' ∧ (fs[i]).v.num = 0 ∧ (fs[i]).v.stamp = 0 ∧ (fs[i]).v.live = true) := by
                    rcases overW_mem HOK.out hmem with h | ⟨v', h1, h2, _, h4⟩
                    · exact Or.inl h
                    · have h5 : (fs[i]).v.ver = ⟨0, 0, 0, true, v'⟩ := h4
                      exact Or.inr ⟨v', h1, h2, congrArg Vr.val h5, congrArg Vr.num h5, congrArg Vr.stamp h5, congrArg Vr.live h5⟩
                  have HVV := hid (HVAL.out _ (List.getElem_mem hlt))
                  have HNXT : Hid (∀ m, m + 1 = i → (hm : m < fs.length) → ltKy ((fs[i]).a, (fs[i]).b) ((fs[m]).a, (fs[m]).b) = false) := fun m hm1 hm => by
                    subst hm1
                    have := overW_next (l := fs.map Fd.fnd) HFS.out (i := m) (by rw [List.length_map]; exact hlt)
                    rw [List.getElem_map, List.getElem_map] at this
                    exact this
                  have HFKY : Hid (FitKy ((fs[i]).a, (fs[i]).b)) := by
                    rcases List.mem_append.1 ((sortP_mem _ _).1 hmem) with h | h
                    · obtain ⟨f, hf, he⟩ := List.mem_map.1 (List.mem_filter.1 h).1
                      have h2 : FitKy f.fnd.1 := HFK.out f hf
                      rw [he] at h2
                      exact h2
                    · obtain ⟨v', h1, _⟩ := hitsW_mem h
                      exact fitKy_key (HOK.out.key _ h1)
                  clear k1 hmem
                  generalize fs[i] = f at *
                  obtain ⟨V, hV⟩ : ∃ V, wr.alloc (.cells (encFd f).toArray 49) = V := ⟨_, rfl⟩
                  obtain ⟨O, hO⟩ : ∃ O, wr.heap.size = O := ⟨_, rfl⟩
                  have hbV : Below wr.heap.size wr V := by rw [← hV]; exact (Below.refl _ _).alloc (Nat.le_refl _) _
                  have hVo : V.heap[O]? = some (.cells (encFd f).toArray 49 (0, 0)) := by rw [← hV, ← hO]; exact heap_alloc_new wr _
                  have hPV := HJ.out.1.on hbV
                  have HG := hid (HGET.out (f.a, f.b) _ hPV HFKY.out)
                  have HKC : Hid (∀ W, Below V.heap.size V W → CellsF W O 0 f) := fun W hW => by
                    have := (hW.block O (Array.getElem?_eq_some_iff.1 hVo).1).trans hVo
                    obtain ⟨fa, fb, ⟨fn, fq, ft, fl, fp, fc, fx⟩⟩ := f
                    exact ⟨by rw [Lib.cell_of_heap this]; rfl, by rw [Lib.cell_of_heap this]; rfl, by rw [Lib.cell_of_heap this]; rfl, by rw [Lib.cell_of_heap this]; rfl, by rw [Lib.cell_of_heap this]; rfl, by rw [Lib.cell_of_heap this]; rfl, by rw [Lib.cell_of_heap this]; rfl⟩
                  have HNX : Hid (∀ W, Below V.heap.size V W → PrgS S n0 w1 g L W ∧ Below wo.heap.size wo W) := fun W hW => ⟨hPV.on hW, bel_then HJ.out.2 HJ.out.2.size (bel_then hbV hbV.size hW)⟩
                  clear hbV hVo hPV HJ HFKY
                  obtain ⟨fa, fb, ⟨fn, fq, ft, fl, fp, fc, fx⟩⟩ := f
                  simp only [encFd, encVx, Vx.sl, CellsF, CellsV, Nat.zero_add] at *
                  obtain ⟨v0, v1, v2, v3, v4, v5, v6⟩ := HKC.out V (Below.refl _ _)
                  go_wp2_with fail
                  try rw [hV]
                  try rw [hO]
                  refine HG.out.mono ?_
                  rintro e w5 ⟨p5, f5, o5, rfl, hJ5, ho5, hb5⟩
                  obtain ⟨v0, v1, v2, v3, v4, v5, v6⟩ := HKC.out w5 hb5
                  have HB5 := hid hb5
                  have HNX5 : Hid (∀ W, Below w5.heap.size w5 W → Below V.heap.size V W) := fun W hW => bel_then hb5 hb5.size hW
                  have HSF : Hid (∀ v', getW L (fa, fb) = some (some v') → fx.map Fx.fld = v' → Calls Try.prog 12 #[.slice p5 o5.length f5, .slice fp fx.length fc] w5 fun r w3 => r = .returned (.bool true) ∧ Below w5.heap.size w5 w3) := fun v' hg he => by
                    have hb35 := (HNX.out w5 hb5).2
                    rw [hg] at ho5
                    have hvl : o5.map Fx.fld = fx.map Fx.fld := ho5.trans he.symm
                    have := sameF_any (.slice p5 o5.length f5) (.slice fp fx.length fc) o5 fx w5 hJ5.1.is (HVV.out.1.on hb35).1.is (fitX_same hvl HVV.out.2) HVV.out.2
                    rw [decide_eq_true hvl] at this
                    refine this.mono ?_
                    rintro r w3 ⟨rfl, n, rfl⟩
                    exact ⟨rfl, bel_drewN (Below.refl _ _) n⟩
                  clear hJ5 ho5 hb5 HG hV hO
                  go_upto_region 31 with fail
                  go_cut [25, 26, 149] from 100 to 191 (fun c25 c26 c wx => c25 = c25 ∧ c26 = c26 ∧ c = .bool false ∧ Hid (Below w5.heap.size w5 wx))
                  case first =>
                    rcases HMEM.out with hg | ⟨v', hg, htt, hvv, hz1, hz2, hz3⟩
                    · rw [hg]
                      have hr1 : liveW none = false := rfl
                      have hr2 : (none : Option Wr).isSome = false := rfl
                      rw [hr1, hr2]
                      clear HMEM HSF HKC HNX HCL HNXT hr1 hr2 hg
                      go_wp2_with fail
                      go_meet
                      exact ⟨trivial, trivial, rfl, Below.refl _ _⟩
                    · have HS5 := hid (HSF.out v' hg hvv)
                      rw [hg]
                      have hr1 : liveW (some (some v')) = true := rfl
                      have hr2 : (some (some v') : Option Wr).isSome = true := rfl
                      rw [hr1, hr2]
                      have hte : (fa.toList == typ.toList) = true := seq_true htt
                      subst hz1 hz2 hz3
                      clear HMEM HSF HNX HCL HNXT hr1 hr2 hg htt hvv
                      go_wp2_with fail
                      refine HS5.out.mono ?_
                      rintro e w6 ⟨rfl, hb6⟩
                      have HB6 := hid hb6
                      obtain ⟨v0, v1, v2, v3, v4, v5, v6⟩ := HKC.out w6 (HNX5.out w6 hb6)
                      clear hb6 HS5 HKC
                      go_wp2_with fail
                      go_meet
                      exact ⟨trivial, trivial, rfl, HB6.out⟩
                  case rest =>
                    obtain ⟨_, _, rfl, HBC⟩ := hcut
                    have hbVc := HNX5.out wc HBC.out
                    obtain ⟨x0, x1, _⟩ := HKC.out wc hbVc
                    have HNE : Hid (PrgS S n0 w1 g L wc.drew ∧ Below wo.heap.size wo wc.drew) := ⟨(HNX.out wc hbVc).1.on (bel_drewN (Below.refl _ _) 1), bel_drewN (HNX.out wc hbVc).2 1⟩
                    by_cases hpos : 0 < i
                    · obtain ⟨m, hm⟩ : ∃ m, i = m + 1 := ⟨i - 1, by omega⟩
                      have hmk : m < fs.length := by omega
                      obtain ⟨z0, z1, _⟩ := HCL.out m hmk wc (HNX.out wc hbVc).2
                      have hnl := HNXT.out m hm.symm hmk
                      generalize fs[m] = M at *
                      obtain ⟨ma, mb, mv⟩ := M
                      simp only at z0 z1 hnl
                      have hdj : decide ((0 : Int) < (i : Int)) = true := decide_eq_true (by omega)
                      have hm0 : (0 : Int) ≤ (m : Int) := by omega
                      have hm1 : (m : Int) < (fs.length : Int) := by omega
                      have hw1 : wrap64 ((i : Int) - 1) = (m : Int) := by simp [wrap64]; omega
                      have hw2 : IntKind.i64.wrap ((i : Int) - 1) = (m : Int) := by rw [IntKind.wrap_i64]; omega
                      have hw3 : IntKind.i64.wrap (m : Int) = (m : Int) := by rw [IntKind.wrap_i64]; omega
                      clear HMEM HSF HKC HNX HCL HNXT HNX5 HBC hbVc hm
                      go_wp2_with fail
                      rcases lt_cases hnl with ⟨h1, h2⟩ | ⟨h1, h2⟩
                      · have q1 : Op.bytesLess ma.toList fa.toList = true := sless_of h1
                        have q2 : (ma.toList == fa.toList) = false := seq_false h2
                        clear h1 h2 hnl
                        refine wp_region_held_drew (S := fun w' => w'.cell? ⟨O, 0, none⟩ = some (.string fa) ∧ w'.cell? ⟨O, 1, none⟩ = some (.string fb) ∧ w'.cell? ⟨bu, ou + m * 7, none⟩ = some (.string ma) ∧ w'.cell? ⟨bu, ou + m * 7 + 1, none⟩ = some (.string mb)) (by kernel_rfl) ⟨x0, x1, z0, z1⟩ (fun hHeld => ?_)
                        refine take_val (i := 0) (.int .i64 i) rfl (by kernel_rfl) (by kernel_rfl) (by kernel_rfl) (fun _ _ _ h => h) (by rfl) (fun w hSw => by go_simp) hHeld ?_
                        simp only [Act.put, List.setIfInBounds_toArray, List.set_cons_zero, List.set_cons_succ]
                        refine take_val (i := 1) (.bool true) rfl (by kernel_rfl) (by kernel_rfl) (by kernel_rfl) (fun _ _ _ h => h) (by rfl) (fun w hSw => by go_simp) hHeld ?_
                        simp only [Act.put, List.setIfInBounds_toArray, List.set_cons_zero, List.set_cons_succ]
                        refine take_val (i := 2) (.bool true) rfl (by kernel_rfl) (by kernel_rfl) (by kernel_rfl) (fun _ _ _ h => h) (by rfl) (fun w hSw => by go_simp) hHeld ?_
                        simp only [Act.put, List.setIfInBounds_toArray, List.set_cons_zero, List.set_cons_succ]
                        refine take_val (i := 3) (.slice (some ⟨bu, ou, none⟩) fs.length cu) rfl (by kernel_rfl) (by kernel_rfl) (by kernel_rfl) (fun _ _ _ h => h) (by rfl) (fun w hSw => by go_simp) hHeld ?_
                        simp only [Act.put, List.setIfInBounds_toArray, List.set_cons_zero, List.set_cons_succ]
                        refine take_val (i := 4) (.int .i64 i) rfl (by kernel_rfl) (by kernel_rfl) (by kernel_rfl) (fun _ _ _ h => h) (by rfl) (fun w hSw => by go_simp) hHeld ?_
                        simp only [Act.put, List.setIfInBounds_toArray, List.set_cons_zero, List.set_cons_succ]
                        refine take_val (i := 5) (.int .i64 m) rfl (by kernel_rfl) (by kernel_rfl) (by kernel_rfl) (fun _ _ _ h => h) (by rfl) (fun w hSw => by go_simp) hHeld ?_
                        simp only [Act.put, List.setIfInBounds_toArray, List.set_cons_zero, List.set_cons_succ]
                        refine take_val (i := 6) (.pointer (some ⟨bu, ou + m * 7, none⟩)) rfl (by kernel_rfl) (by kernel_rfl) (by kernel_rfl) (fun _ _ _ h => h) (by rfl) (fun w hSw => by go_simp) hHeld ?_
                        simp only [Act.put, List.setIfInBounds_toArray, List.set_cons_zero, List.set_cons_succ]
                        refine take_val (i := 7) (.pointer (some ⟨bu, ou + m * 7, none⟩)) rfl (by kernel_rfl) (by kernel_rfl) (by kernel_rfl) (fun _ _ _ h => h) (by rfl) (fun w hSw => by go_simp) hHeld ?_
                        simp only [Act.put, List.setIfInBounds_toArray, List.set_cons_zero, List.set_cons_succ]
                        refine take_val (i := 8) (.pointer (some ⟨bu, ou + m * 7, none⟩)) rfl (by kernel_rfl) (by kernel_rfl) (by kernel_rfl) (fun _ _ _ h => h) (by rfl) (fun w hSw => by go_simp) hHeld ?_
                        simp only [Act.put, List.setIfInBounds_toArray, List.set_cons_zero, List.set_cons_succ]
                        refine take_val (i := 9) (.string ma) rfl (by kernel_rfl) (by kernel_rfl) (by kernel_rfl) (fun _ _ _ h => h) (by rfl) (fun w hSw => by go_simp) hHeld ?_
                        simp only [Act.put, List.setIfInBounds_toArray, List.set_cons_zero, List.set_cons_succ]
                        refine take_val (i := 10) (.pointer (some ⟨O, 0, none⟩)) rfl (by kernel_rfl) (by kernel_rfl) (by kernel_rfl) (fun _ _ _ h => h) (by rfl) (fun w hSw => by go_simp) hHeld ?_
                        simp only [Act.put, List.setIfInBounds_toArray, List.set_cons_zero, List.set_cons_succ]
                        refine take_val (i := 11) (.pointer (some ⟨O, 0, none⟩)) rfl (by kernel_rfl) (by kernel_rfl) (by kernel_rfl) (fun _ _ _ h => h) (by rfl) (fun w hSw => by go_simp) hHeld ?_
                        simp only [Act.put, List.setIfInBounds_toArray, List.set_cons_zero, List.set_cons_succ]
                        refine take_val (i := 12) (.string fa) rfl (by kernel_rfl) (by kernel_rfl) (by kernel_rfl) (fun _ _ _ h => h) (by rfl) (fun w hSw => by go_simp) hHeld ?_
                        simp only [Act.put, List.setIfInBounds_toArray, List.set_cons_zero, List.set_cons_succ]
                        refine take_val (i := 13) (.bool false) rfl (by kernel_rfl) (by kernel_rfl) (by kernel_rfl) (fun _ _ _ h => h) (by rfl) (fun w hSw => by go_simp) hHeld ?_
                        simp only [Act.put, List.setIfInBounds_toArray, List.set_cons_zero, List.set_cons_succ]
                        refine take_val (i := 14) (.bool false) rfl (by kernel_rfl) (by kernel_rfl) (by kernel_rfl) (fun _ _ _ h => h) (by rfl) (fun w hSw => by go_simp) hHeld ?_
                        simp only [Act.put, List.setIfInBounds_toArray, List.set_cons_zero, List.set_cons_succ]
                        refine take_val (i := 15) (.slice (some ⟨bu, ou, none⟩) fs.length cu) rfl (by kernel_rfl) (by kernel_rfl) (by kernel_rfl) (fun _ _ _ h => h) (by rfl) (fun w hSw => by go_simp) hHeld ?_
                        simp only [Act.put, List.setIfInBounds_toArray, List.set_cons_zero, List.set_cons_succ]
                        refine take_val (i := 16) (.int .i64 i) rfl (by kernel_rfl) (by kernel_rfl) (by kernel_rfl) (fun _ _ _ h => h) (by rfl) (fun w hSw => by go_simp) hHeld ?_
                        simp only [Act.put, List.setIfInBounds_toArray, List.set_cons_zero, List.set_cons_succ]
                        refine take_val (i := 17) (.int .i64 m) rfl (by kernel_rfl) (by kernel_rfl) (by kernel_rfl) (fun _ _ _ h => h) (by rfl) (fun w hSw => by go_simp) hHeld ?_
                        simp only [Act.put, List.setIfInBounds_toArray, List.set_cons_zero, List.set_cons_succ]
                        refine take_val (i := 18) (.pointer (some ⟨bu, ou + m * 7, none⟩)) rfl (by kernel_rfl) (by kernel_rfl) (by kernel_rfl) (fun _ _ _ h => h) (by rfl) (fun w hSw => by go_simp) hHeld ?_
                        simp only [Act.put, List.setIfInBounds_toArray, List.set_cons_zero, List.set_cons_succ]
                        refine take_val (i := 19) (.pointer (some ⟨bu, ou + m * 7, none⟩)) rfl (by kernel_rfl) (by kernel_rfl) (by kernel_rfl) (fun _ _ _ h => h) (by rfl) (fun w hSw => by go_simp) hHeld ?_
                        simp only [Act.put, List.setIfInBounds_toArray, List.set_cons_zero, List.set_cons_succ]
                        refine take_val (i := 20) (.pointer (some ⟨bu, ou + m * 7, none⟩)) rfl (by kernel_rfl) (by kernel_rfl) (by kernel_rfl) (fun _ _ _ h => h) (by rfl) (fun w hSw => by go_simp) hHeld ?_
                        simp only [Act.put, List.setIfInBounds_toArray, List.set_cons_zero, List.set_cons_succ]
                        refine take_val (i := 21) (.string ma) rfl (by kernel_rfl) (by kernel_rfl) (by kernel_rfl) (fun _ _ _ h => h) (by rfl) (fun w hSw => by go_simp) hHeld ?_
                        simp only [Act.put, List.setIfInBounds_toArray, List.set_cons_zero, List.set_cons_succ]
                        refine take_val (i := 22) (.pointer (some ⟨O, 0, none⟩)) rfl (by kernel_rfl) (by kernel_rfl) (by kernel_rfl) (fun _ _ _ h => h) (by rfl) (fun w hSw => by go_simp) hHeld ?_
                        simp only [Act.put, List.setIfInBounds_toArray, List.set_cons_zero, List.set_cons_succ]
                        refine take_val (i := 23) (.pointer (some ⟨O, 0, none⟩)) rfl (by kernel_rfl) (by kernel_rfl) (by kernel_rfl) (fun _ _ _ h => h) (by rfl) (fun w hSw => by go_simp) hHeld ?_
                        simp only [Act.put, List.setIfInBounds_toArray, List.set_cons_zero, List.set_cons_succ]
                        refine take_val (i := 24) (.string fa) rfl (by kernel_rfl) (by kernel_rfl) (by kernel_rfl) (fun _ _ _ h => h) (by rfl) (fun w hSw => by go_simp) hHeld ?_
                        simp only [Act.put, List.setIfInBounds_toArray, List.set_cons_zero, List.set_cons_succ]
                        refine take_val (i := 25) (.bool false) rfl (by kernel_rfl) (by kernel_rfl) (by kernel_rfl) (fun _ _ _ h => h) (by rfl) (fun w hSw => by go_simp) hHeld ?_
                        simp only [Act.put, List.setIfInBounds_toArray, List.set_cons_zero, List.set_cons_succ]
                        refine take_val (i := 26) (.bool false) rfl (by kernel_rfl) (by kernel_rfl) (by kernel_rfl) (fun _ _ _ h => h) (by rfl) (fun w hSw => by go_simp) hHeld ?_
                        simp only [Act.put, List.setIfInBounds_toArray, List.set_cons_zero, List.set_cons_succ]
                        refine take_not (i := 27) rfl (by kernel_rfl) (by kernel_rfl) (by kernel_rfl) (fun _ _ _ h => h) (by rfl) hHeld ?_
                        simp only [Act.put, List.setIfInBounds_toArray, List.set_cons_zero, List.set_cons_succ]
                        refine take_not (i := 28) rfl (by kernel_rfl) (by kernel_rfl) (by kernel_rfl) (fun _ _ _ h => h) (by rfl) hHeld ?_
                        simp only [Act.put, List.setIfInBounds_toArray, List.set_cons_zero, List.set_cons_succ]
                        refine take_not (i := 29) rfl (by kernel_rfl) (by kernel_rfl) (by kernel_rfl) (fun _ _ _ h => h) (by rfl) hHeld ?_
                        simp only [Act.put, List.setIfInBounds_toArray, List.set_cons_zero, List.set_cons_succ]
                        refine take_not (i := 30) rfl (by kernel_rfl) (by kernel_rfl) (by kernel_rfl) (fun _ _ _ h => h) (by rfl) hHeld ?_
                        simp only [Act.put, List.setIfInBounds_toArray, List.set_cons_zero, List.set_cons_succ]
                        refine take_not (i := 31) rfl (by kernel_rfl) (by kernel_rfl) (by kernel_rfl) (fun _ _ _ h => h) (by rfl) hHeld ?_
                        simp only [Act.put, List.setIfInBounds_toArray, List.set_cons_zero, List.set_cons_succ]
                        refine take_not (i := 32) rfl (by kernel_rfl) (by kernel_rfl) (by kernel_rfl) (fun _ _ _ h => h) (by rfl) hHeld ?_
                        simp only [Act.put, List.setIfInBounds_toArray, List.set_cons_zero, List.set_cons_succ]
                        refine take_not (i := 33) rfl (by kernel_rfl) (by kernel_rfl) (by kernel_rfl) (fun _ _ _ h => h) (by rfl) hHeld ?_
                        simp only [Act.put, List.setIfInBounds_toArray, List.set_cons_zero, List.set_cons_succ]
                        refine take_not (i := 34) rfl (by kernel_rfl) (by kernel_rfl) (by kernel_rfl) (fun _ _ _ h => h) (by rfl) hHeld ?_
                        simp only [Act.put, List.setIfInBounds_toArray, List.set_cons_zero, List.set_cons_succ]
                        refine take_not (i := 35) rfl (by kernel_rfl) (by kernel_rfl) (by kernel_rfl) (fun _ _ _ h => h) (by rfl) hHeld ?_
                        simp only [Act.put, List.setIfInBounds_toArray, List.set_cons_zero, List.set_cons_succ]
                        refine take_not (i := 36) rfl (by kernel_rfl) (by kernel_rfl) (by kernel_rfl) (fun _ _ _ h => h) (by rfl) hHeld ?_
                        simp only [Act.put, List.setIfInBounds_toArray, List.set_cons_zero, List.set_cons_succ]
                        refine take_not (i := 37) rfl (by kernel_rfl) (by kernel_rfl) (by kernel_rfl) (fun _ _ _ h => h) (by rfl) hHeld ?_
                        simp only [Act.put, List.setIfInBounds_toArray, List.set_cons_zero, List.set_cons_succ]
                        refine take_val (i := 38) (.bool false) rfl (by kernel_rfl) (by kernel_rfl) (by kernel_rfl) (fun _ _ _ h => h) (by rfl) (fun w hSw => by go_simp) hHeld ?_
                        simp only [Act.put, List.setIfInBounds_toArray, List.set_cons_zero, List.set_cons_succ]
                        refine take_val (i := 39) (.bool false) rfl (by kernel_rfl) (by kernel_rfl) (by kernel_rfl) (fun _ _ _ h => h) (by rfl) (fun w hSw => by go_simp) hHeld ?_
                        simp only [Act.put, List.setIfInBounds_toArray, List.set_cons_zero, List.set_cons_succ]
                        refine take_val (i := 40) (.bool false) rfl (by kernel_rfl) (by kernel_rfl) (by kernel_rfl) (fun _ _ _ h => h) (by rfl) (fun w hSw => by go_simp) hHeld ?_
                        simp only [Act.put, List.setIfInBounds_toArray, List.set_cons_zero, List.set_cons_succ]
                        refine wpAnyH_done (by kernel_rfl) ?_ _
                        clear hHeld hw1 hw2 hw3
                        go_wp2_with fail
                        go_roundg (fs.length - (i + 1))
                        case measure => omega
                        exact ⟨i + 1, by go_num, by omega, by omega, HNE.out⟩
                      · have q1 : Op.bytesLess ma.toList fa.toList = false := by rw [h1]; exact sless_of (ltB_irrefl fa)
                        have q2 : (ma.toList == fa.toList) = true := seq_true h1
                        rcases h2 with h2 | h2
                        · have q3 : Op.bytesLess mb.toList fb.toList = true := sless_of h2
                          clear h1 h2 hnl
                          refine wp_region_held_drew (S := fun w' => w'.cell? ⟨O, 0, none⟩ = some (.string fa) ∧ w'.cell? ⟨O, 1, none⟩ = some (.string fb) ∧ w'.cell? ⟨bu, ou + m * 7, none⟩ = some (.string ma) ∧ w'.cell? ⟨bu, ou + m * 7 + 1, none⟩ = some (.string mb)) (by kernel_rfl) ⟨x0, x1, z0, z1⟩ (fun hHeld => ?_)
                          refine take_val (i := 0) (.int .i64 i) rfl (by kernel_rfl) (by kernel_rfl) (by kernel_rfl) (fun _ _ _ h => h) (by rfl) (fun w hSw => by go_simp) hHeld ?_
                          simp only [Act.put, List.setIfInBounds_toArray, List.set_cons_zero, List.set_cons_succ]
                          refine take_val (i := 1) (.bool true) rfl (by kernel_rfl) (by kernel_rfl) (by kernel_rfl) (fun _ _ _ h => h) (by rfl) (fun w hSw => by go_simp) hHeld ?_
                          simp only [Act.put, List.setIfInBounds_toArray, List.set_cons_zero, List.set_cons_succ]
                          refine take_val (i := 2) (.bool true) rfl (by kernel_rfl) (by kernel_rfl) (by kernel_rfl) (fun _ _ _ h => h) (by rfl) (fun w hSw => by go_simp) hHeld ?_
                          simp only [Act.put, List.setIfInBounds_toArray, List.set_cons_zero, List.set_cons_succ]
                          refine take_val (i := 3) (.slice (some ⟨bu, ou, none⟩) fs.length cu) rfl (by kernel_rfl) (by kernel_rfl) (by kernel_rfl) (fun _ _ _ h => h) (by rfl) (fun w hSw => by go_simp) hHeld ?_
                          simp only [Act.put, List.setIfInBounds_toArray, List.set_cons_zero, List.set_cons_succ]
                          refine take_val (i := 4) (.int .i64 i) rfl (by kernel_rfl) (by kernel_rfl) (by kernel_rfl) (fun _ _ _ h => h) (by rfl) (fun w hSw => by go_simp) hHeld ?_
                          simp only [Act.put, List.setIfInBounds_toArray, List.set_cons_zero, List.set_cons_succ]
                          refine take_val (i := 5) (.int .i64 m) rfl (by kernel_rfl) (by kernel_rfl) (by kernel_rfl) (fun _ _ _ h => h) (by rfl) (fun w hSw => by go_simp) hHeld ?_
                          simp only [Act.put, List.setIfInBounds_toArray, List.set_cons_zero, List.set_cons_succ]
                          refine take_val (i := 6) (.pointer (some ⟨bu, ou + m * 7, none⟩)) rfl (by kernel_rfl) (by kernel_rfl) (by kernel_rfl) (fun _ _ _ h => h) (by rfl) (fun w hSw => by go_simp) hHeld ?_
                          simp only [Act.put, List.setIfInBounds_toArray, List.set_cons_zero, List.set_cons_succ]
                          refine take_val (i := 7) (.pointer (some ⟨bu, ou + m * 7, none⟩)) rfl (by kernel_rfl) (by kernel_rfl) (by kernel_rfl) (fun _ _ _ h => h) (by rfl) (fun w hSw => by go_simp) hHeld ?_
                          simp only [Act.put, List.setIfInBounds_toArray, List.set_cons_zero, List.set_cons_succ]
                          refine take_val (i := 8) (.pointer (some ⟨bu, ou + m * 7, none⟩)) rfl (by kernel_rfl) (by kernel_rfl) (by kernel_rfl) (fun _ _ _ h => h) (by rfl) (fun w hSw => by go_simp) hHeld ?_
                          simp only [Act.put, List.setIfInBounds_toArray, List.set_cons_zero, List.set_cons_succ]
                          refine take_val (i := 9) (.string ma) rfl (by kernel_rfl) (by kernel_rfl) (by kernel_rfl) (fun _ _ _ h => h) (by rfl) (fun w hSw => by go_simp) hHeld ?_
                          simp only [Act.put, List.setIfInBounds_toArray, List.set_cons_zero, List.set_cons_succ]
                          refine take_val (i := 10) (.pointer (some ⟨O, 0, none⟩)) rfl (by kernel_rfl) (by kernel_rfl) (by kernel_rfl) (fun _ _ _ h => h) (by rfl) (fun w hSw => by go_simp) hHeld ?_
                          simp only [Act.put, List.setIfInBounds_toArray, List.set_cons_zero, List.set_cons_succ]
                          refine take_val (i := 11) (.pointer (some ⟨O, 0, none⟩)) rfl (by kernel_rfl) (by kernel_rfl) (by kernel_rfl) (fun _ _ _ h => h) (by rfl) (fun w hSw => by go_simp) hHeld ?_
                          simp only [Act.put, List.setIfInBounds_toArray, List.set_cons_zero, List.set_cons_succ]
                          refine take_val (i := 12) (.string fa) rfl (by kernel_rfl) (by kernel_rfl) (by kernel_rfl) (fun _ _ _ h => h) (by rfl) (fun w hSw => by go_simp) hHeld ?_
                          simp only [Act.put, List.setIfInBounds_toArray, List.set_cons_zero, List.set_cons_succ]
                          refine take_val (i := 13) (.bool false) rfl (by kernel_rfl) (by kernel_rfl) (by kernel_rfl) (fun _ _ _ h => h) (by rfl) (fun w hSw => by go_simp) hHeld ?_
                          simp only [Act.put, List.setIfInBounds_toArray, List.set_cons_zero, List.set_cons_succ]
                          refine take_val (i := 14) (.bool false) rfl (by kernel_rfl) (by kernel_rfl) (by kernel_rfl) (fun _ _ _ h => h) (by rfl) (fun w hSw => by go_simp) hHeld ?_
                          simp only [Act.put, List.setIfInBounds_toArray, List.set_cons_zero, List.set_cons_succ]
                          refine take_val (i := 15) (.slice (some ⟨bu, ou, none⟩) fs.length cu) rfl (by kernel_rfl) (by kernel_rfl) (by kernel_rfl) (fun _ _ _ h => h) (by rfl) (fun w hSw => by go_simp) hHeld ?_
                          simp only [Act.put, List.setIfInBounds_toArray, List.set_cons_zero, List.set_cons_succ]
                          refine take_val (i := 16) (.int .i64 i) rfl (by kernel_rfl) (by kernel_rfl) (by kernel_rfl) (fun _ _ _ h => h) (by rfl) (fun w hSw => by go_simp) hHeld ?_
                          simp only [Act.put, List.setIfInBounds_toArray, List.set_cons_zero, List.set_cons_succ]
                          refine take_val (i := 17) (.int .i64 m) rfl (by kernel_rfl) (by kernel_rfl) (by kernel_rfl) (fun _ _ _ h => h) (by rfl) (fun w hSw => by go_simp) hHeld ?_
                          simp only [Act.put, List.setIfInBounds_toArray, List.set_cons_zero, List.set_cons_succ]
                          refine take_val (i := 18) (.pointer (some ⟨bu, ou + m * 7, none⟩)) rfl (by kernel_rfl) (by kernel_rfl) (by kernel_rfl) (fun _ _ _ h => h) (by rfl) (fun w hSw => by go_simp) hHeld ?_
                          simp only [Act.put, List.setIfInBounds_toArray, List.set_cons_zero, List.set_cons_succ]
                          refine take_val (i := 19) (.pointer (some ⟨bu, ou + m * 7, none⟩)) rfl (by kernel_rfl) (by kernel_rfl) (by kernel_rfl) (fun _ _ _ h => h) (by rfl) (fun w hSw => by go_simp) hHeld ?_
                          simp only [Act.put, List.setIfInBounds_toArray, List.set_cons_zero, List.set_cons_succ]
                          refine take_val (i := 20) (.pointer (some ⟨bu, ou + m * 7, none⟩)) rfl (by kernel_rfl) (by kernel_rfl) (by kernel_rfl) (fun _ _ _ h => h) (by rfl) (fun w hSw => by go_simp) hHeld ?_
                          simp only [Act.put, List.setIfInBounds_toArray, List.set_cons_zero, List.set_cons_succ]
                          refine take_val (i := 21) (.string ma) rfl (by kernel_rfl) (by kernel_rfl) (by kernel_rfl) (fun _ _ _ h => h) (by rfl) (fun w hSw => by go_simp) hHeld ?_
                          simp only [Act.put, List.setIfInBounds_toArray, List.set_cons_zero, List.set_cons_succ]
                          refine take_val (i := 22) (.pointer (some ⟨O, 0, none⟩)) rfl (by kernel_rfl) (by kernel_rfl) (by kernel_rfl) (fun _ _ _ h => h) (by rfl) (fun w hSw => by go_simp) hHeld ?_
                          simp only [Act.put, List.setIfInBounds_toArray, List.set_cons_zero, List.set_cons_succ]
                          refine take_val (i := 23) (.pointer (some ⟨O, 0, none⟩)) rfl (by kernel_rfl) (by kernel_rfl) (by kernel_rfl) (fun _ _ _ h => h) (by rfl) (fun w hSw => by go_simp) hHeld ?_
                          simp only [Act.put, List.setIfInBounds_toArray, List.set_cons_zero, List.set_cons_succ]
                          refine take_val (i := 24) (.string fa) rfl (by kernel_rfl) (by kernel_rfl) (by kernel_rfl) (fun _ _ _ h => h) (by rfl) (fun w hSw => by go_simp) hHeld ?_
                          simp only [Act.put, List.setIfInBounds_toArray, List.set_cons_zero, List.set_cons_succ]
                          refine take_val (i := 25) (.bool true) rfl (by kernel_rfl) (by kernel_rfl) (by kernel_rfl) (fun _ _ _ h => h) (by rfl) (fun w hSw => by go_simp) hHeld ?_
                          simp only [Act.put, List.setIfInBounds_toArray, List.set_cons_zero, List.set_cons_succ]
                          refine take_val (i := 26) (.bool true) rfl (by kernel_rfl) (by kernel_rfl) (by kernel_rfl) (fun _ _ _ h => h) (by rfl) (fun w hSw => by go_simp) hHeld ?_
                          simp only [Act.put, List.setIfInBounds_toArray, List.set_cons_zero, List.set_cons_succ]
                          refine take_val (i := 27) (.slice (some ⟨bu, ou, none⟩) fs.length cu) rfl (by kernel_rfl) (by kernel_rfl) (by kernel_rfl) (fun _ _ _ h => h) (by rfl) (fun w hSw => by go_simp) hHeld ?_
                          simp only [Act.put, List.setIfInBounds_toArray, List.set_cons_zero, List.set_cons_succ]
                          refine take_val (i := 28) (.int .i64 i) rfl (by kernel_rfl) (by kernel_rfl) (by kernel_rfl) (fun _ _ _ h => h) (by rfl) (fun w hSw => by go_simp) hHeld ?_
                          simp only [Act.put, List.setIfInBounds_toArray, List.set_cons_zero, List.set_cons_succ]
                          refine take_val (i := 29) (.int .i64 m) rfl (by kernel_rfl) (by kernel_rfl) (by kernel_rfl) (fun _ _ _ h => h) (by rfl) (fun w hSw => by go_simp) hHeld ?_
                          simp only [Act.put, List.setIfInBounds_toArray, List.set_cons_zero, List.set_cons_succ]
                          refine take_val (i := 30) (.pointer (some ⟨bu, ou + m * 7, none⟩)) rfl (by kernel_rfl) (by kernel_rfl) (by kernel_rfl) (fun _ _ _ h => h) (by rfl) (fun w hSw => by go_simp) hHeld ?_
                          simp only [Act.put, List.setIfInBounds_toArray, List.set_cons_zero, List.set_cons_succ]
                          refine take_val (i := 31) (.pointer (some ⟨bu, ou + m * 7, none⟩)) rfl (by kernel_rfl) (by kernel_rfl) (by kernel_rfl) (fun _ _ _ h => h) (by rfl) (fun w hSw => by go_simp) hHeld ?_
                          simp only [Act.put, List.setIfInBounds_toArray, List.set_cons_zero, List.set_cons_succ]
                          refine take_val (i := 32) (.pointer (some ⟨bu, ou + m * 7 + 1, none⟩)) rfl (by kernel_rfl) (by kernel_rfl) (by kernel_rfl) (fun _ _ _ h => h) (by rfl) (fun w hSw => by go_simp) hHeld ?_
                          simp only [Act.put, List.setIfInBounds_toArray, List.set_cons_zero, List.set_cons_succ]
                          refine take_val (i := 33) (.string mb) rfl (by kernel_rfl) (by kernel_rfl) (by kernel_rfl) (fun _ _ _ h => h) (by rfl) (fun w hSw => by go_simp) hHeld ?_
                          simp only [Act.put, List.setIfInBounds_toArray, List.set_cons_zero, List.set_cons_succ]
                          refine take_val (i := 34) (.pointer (some ⟨O, 0, none⟩)) rfl (by kernel_rfl) (by kernel_rfl) (by kernel_rfl) (fun _ _ _ h => h) (by rfl) (fun w hSw => by go_simp) hHeld ?_
                          simp only [Act.put, List.setIfInBounds_toArray, List.set_cons_zero, List.set_cons_succ]
                          refine take_val (i := 35) (.pointer (some ⟨O, 1, none⟩)) rfl (by kernel_rfl) (by kernel_rfl) (by kernel_rfl) (fun _ _ _ h => h) (by rfl) (fun w hSw => by go_simp) hHeld ?_
                          simp only [Act.put, List.setIfInBounds_toArray, List.set_cons_zero, List.set_cons_succ]
                          refine take_val (i := 36) (.string fb) rfl (by kernel_rfl) (by kernel_rfl) (by kernel_rfl) (fun _ _ _ h => h) (by rfl) (fun w hSw => by go_simp) hHeld ?_
                          simp only [Act.put, List.setIfInBounds_toArray, List.set_cons_zero, List.set_cons_succ]
                          refine take_val (i := 37) (.bool false) rfl (by kernel_rfl) (by kernel_rfl) (by kernel_rfl) (fun _ _ _ h => h) (by rfl) (fun w hSw => by go_simp) hHeld ?_
                          simp only [Act.put, List.setIfInBounds_toArray, List.set_cons_zero, List.set_cons_succ]
                          refine take_val (i := 38) (.bool false) rfl (by kernel_rfl) (by kernel_rfl) (by kernel_rfl) (fun _ _ _ h => h) (by rfl) (fun w hSw => by go_simp) hHeld ?_
                          simp only [Act.put, List.setIfInBounds_toArray, List.set_cons_zero, List.set_cons_succ]
                          refine take_val (i := 39) (.bool false) rfl (by kernel_rfl) (by kernel_rfl) (by kernel_rfl) (fun _ _ _ h => h) (by rfl) (fun w hSw => by go_simp) hHeld ?_
                          simp only [Act.put, List.setIfInBounds_toArray, List.set_cons_zero, List.set_cons_succ]
                          refine take_val (i := 40) (.bool false) rfl (by kernel_rfl) (by kernel_rfl) (by kernel_rfl) (fun _ _ _ h => h) (by rfl) (fun w hSw => by go_simp) hHeld ?_
                          simp only [Act.put, List.setIfInBounds_toArray, List.set_cons_zero, List.set_cons_succ]
                          refine wpAnyH_done (by kernel_rfl) ?_ _
                          clear hHeld hw1 hw2 hw3
                          go_wp2_with fail
                          go_roundg (fs.length - (i + 1))
                          case measure => omega
                          exact ⟨i + 1, by go_num, by omega, by omega, HNE.out⟩
                        · have q3 : Op.bytesLess mb.toList fb.toList = false := by rw [h2]; exact sless_of (ltB_irrefl fb)
                          have q4 : (mb.toList == fb.toList) = true := seq_true h2
                          clear h1 h2 hnl
                          refine wp_region_held_drew (S := fun w' => w'.cell? ⟨O, 0, none⟩ = some (.string fa) ∧ w'.cell? ⟨O, 1, none⟩ = some (.string fb) ∧ w'.cell? ⟨bu, ou + m * 7, none⟩ = some (.string ma) ∧ w'.cell? ⟨bu, ou + m * 7 + 1, none⟩ = some (.string mb)) (by kernel_rfl) ⟨x0, x1, z0, z1⟩ (fun hHeld => ?_)
                          refine take_val (i := 0) (.int .i64 i) rfl (by kernel_rfl) (by kernel_rfl) (by kernel_rfl) (fun _ _ _ h => h) (by rfl) (fun w hSw => by go_simp) hHeld ?_
                          simp only [Act.put, List.setIfInBounds_toArray, List.set_cons_zero, List.set_cons_succ]
                          refine take_val (i := 1) (.bool true) rfl (by kernel_rfl) (by kernel_rfl) (by kernel_rfl) (fun _ _ _ h => h) (by rfl) (fun w hSw => by go_simp) hHeld ?_
                          simp only [Act.put, List.setIfInBounds_toArray, List.set_cons_zero, List.set_cons_succ]
                          refine take_val (i := 2) (.bool true) rfl (by kernel_rfl) (by kernel_rfl) (by kernel_rfl) (fun _ _ _ h => h) (by rfl) (fun w hSw => by go_simp) hHeld ?_
                          simp only [Act.put, List.setIfInBounds_toArray, List.set_cons_zero, List.set_cons_succ]
                          refine take_val (i := 3) (.slice (some ⟨bu, ou, none⟩) fs.length cu) rfl (by kernel_rfl) (by kernel_rfl) (by kernel_rfl) (fun _ _ _ h => h) (by rfl) (fun w hSw => by go_simp) hHeld ?_
                          simp only [Act.put, List.setIfInBounds_toArray, List.set_cons_zero, List.set_cons_succ]
                          refine take_val (i := 4) (.int .i64 i) rfl (by kernel_rfl) (by kernel_rfl) (by kernel_rfl) (fun _ _ _ h => h) (by rfl) (fun w hSw => by go_simp) hHeld ?_
                          simp only [Act.put, List.setIfInBounds_toArray, List.set_cons_zero, List.set_cons_succ]
                          refine take_val (i := 5) (.int .i64 m) rfl (by kernel_rfl) (by kernel_rfl) (by kernel_rfl) (fun _ _ _ h => h) (by rfl) (fun w hSw => by go_simp) hHeld ?_
                          simp only [Act.put, List.setIfInBounds_toArray, List.set_cons_zero, List.set_cons_succ]
                          refine take_val (i := 6) (.pointer (some ⟨bu, ou + m * 7, none⟩)) rfl (by kernel_rfl) (by kernel_rfl) (by kernel_rfl) (fun _ _ _ h => h) (by rfl) (fun w hSw => by go_simp) hHeld ?_
                          simp only [Act.put, List.setIfInBounds_toArray, List.set_cons_zero, List.set_cons_succ]
                          refine take_val (i := 7) (.pointer (some ⟨bu, ou + m * 7, none⟩)) rfl (by kernel_rfl) (by kernel_rfl) (by kernel_rfl) (fun _ _ _ h => h) (by rfl) (fun w hSw => by go_simp) hHeld ?_
                          simp only [Act.put, List.setIfInBounds_toArray, List.set_cons_zero, List.set_cons_succ]
                          refine take_val (i := 8) (.pointer (some ⟨bu, ou + m * 7, none⟩)) rfl (by kernel_rfl) (by kernel_rfl) (by kernel_rfl) (fun _ _ _ h => h) (by rfl) (fun w hSw => by go_simp) hHeld ?_
                          simp only [Act.put, List.setIfInBounds_toArray, List.set_cons_zero, List.set_cons_succ]
                          refine take_val (i := 9) (.string ma) rfl (by kernel_rfl) (by kernel_rfl) (by kernel_rfl) (fun _ _ _ h => h) (by rfl) (fun w hSw => by go_simp) hHeld ?_
                          simp only [Act.put, List.setIfInBounds_toArray, List.set_cons_zero, List.set_cons_succ]
                          refine take_val (i := 10) (.pointer (some ⟨O, 0, none⟩)) rfl (by kernel_rfl) (by kernel_rfl) (by kernel_rfl) (fun _ _ _ h => h) (by rfl) (fun w hSw => by go_simp) hHeld ?_
                          simp only [Act.put, List.setIfInBounds_toArray, List.set_cons_zero, List.set_cons_succ]
                          refine take_val (i := 11) (.pointer (some ⟨O, 0, none⟩)) rfl (by kernel_rfl) (by kernel_rfl) (by kernel_rfl) (fun _ _ _ h => h) (by rfl) (fun w hSw => by go_simp) hHeld ?_
                          simp only [Act.put, List.setIfInBounds_toArray, List.set_cons_zero, List.set_cons_succ]
                          refine take_val (i := 12) (.string fa) rfl (by kernel_rfl) (by kernel_rfl) (by kernel_rfl) (fun _ _ _ h => h) (by rfl) (fun w hSw => by go_simp) hHeld ?_
                          simp only [Act.put, List.setIfInBounds_toArray, List.set_cons_zero, List.set_cons_succ]
                          refine take_val (i := 13) (.bool false) rfl (by kernel_rfl) (by kernel_rfl) (by kernel_rfl) (fun _ _ _ h => h) (by rfl) (fun w hSw => by go_simp) hHeld ?_
                          simp only [Act.put, List.setIfInBounds_toArray, List.set_cons_zero, List.set_cons_succ]
                          refine take_val (i := 14) (.bool false) rfl (by kernel_rfl) (by kernel_rfl) (by kernel_rfl) (fun _ _ _ h => h) (by rfl) (fun w hSw => by go_simp) hHeld ?_
                          simp only [Act.put, List.setIfInBounds_toArray, List.set_cons_zero, List.set_cons_succ]
                          refine take_val (i := 15) (.slice (some ⟨bu, ou, none⟩) fs.length cu) rfl (by kernel_rfl) (by kernel_rfl) (by kernel_rfl) (fun _ _ _ h => h) (by rfl) (fun w hSw => by go_simp) hHeld ?_
                          simp only [Act.put, List.setIfInBounds_toArray, List.set_cons_zero, List.set_cons_succ]
                          refine take_val (i := 16) (.int .i64 i) rfl (by kernel_rfl) (by kernel_rfl) (by kernel_rfl) (fun _ _ _ h => h) (by rfl) (fun w hSw => by go_simp) hHeld ?_
                          simp only [Act.put, List.setIfInBounds_toArray, List.set_cons_zero, List.set_cons_succ]
                          refine take_val (i := 17) (.int .i64 m) rfl (by kernel_rfl) (by kernel_rfl) (by kernel_rfl) (fun _ _ _ h => h) (by rfl) (fun w hSw => by go_simp) hHeld ?_
                          simp only [Act.put, List.setIfInBounds_toArray, List.set_cons_zero, List.set_cons_succ]
                          refine take_val (i := 18) (.pointer (some ⟨bu, ou + m * 7, none⟩)) rfl (by kernel_rfl) (by kernel_rfl) (by kernel_rfl) (fun _ _ _ h => h) (by rfl) (fun w hSw => by go_simp) hHeld ?_
                          simp only [Act.put, List.setIfInBounds_toArray, List.set_cons_zero, List.set_cons_succ]
                          refine take_val (i := 19) (.pointer (some ⟨bu, ou + m * 7, none⟩)) rfl (by kernel_rfl) (by kernel_rfl) (by kernel_rfl) (fun _ _ _ h => h) (by rfl) (fun w hSw => by go_simp) hHeld ?_
                          simp only [Act.put, List.setIfInBounds_toArray, List.set_cons_zero, List.set_cons_succ]
                          refine take_val (i := 20) (.pointer (some ⟨bu, ou + m * 7, none⟩)) rfl (by kernel_rfl) (by kernel_rfl) (by kernel_rfl) (fun _ _ _ h => h) (by rfl) (fun w hSw => by go_simp) hHeld ?_
                          simp only [Act.put, List.setIfInBounds_toArray, List.set_cons_zero, List.set_cons_succ]
                          refine take_val (i := 21) (.string ma) rfl (by kernel_rfl) (by kernel_rfl) (by kernel_rfl) (fun _ _ _ h => h) (by rfl) (fun w hSw => by go_simp) hHeld ?_
                          simp only [Act.put, List.setIfInBounds_toArray, List.set_cons_zero, List.set_cons_succ]
                          refine take_val (i := 22) (.pointer (some ⟨O, 0, none⟩)) rfl (by kernel_rfl) (by kernel_rfl) (by kernel_rfl) (fun _ _ _ h => h) (by rfl) (fun w hSw => by go_simp) hHeld ?_
                          simp only [Act.put, List.setIfInBounds_toArray, List.set_cons_zero, List.set_cons_succ]
                          refine take_val (i := 23) (.pointer (some ⟨O, 0, none⟩)) rfl (by kernel_rfl) (by kernel_rfl) (by kernel_rfl) (fun _ _ _ h => h) (by rfl) (fun w hSw => by go_simp) hHeld ?_
                          simp only [Act.put, List.setIfInBounds_toArray, List.set_cons_zero, List.set_cons_succ]
                          refine take_val (i := 24) (.string fa) rfl (by kernel_rfl) (by kernel_rfl) (by kernel_rfl) (fun _ _ _ h => h) (by rfl) (fun w hSw => by go_simp) hHeld ?_
                          simp only [Act.put, List.setIfInBounds_toArray, List.set_cons_zero, List.set_cons_succ]
                          refine take_val (i := 25) (.bool true) rfl (by kernel_rfl) (by kernel_rfl) (by kernel_rfl) (fun _ _ _ h => h) (by rfl) (fun w hSw => by go_simp) hHeld ?_
                          simp only [Act.put, List.setIfInBounds_toArray, List.set_cons_zero, List.set_cons_succ]
                          refine take_val (i := 26) (.bool true) rfl (by kernel_rfl) (by kernel_rfl) (by kernel_rfl) (fun _ _ _ h => h) (by rfl) (fun w hSw => by go_simp) hHeld ?_
                          simp only [Act.put, List.setIfInBounds_toArray, List.set_cons_zero, List.set_cons_succ]
                          refine take_val (i := 27) (.slice (some ⟨bu, ou, none⟩) fs.length cu) rfl (by kernel_rfl) (by kernel_rfl) (by kernel_rfl) (fun _ _ _ h => h) (by rfl) (fun w hSw => by go_simp) hHeld ?_
                          simp only [Act.put, List.setIfInBounds_toArray, List.set_cons_zero, List.set_cons_succ]
                          refine take_val (i := 28) (.int .i64 i) rfl (by kernel_rfl) (by kernel_rfl) (by kernel_rfl) (fun _ _ _ h => h) (by rfl) (fun w hSw => by go_simp) hHeld ?_
                          simp only [Act.put, List.setIfInBounds_toArray, List.set_cons_zero, List.set_cons_succ]
                          refine take_val (i := 29) (.int .i64 m) rfl (by kernel_rfl) (by kernel_rfl) (by kernel_rfl) (fun _ _ _ h => h) (by rfl) (fun w hSw => by go_simp) hHeld ?_
                          simp only [Act.put, List.setIfInBounds_toArray, List.set_cons_zero, List.set_cons_succ]
                          refine take_val (i := 30) (.pointer (some ⟨bu, ou + m * 7, none⟩)) rfl (by kernel_rfl) (by kernel_rfl) (by kernel_rfl) (fun _ _ _ h => h) (by rfl) (fun w hSw => by go_simp) hHeld ?_
                          simp only [Act.put, List.setIfInBounds_toArray, List.set_cons_zero, List.set_cons_succ]
                          refine take_val (i := 31) (.pointer (some ⟨bu, ou + m * 7, none⟩)) rfl (by kernel_rfl) (by kernel_rfl) (by kernel_rfl) (fun _ _ _ h => h) (by rfl) (fun w hSw => by go_simp) hHeld ?_
                          simp only [Act.put, List.setIfInBounds_toArray, List.set_cons_zero, List.set_cons_succ]
                          refine take_val (i := 32) (.pointer (some ⟨bu, ou + m * 7 + 1, none⟩)) rfl (by kernel_rfl) (by kernel_rfl) (by kernel_rfl) (fun _ _ _ h => h) (by rfl) (fun w hSw => by go_simp) hHeld ?_
                          simp only [Act.put, List.setIfInBounds_toArray, List.set_cons_zero, List.set_cons_succ]
                          refine take_val (i := 33) (.string mb) rfl (by kernel_rfl) (by kernel_rfl) (by kernel_rfl) (fun _ _ _ h => h) (by rfl) (fun w hSw => by go_simp) hHeld ?_
                          simp only [Act.put, List.setIfInBounds_toArray, List.set_cons_zero, List.set_cons_succ]
                          refine take_val (i := 34) (.pointer (some ⟨O, 0, none⟩)) rfl (by kernel_rfl) (by kernel_rfl) (by kernel_rfl) (fun _ _ _ h => h) (by rfl) (fun w hSw => by go_simp) hHeld ?_
                          simp only [Act.put, List.setIfInBounds_toArray, List.set_cons_zero, List.set_cons_succ]
                          refine take_val (i := 35) (.pointer (some ⟨O, 1, none⟩)) rfl (by kernel_rfl) (by kernel_rfl) (by kernel_rfl) (fun _ _ _ h => h) (by rfl) (fun w hSw => by go_simp) hHeld ?_
                          simp only [Act.put, List.setIfInBounds_toArray, List.set_cons_zero, List.set_cons_succ]
                          refine take_val (i := 36) (.string fb) rfl (by kernel_rfl) (by kernel_rfl) (by kernel_rfl) (fun _ _ _ h => h) (by rfl) (fun w hSw => by go_simp) hHeld ?_
                          simp only [Act.put, List.setIfInBounds_toArray, List.set_cons_zero, List.set_cons_succ]
                          refine take_val (i := 37) (.bool false) rfl (by kernel_rfl) (by kernel_rfl) (by kernel_rfl) (fun _ _ _ h => h) (by rfl) (fun w hSw => by go_simp) hHeld ?_
                          simp only [Act.put, List.setIfInBounds_toArray, List.set_cons_zero, List.set_cons_succ]
                          refine take_val (i := 38) (.bool false) rfl (by kernel_rfl) (by kernel_rfl) (by kernel_rfl) (fun _ _ _ h => h) (by rfl) (fun w hSw => by go_simp) hHeld ?_
                          simp only [Act.put, List.setIfInBounds_toArray, List.set_cons_zero, List.set_cons_succ]
                          refine take_val (i := 39) (.bool false) rfl (by kernel_rfl) (by kernel_rfl) (by kernel_rfl) (fun _ _ _ h => h) (by rfl) (fun w hSw => by go_simp) hHeld ?_
                          simp only [Act.put, List.setIfInBounds_toArray, List.set_cons_zero, List.set_cons_succ]
                          refine take_val (i := 40) (.bool false) rfl (by kernel_rfl) (by kernel_rfl) (by kernel_rfl) (fun _ _ _ h => h) (by rfl) (fun w hSw => by go_simp) hHeld ?_
                          simp only [Act.put, List.setIfInBounds_toArray, List.set_cons_zero, List.set_cons_succ]
                          refine wpAnyH_done (by kernel_rfl) ?_ _
                          clear hHeld hw1 hw2 hw3
                          go_wp2_with fail
                          go_roundg (fs.length - (i + 1))
                          case measure => omega
                          exact ⟨i + 1, by go_num, by omega, by omega, HNE.out⟩
                    · have hdj : decide ((0 : Int) < (i : Int)) = false := decide_eq_false (by omega)
                      clear HMEM HSF HKC HNX HCL HNXT HNX5 HBC hbVc
                      go_wp2_with fail
                      refine wp_region_held_drew (S := fun _ => True) (by kernel_rfl) trivial (fun hHeld => ?_)
                      refine take_val (i := 0) (.int .i64 i) rfl (by kernel_rfl) (by kernel_rfl) (by kernel_rfl) (fun _ _ _ h => h) (by rfl) (fun w hSw => by go_simp) hHeld ?_
                      simp only [Act.put, List.setIfInBounds_toArray, List.set_cons_zero, List.set_cons_succ]
                      refine take_val (i := 1) (.bool false) rfl (by kernel_rfl) (by kernel_rfl) (by kernel_rfl) (fun _ _ _ h => h) (by rfl) (fun w hSw => by go_simp) hHeld ?_
                      simp only [Act.put, List.setIfInBounds_toArray, List.set_cons_zero, List.set_cons_succ]
                      refine take_val (i := 2) (.bool false) rfl (by kernel_rfl) (by kernel_rfl) (by kernel_rfl) (fun _ _ _ h => h) (by rfl) (fun w hSw => by go_simp) hHeld ?_
                      simp only [Act.put, List.setIfInBounds_toArray, List.set_cons_zero, List.set_cons_succ]
                      refine take_not (i := 3) rfl (by kernel_rfl) (by kernel_rfl) (by kernel_rfl) (fun _ _ _ h => h) (by rfl) hHeld ?_
                      simp only [Act.put, List.setIfInBounds_toArray, List.set_cons_zero, List.set_cons_succ]
                      refine take_not (i := 4) rfl (by kernel_rfl) (by kernel_rfl) (by kernel_rfl) (fun _ _ _ h => h) (by rfl) hHeld ?_
                      simp only [Act.put, List.setIfInBounds_toArray, List.set_cons_zero, List.set_cons_succ]
                      refine take_not (i := 5) rfl (by kernel_rfl) (by kernel_rfl) (by kernel_rfl) (fun _ _ _ h => h) (by rfl) hHeld ?_
                      simp only [Act.put, List.setIfInBounds_toArray, List.set_cons_zero, List.set_cons_succ]
                      refine take_not (i := 6) rfl (by kernel_rfl) (by kernel_rfl) (by kernel_rfl) (fun _ _ _ h => h) (by rfl) hHeld ?_
                      simp only [Act.put, List.setIfInBounds_toArray, List.set_cons_zero, List.set_cons_succ]
                      refine take_not (i := 7) rfl (by kernel_rfl) (by kernel_rfl) (by kernel_rfl) (fun _ _ _ h => h) (by rfl) hHeld ?_
                      simp only [Act.put, List.setIfInBounds_toArray, List.set_cons_zero, List.set_cons_succ]
                      refine take_not (i := 8) rfl (by kernel_rfl) (by kernel_rfl) (by kernel_rfl) (fun _ _ _ h => h) (by rfl) hHeld ?_
                      simp only [Act.put, List.setIfInBounds_toArray, List.set_cons_zero, List.set_cons_succ]
                      refine take_not (i := 9) rfl (by kernel_rfl) (by kernel_rfl) (by kernel_rfl) (fun _ _ _ h => h) (by rfl) hHeld ?_
                      simp only [Act.put, List.setIfInBounds_toArray, List.set_cons_zero, List.set_cons_succ]
                      refine take_not (i := 10) rfl (by kernel_rfl) (by kernel_rfl) (by kernel_rfl) (fun _ _ _ h => h) (by rfl) hHeld ?_
                      simp only [Act.put, List.setIfInBounds_toArray, List.set_cons_zero, List.set_cons_succ]
                      refine take_not (i := 11) rfl (by kernel_rfl) (by kernel_rfl) (by kernel_rfl) (fun _ _ _ h => h) (by rfl) hHeld ?_
                      simp only [Act.put, List.setIfInBounds_toArray, List.set_cons_zero, List.set_cons_succ]
                      refine take_not (i := 12) rfl (by kernel_rfl) (by kernel_rfl) (by kernel_rfl) (fun _ _ _ h => h) (by rfl) hHeld ?_
                      simp only [Act.put, List.setIfInBounds_toArray, List.set_cons_zero, List.set_cons_succ]
                      refine take_not (i := 13) rfl (by kernel_rfl) (by kernel_rfl) (by kernel_rfl) (fun _ _ _ h => h) (by rfl) hHeld ?_
                      simp only [Act.put, List.setIfInBounds_toArray, List.set_cons_zero, List.set_cons_succ]
                      refine take_not (i := 14) rfl (by kernel_rfl) (by kernel_rfl) (by kernel_rfl) (fun _ _ _ h => h) (by rfl) hHeld ?_
                      simp only [Act.put, List.setIfInBounds_toArray, List.set_cons_zero, List.set_cons_succ]
                      refine take_not (i := 15) rfl (by kernel_rfl) (by kernel_rfl) (by kernel_rfl) (fun _ _ _ h => h) (by rfl) hHeld ?_
                      simp only [Act.put, List.setIfInBounds_toArray, List.set_cons_zero, List.set_cons_succ]
                      refine take_not (i := 16) rfl (by kernel_rfl) (by kernel_rfl) (by kernel_rfl) (fun _ _ _ h => h) (by rfl) hHeld ?_
                      simp only [Act.put, List.setIfInBounds_toArray, List.set_cons_zero, List.set_cons_succ]
                      refine take_not (i := 17) rfl (by kernel_rfl) (by kernel_rfl) (by kernel_rfl) (fun _ _ _ h => h) (by rfl) hHeld ?_
                      simp only [Act.put, List.setIfInBounds_toArray, List.set_cons_zero, List.set_cons_succ]
                      refine take_not (i := 18) rfl (by kernel_rfl) (by kernel_rfl) (by kernel_rfl) (fun _ _ _ h => h) (by rfl) hHeld ?_
                      simp only [Act.put, List.setIfInBounds_toArray, List.set_cons_zero, List.set_cons_succ]
                      refine take_not (i := 19) rfl (by kernel_rfl) (by kernel_rfl) (by kernel_rfl) (fun _ _ _ h => h) (by rfl) hHeld ?_
                      simp only [Act.put, List.setIfInBounds_toArray, List.set_cons_zero, List.set_cons_succ]
                      refine take_not (i := 20) rfl (by kernel_rfl) (by kernel_rfl) (by kernel_rfl) (fun _ _ _ h => h) (by rfl) hHeld ?_
                      simp only [Act.put, List.setIfInBounds_toArray, List.set_cons_zero, List.set_cons_succ]
                      refine take_not (i := 21) rfl (by kernel_rfl) (by kernel_rfl) (by kernel_rfl) (fun _ _ _ h => h) (by rfl) hHeld ?_
                      simp only [Act.put, List.setIfInBounds_toArray, List.set_cons_zero, List.set_cons_succ]
                      refine take_not (i := 22) rfl (by kernel_rfl) (by kernel_rfl) (by kernel_rfl) (fun _ _ _ h => h) (by rfl) hHeld ?_
                      simp only [Act.put, List.setIfInBounds_toArray, List.set_cons_zero, List.set_cons_succ]
                      refine take_not (i := 23) rfl (by kernel_rfl) (by kernel_rfl) (by kernel_rfl) (fun _ _ _ h => h) (by rfl) hHeld ?_
                      simp only [Act.put, List.setIfInBounds_toArray, List.set_cons_zero, List.set_cons_succ]
                      refine take_not (i := 24) rfl (by kernel_rfl) (by kernel_rfl) (by kernel_rfl) (fun _ _ _ h => h) (by rfl) hHeld ?_
                      simp only [Act.put, List.setIfInBounds_toArray, List.set_cons_zero, List.set_cons_succ]
                      refine take_not (i := 25) rfl (by kernel_rfl) (by kernel_rfl) (by kernel_rfl) (fun _ _ _ h => h) (by rfl) hHeld ?_
                      simp only [Act.put, List.setIfInBounds_toArray, List.set_cons_zero, List.set_cons_succ]
                      refine take_not (i := 26) rfl (by kernel_rfl) (by kernel_rfl) (by kernel_rfl) (fun _ _ _ h => h) (by rfl) hHeld ?_
                      simp only [Act.put, List.setIfInBounds_toArray, List.set_cons_zero, List.set_cons_succ]
                      refine take_not (i := 27) rfl (by kernel_rfl) (by kernel_rfl) (by kernel_rfl) (fun _ _ _ h => h) (by rfl) hHeld ?_
                      simp only [Act.put, List.setIfInBounds_toArray, List.set_cons_zero, List.set_cons_succ]
                      refine take_not (i := 28) rfl (by kernel_rfl) (by kernel_rfl) (by kernel_rfl) (fun _ _ _ h => h) (by rfl) hHeld ?_
                      simp only [Act.put, List.setIfInBounds_toArray, List.set_cons_zero, List.set_cons_succ]
                      refine take_not (i := 29) rfl (by kernel_rfl) (by kernel_rfl) (by kernel_rfl) (fun _ _ _ h => h) (by rfl) hHeld ?_
                      simp only [Act.put, List.setIfInBounds_toArray, List.set_cons_zero, List.set_cons_succ]
                      refine take_not (i := 30) rfl (by kernel_rfl) (by kernel_rfl) (by kernel_rfl) (fun _ _ _ h => h) (by rfl) hHeld ?_
                      simp only [Act.put, List.setIfInBounds_toArray, List.set_cons_zero, List.set_cons_succ]
                      refine take_not (i := 31) rfl (by kernel_rfl) (by kernel_rfl) (by kernel_rfl) (fun _ _ _ h => h) (by rfl) hHeld ?_
                      simp only [Act.put, List.setIfInBounds_toArray, List.set_cons_zero, List.set_cons_succ]
                      refine take_not (i := 32) rfl (by kernel_rfl) (by kernel_rfl) (by kernel_rfl) (fun _ _ _ h => h) (by rfl) hHeld ?_
                      simp only [Act.put, List.setIfInBounds_toArray, List.set_cons_zero, List.set_cons_succ]
                      refine take_not (i := 33) rfl (by kernel_rfl) (by kernel_rfl) (by kernel_rfl) (fun _ _ _ h => h) (by rfl) hHeld ?_
                      simp only [Act.put, List.setIfInBounds_toArray, List.set_cons_zero, List.set_cons_succ]
                      refine take_not (i := 34) rfl (by kernel_rfl) (by kernel_rfl) (by kernel_rfl) (fun _ _ _ h => h) (by rfl) hHeld ?_
                      simp only [Act.put, List.setIfInBounds_toArray, List.set_cons_zero, List.set_cons_succ]
                      refine take_not (i := 35) rfl (by kernel_rfl) (by kernel_rfl) (by kernel_rfl) (fun _ _ _ h => h) (by rfl) hHeld ?_
                      simp only [Act.put, List.setIfInBounds_toArray, List.set_cons_zero, List.set_cons_succ]
                      refine take_not (i := 36) rfl (by kernel_rfl) (by kernel_rfl) (by kernel_rfl) (fun _ _ _ h => h) (by rfl) hHeld ?_
                      simp only [Act.put, List.setIfInBounds_toArray, List.set_cons_zero, List.set_cons_succ]
                      refine take_not (i := 37) rfl (by kernel_rfl) (by kernel_rfl) (by kernel_rfl) (fun _ _ _ h => h) (by rfl) hHeld ?_
                      simp only [Act.put, List.setIfInBounds_toArray, List.set_cons_zero, List.set_cons_succ]
                      refine take_not (i := 38) rfl (by kernel_rfl) (by kernel_rfl) (by kernel_rfl) (fun _ _ _ h => h) (by rfl) hHeld ?_
                      simp only [Act.put, List.setIfInBounds_toArray, List.set_cons_zero, List.set_cons_succ]
                      refine take_not (i := 39) rfl (by kernel_rfl) (by kernel_rfl) (by kernel_rfl) (fun _ _ _ h => h) (by rfl) hHeld ?_
                      simp only [Act.put, List.setIfInBounds_toArray, List.set_cons_zero, List.set_cons_succ]
                      refine take_val (i := 40) (.bool false) rfl (by kernel_rfl) (by kernel_rfl) (by kernel_rfl) (fun _ _ _ h => h) (by rfl) (fun w hSw => by go_simp) hHeld ?_
                      simp only [Act.put, List.setIfInBounds_toArray, List.set_cons_zero, List.set_cons_succ]
                      refine wpAnyH_done (by kernel_rfl) ?_ _
                      clear hHeld
                      go_wp2_with fail
                      go_roundg (fs.length - (i + 1))
                      case measure => omega
                      exact ⟨i + 1, by go_num, by omega, by omega, HNE.out⟩
                · have hltz : ¬ (i : Int) < (fs.length : Int) := by omega
                  have HE := hid (HBW.out _ HJ.out.1.2.1)
                  clear HJ
                  go_wp2_with fail
                  go_ret
                  exact ⟨rfl, HE.out⟩

end Go.Proofs.Ytjehjjpdicimhaa

/-
  For every script, all finds and every type of bulk at most 1048576 the Go function WritesOver of package foliolaw11 returns true, and its arguments read behind the call as they read before; over the contracts of package writes.
-/
namespace Go.Proofs.Ytjehjjpdicimhaa
open Go.ChangeShapes Go.WideShapes Go.ChangeAt Go.RowKit Go.Joins

set_option maxRecDepth 100000 in
theorem writesover_walked (S : SetApi) {H : Type} {enc : TypeId × Value → H} (W : World) (base : Nat) (args : Array Value) (ds gs : List (DataW H)) (before : List MemPlace)
    (hval : ∀ (j : Nat) t v, Try.f4.params[j]? = some t → args[j]? = some v → Value.okWide Try.prog W .any base t v)
    (hW : DataW.Whole enc Try.prog Try.f4.params.toList Rows.writesOverSpec.vars false W args.toList ds gs before)
    (hZ : (DataW.weightsEach Try.prog (Try.f4.params.toList ++ (OpenSpec.ofChange Rows.writesOverSpec).bare.plain.varTypes Try.prog) (ds ++ gs)).all (· ≤ reachBytes) = true) (hk : Rows.uptoSmall H (ds ++ gs) = true) :
    Calls Try.prog 4 args W fun e W' => ∃ v, e = .returned v ∧ Rows.writesOverSpec.post enc Try.prog Try.f4 false true false false W args v W' := by
  have hW' := hW
  obtain ⟨p, q, hA0, hV, rfl, _, _⟩ := hW
  have hA : DataW.TrodAll enc Try.prog W 0 (fun _ => true) true Try.f4.params.toList args.toList ds p := hA0
  rw [Try.params4] at hA hval hZ
  obtain ⟨v0, vs0, d0, ds0, p0, q0, hargs, rfl, rfl, h0, r0⟩ := trodAll_cons hA
  obtain ⟨v1, vs1, d1, ds1, p1, q1, rfl, rfl, rfl, h1, r1⟩ := trodAll_cons r0
  obtain ⟨v2, vs2, d2, ds2, p2, q2, rfl, rfl, rfl, h2, r2⟩ := trodAll_cons r1
  obtain ⟨rfl, rfl, rfl⟩ := trodAll_nil r2
  obtain rfl : args = #[v0, v1, v2] := by cases args; simp_all
  obtain ⟨rfl, rfl⟩ := trodVars_none hV
  have lt0 : ∀ x ∈ p0, x.block < W.heap.size := by obtain ⟨m, hm⟩ := h0; exact DataW.trod_lt m _ _ _ hm
  have lt1 : ∀ x ∈ p1, x.block < W.heap.size := by obtain ⟨m, hm⟩ := h1; exact DataW.trod_lt m _ _ _ hm
  have lt2 : ∀ x ∈ p2, x.block < W.heap.size := by obtain ⟨m, hm⟩ := h2; exact DataW.trod_lt m _ _ _ hm
  have k0 := h0
  have k1 := h1
  have k2 := h2
  have hb : Rows.uptoBulk d0 + Rows.uptoBulk d1 + Rows.uptoBulk d2 ≤ 1048576 := by
    have := of_decide_eq_true hk
    simp only [List.append_nil, Rows.uptoBulkAll] at this
    omega
  have hwalk : Calls Try.prog 4 #[v0, v1, v2] W fun e w' => e = .returned (.bool true) ∧ Below W.heap.size W w' := by
    have z0 : ∀ n ∈ d0.weights Try.prog 22, n ≤ reachBytes := fun n hn => by
      have := List.all_eq_true.1 hZ n (DataW.weights_mem_each (j := 0) rfl rfl n hn)
      simpa using this
    have z1 : ∀ n ∈ d1.weights Try.prog 30, n ≤ reachBytes := fun n hn => by
      have := List.all_eq_true.1 hZ n (DataW.weights_mem_each (j := 1) rfl rfl n hn)
      simpa using this
    obtain ⟨ops, hx, ho, hl, hlb⟩ := open_opsW (hval 0 22 v0 rfl rfl) h0 z0
    obtain ⟨fo, hfo, hfk, hfb⟩ := open_foundW (hval 1 30 v1 rfl rfl) h1 z1
    obtain ⟨t, rfl⟩ := okWide_string Try.underlying9 (hval 2 9 v2 rfl rfl)
    exact over11_any S v0 v1 ops fo t W hx (fun x hx => (ho x hx).1) (by omega) hfo hfk (by omega)
  clear hA0
  refine hwalk.mono fun o W' ⟨he, bel⟩ => ?_
  subst he
  exact ⟨_, rfl, _, _, _, [], _, [], hW', trodAll_mk1 (shut_bool Try.underlying4 _),
    (trodAll_cons_mk (Below.trod Try.laidOut (by kernel_rfl) (of_decide_eq_true (by kernel_rfl)) k0 bel lt0) (trodAll_cons_mk (Below.trod Try.laidOut (by kernel_rfl) (of_decide_eq_true (by kernel_rfl)) k1 bel lt1) (trodAll_cons_mk (Below.trod Try.laidOut (by kernel_rfl) (of_decide_eq_true (by kernel_rfl)) k2 bel lt2) trodAll_mk0))), rfl, bel.frame _, fun h => by cases h⟩

theorem writesover_reads (os : Os) {H : Type} (enc : TypeId × Value → H) : ∃ places, DataW.whole enc Try.prog ((World.laidAll Try.prog os []).forCall (fun _ _ => 0) ⟨#[], #[.slice none 0 0, .slice none 0 0, .string ⟨#[]⟩], []⟩).memory Try.f4.params.toList Rows.writesOverSpec.vars false #[Value.slice none 0 0, .slice none 0 0, .string ⟨#[]⟩].toList 8 = some ([.nil, .nil, .lit (.string [])], [], places) :=
  ⟨[], by kernel_rfl⟩

set_option maxRecDepth 100000 in
theorem writesover_lifted (S : SetApi) (os : Os) (started : os.Started) (H : Type) (enc : TypeId × Value → H) (F : Stop.Interp) :
    ReturnsInHanded {} Try.checked os 4 .any ((Rows.OpenSpec.upto Rows.writesOverSpec).preRow enc Try.prog Try.f4 Rows.writesOverUptoRow.domain false Rows.writesOverUptoRow.laid) (((Rows.OpenSpec.upto Rows.writesOverSpec).at F).post enc Try.prog Try.f4 false true false false) := by
  obtain ⟨places, hx⟩ := writesover_reads os enc
  refine returnsInHanded_of_row (C := Try.checked) (s := Rows.OpenSpec.upto Rows.writesOverSpec) Try.own started (by kernel_rfl) Try.func4
    (witness_row_at (enc := enc) (C := Try.checked) false (World.laidAll Try.prog os []) #[.slice none 0 0, .slice none 0 0, .string ⟨#[]⟩] (World.laidAll_os _ _ _) (by kernel_rfl) (by kernel_rfl) (by kernel_rfl)
      (OpenSpec.preRow_of_cond 8 hx (by kernel_rfl) (fun k hk => by cases hk; kernel_rfl) (by kernel_rfl)
        (by rw [MakeChecks.laidMetH_plain _ _ _ (by kernel_rfl)]; exact laidMet_laidAll (laid := []) _ (by kernel_rfl) (by kernel_rfl)))) ?_
  intro W base args ds gs before hval hW _ hcond hZ _ _ _
  exact writesover_walked S W base args ds gs before hval hW hZ (hcond _ rfl)

theorem writesover_of (S : SetApi) : Rows.WritesOverUptoSaid :=
  OpenClaim.holds_of_cond 4 Try.f4 rfl rfl rfl rfl rfl rfl rfl ⟨rfl, rfl, rfl, rfl, rfl⟩ rfl rfl rfl rfl rfl (by kernel_rfl) Try.func4 (by kernel_rfl)
    (of_decide_eq_true (by kernel_rfl)) (by unfold Func.isWrapper; first | (rw [if_pos (by decide +kernel)]; kernel_rfl) | (rw [if_neg (by decide +kernel)]; exact ⟨rfl, rfl⟩))
    (fun os started H enc _ F => by rw [OpenClaim.pre_eq_preRow]; exact writesover_lifted S os started H enc F)

end Go.Proofs.Ytjehjjpdicimhaa
