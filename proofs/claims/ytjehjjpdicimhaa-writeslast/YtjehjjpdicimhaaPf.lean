/-
  Texts of this claim, one behind the other: Wfd Wfw Wla Wlw Wa2.
-/
import Derived.Test.YtjehjjpdicimhaaPc
import Derived.Test.YtjehjjpdicimhaaRows
import Derived.Test.YtjehjjpdicimhaaPe
/-
  The laws of stage 11: the chapter's examples, as data.
-/
namespace Go.Proofs.Ytjehjjpdicimhaa
open Go.RowKit

def gxT : ByteArray := ⟨#[65]⟩
def gxa : Ky := (⟨#[65]⟩, ⟨#[97]⟩)
def gxb : Ky := (⟨#[65]⟩, ⟨#[98]⟩)
def gxd : Ky := (⟨#[65]⟩, ⟨#[100]⟩)
def gxV : List Fld := [(⟨#[110]⟩, [⟨#[120]⟩])]
theorem gx_may : mayB gxV = true := by decide
theorem gx_ka : keyB gxa.1 gxa.2 = true := by decide
theorem gx_kb : keyB gxb.1 gxb.2 = true := by decide
theorem gx_k0 : keyB (⟨#[]⟩ : ByteArray) ⟨#[]⟩ = false := by decide
theorem gx_ab : gxa ≠ gxb := fun h => by
  have := congrArg (fun k : Ky => k.2.data.toList) h
  simp [gxa, gxb] at this
theorem gx_ad : gxa ≠ gxd := fun h => by
  have := congrArg (fun k : Ky => k.2.data.toList) h
  simp [gxa, gxd] at this
theorem gx_bd : gxb ≠ gxd := fun h => by
  have := congrArg (fun k : Ky => k.2.data.toList) h
  simp [gxb, gxd] at this
theorem gx_lt : ltKy gxb gxa = false := by decide
theorem gx_lt2 : ltKy gxa gxd = true := by decide

def gW1 : List RowW := [(gxa, some gxV)]
def gW2 : List RowW := [(gxa, some gxV), (gxb, none)]
theorem gc1 : codePW gxa gxV = 0 := by unfold codePW; rw [if_neg (by rw [gx_ka]; simp), if_neg (by rw [gx_may]; simp)]
theorem gc2 : codeDW gxb = 0 := by unfold codeDW; rw [if_neg (by rw [gx_kb]; simp)]
theorem gc3 : codePW (⟨#[]⟩, ⟨#[]⟩) [] = 2 := by unfold codePW; rw [if_pos gx_k0]
theorem gp1 : putW [] gxa gxV = gW1 := by unfold putW; rw [if_pos gc1]; rfl
theorem gp2 : dltW gW1 gxb = gW2 := by
  unfold dltW
  rw [if_pos gc2]
  unfold layW delW gW1
  rw [List.filter_cons, decide_eq_false gx_ab]
  simp only [Bool.not_false, if_true, List.filter_nil]
  unfold insP
  rw [gx_lt]
  rfl
theorem gp3 : putW gW2 (⟨#[]⟩, ⟨#[]⟩) [] = gW2 := by unfold putW; rw [gc3]; rfl
theorem gg1 : getW gW2 gxa = some (some gxV) := by unfold gW2 getW; rw [if_pos rfl]
theorem gg2 : getW gW2 gxb = some none := by unfold gW2 getW; rw [if_neg gx_ab]; unfold getW; rw [if_pos rfl]
theorem gg3 : getW gW2 gxd = none := by unfold gW2 getW; rw [if_neg gx_ad]; unfold getW; rw [if_neg gx_bd]; rfl
theorem gg4 : getW (delW gW2 gxb) gxb = none := by rw [getW_del, if_pos rfl]

def gF : List Fnd := [(gxb, ⟨0, 0, 0, false, []⟩), (gxd, ⟨0, 0, 0, false, []⟩)]
theorem gover : overW gW2 gF gxT (matchM []) = [(gxa, ⟨0, 0, 0, true, gxV⟩), (gxd, ⟨0, 0, 0, false, []⟩)] := by
  have h1 : freeW gW2 gF = [(gxd, ⟨0, 0, 0, false, []⟩)] := by
    unfold freeW gF
    have e1 : (getW gW2 ((gxb, (⟨0, 0, 0, false, []⟩ : Vr)) : Fnd).1).isNone = false := by rw [gg2]; rfl
    have e2 : (getW gW2 ((gxd, (⟨0, 0, 0, false, []⟩ : Vr)) : Fnd).1).isNone = true := by rw [gg3]; rfl
    rw [List.filter_cons, List.filter_cons, e1, e2]
    rfl
  have h2 : hitsW gW2 gxT (matchM []) = [(gxa, ⟨0, 0, 0, true, gxV⟩)] := by
    unfold hitsW gW2
    rw [List.filterMap_cons]
    have : hitW gxT (matchM []) (gxa, some gxV) = some (gxa, ⟨0, 0, 0, true, gxV⟩) := by
      unfold hitW
      simp only
      rw [if_pos ⟨rfl, rfl⟩]
    rw [this]
    rfl
  unfold overW
  rw [h1, h2]
  show insP (gxa, _) [(gxd, _)] = _
  unfold insP
  show (if ltKy gxa gxd = true then _ else _) = _
  rw [gx_lt2]
  rfl

theorem fitKy_a : FitKy gxa := ⟨by decide, by decide⟩
theorem fitKy_b : FitKy gxb := ⟨by decide, by decide⟩
theorem fitKy_0 : FitKy ((⟨#[]⟩ : ByteArray), ⟨#[]⟩) := ⟨by decide, by decide⟩

end Go.Proofs.Ytjehjjpdicimhaa

/-
  The laws of stage 11: the chapter's examples, walked.
-/
namespace Go.Proofs.Ytjehjjpdicimhaa
open Go.RowKit

/-- The field n with the text x, as it lies: two blocks. -/
def gXs (b : Nat) : List Fx := [⟨⟨#[110]⟩, some ⟨b, 0, none⟩, 1, [⟨#[120]⟩]⟩]
theorem gxs_is {W : World} {b c : Nat} (h1 : W.heap[c]? = some (.cells #[.string ⟨#[110]⟩, .slice (some ⟨b, 0, none⟩) 1 1] 56 (0, 0))) (h2 : W.heap[b]? = some (.cells #[.string ⟨#[120]⟩] 9 (0, 0))) : IsXs W (.slice (some ⟨c, 0, none⟩) 1 1) (gXs b) := by
  refine ⟨_, _, rfl, Or.inr ⟨_, _, rfl, fun i hi => ?_⟩, fun x hx => ?_⟩
  · have hi' : i = 0 := by simpa [gXs] using hi
    subst hi'
    exact ⟨by rw [Lib.cell_of_heap h1]; rfl, by rw [Lib.cell_of_heap h1]; rfl⟩
  · rw [gXs, List.mem_singleton] at hx
    subst hx
    refine Or.inr ⟨_, _, rfl, fun i hi => ?_⟩
    have hi' : i = 0 := by simpa using hi
    subst hi'
    rw [Lib.cell_of_heap h2]; rfl
theorem gxs_fit (b : Nat) : FitX (gXs b) := (may_fit (o := gXs b) gx_may).1

/-- The two finds of the example, as they lie. -/
def gFd : List Fd := [⟨⟨#[65]⟩, ⟨#[98]⟩, ⟨0, 0, 0, false, none, 0, []⟩⟩, ⟨⟨#[65]⟩, ⟨#[100]⟩, ⟨0, 0, 0, false, none, 0, []⟩⟩]
theorem gfd_in {W : World} {c : Nat} (h : W.heap[c]? = some (.cells #[.string ⟨#[65]⟩, .string ⟨#[98]⟩, .int .i64 0, .int .u64 0, .int .i64 0, .bool false, .slice none 0 0, .string ⟨#[65]⟩, .string ⟨#[100]⟩, .int .i64 0, .int .u64 0, .int .i64 0, .bool false, .slice none 0 0] 49 (0, 0))) : FoundIn W (.slice (some ⟨c, 0, none⟩) 2 2) gFd := by
  refine ⟨⟨_, _, rfl, Or.inr ⟨c, 0, rfl, fun i hi j u hu => ?_⟩⟩, fun f hf => ?_, fun f hf => ?_⟩
  · have hi' : i = 0 ∨ i = 1 := by simp [gFd] at hi; omega
    rw [Lib.cell_of_heap h]
    rcases hi' with rfl | rfl
    · have hj := (List.getElem?_eq_some_iff.1 hu).1
      have : j < 7 := hj
      rcases j with _ | _ | _ | _ | _ | _ | _ | j
      all_goals first | exact hu | omega
    · have hj := (List.getElem?_eq_some_iff.1 hu).1
      have : j < 7 := hj
      rcases j with _ | _ | _ | _ | _ | _ | _ | j
      all_goals first | exact hu | omega
  · have : f.v = ⟨0, 0, 0, false, none, 0, []⟩ := by
      simp only [gFd, List.mem_cons, List.not_mem_nil, or_false] at hf
      rcases hf with rfl | rfl <;> rfl
    rw [this]
    exact ⟨(isXs_nil W).1, (isXs_nil W).2.1, (isXs_nil W).2.2⟩
  · simp only [gFd, List.mem_cons, List.not_mem_nil, or_false] at hf
    rcases hf with rfl | rfl
    · exact ⟨by decide, by decide⟩
    · exact ⟨by decide, by decide⟩

set_option linter.unusedSimpArgs false in
set_option maxHeartbeats 8000000 in
set_option maxRecDepth 100000 in
theorem fixed11_any (S : SetApi) (w : World) : Calls Try.prog 6 #[] w fun e w' => e = .returned (.bool true) ∧ Below w.heap.size w w' := by
  have HN := hid (S.new w.heap.size w (Nat.le_refl _))
  go_enter Try.func6, Try.ntmps6
  go_wp2_with fail
  refine HN.out.mono ?_
  rintro e w1 ⟨B, g, rfl, hp1, hb1, hB⟩
  obtain ⟨N, hN⟩ : ∃ N, w.heap.size = N := ⟨_, rfl⟩
  obtain ⟨A, hA⟩ : ∃ A, w1.heap.size = A := ⟨_, rfl⟩
  have hNA : N ≤ A := by have := hb1.size; omega
  obtain ⟨W2, hW2⟩ : ∃ W2, (w1.alloc (.cells #[.string ⟨#[65]⟩, .string ⟨#[97]⟩] 27)).alloc (.cells #[.string ⟨#[65]⟩, .string ⟨#[98]⟩] 27) = W2 := ⟨_, rfl⟩
  have hbW2 : Below w1.heap.size w1 W2 := by rw [← hW2]; exact ((Below.refl _ _).alloc (Nat.le_refl _) _).alloc (by simp) _
  have hsW2 : W2.heap.size = A + 2 := by rw [← hW2, ← hA]; simp
  have hka : W2.heap[A]? = some (.cells #[.string ⟨#[65]⟩, .string ⟨#[97]⟩] 27 (0, 0)) := by rw [← hW2, ← hA, Below.heap_alloc _ _ _ (by simp)]; exact heap_alloc_new w1 _
  have hkb : W2.heap[A + 1]? = some (.cells #[.string ⟨#[65]⟩, .string ⟨#[98]⟩] 27 (0, 0)) := by
    rw [← hW2, ← hA]; have := heap_alloc_new (w1.alloc (.cells #[.string ⟨#[65]⟩, .string ⟨#[97]⟩] 27)) (.cells #[.string ⟨#[65]⟩, .string ⟨#[98]⟩] 27); simpa using this
  have hBA : ∀ k, B k → N ≤ k ∧ k < A := fun k hk => by have := S.blk hp1 k hk; omega
  have KEY : Hid (∀ L W, OneW S N W2 B g L W → (W.cell? ⟨A, 0, none⟩ = some (.string ⟨#[65]⟩) ∧ W.cell? ⟨A, 1, none⟩ = some (.string ⟨#[97]⟩) ∧ W.cell? ⟨A + 1, 0, none⟩ = some (.string ⟨#[65]⟩) ∧ W.cell? ⟨A + 1, 1, none⟩ = some (.string ⟨#[98]⟩)) ∧ N ≤ W.heap.size ∧ A + 2 ≤ W.heap.size) := fun L W h => by
    have h1 := (h.block (b := A) (by omega) (fun hb => by have := hBA A hb; omega)).trans hka
    have h2 := (h.block (b := A + 1) (by omega) (fun hb => by have := hBA _ hb; omega)).trans hkb
    have h3 := h.size
    exact ⟨⟨by rw [Lib.cell_of_heap h1]; rfl, by rw [Lib.cell_of_heap h1]; rfl, by rw [Lib.cell_of_heap h2]; rfl, by rw [Lib.cell_of_heap h2]; rfl⟩, by omega, by omega⟩
  have HBW : Hid (∀ L W, OneW S N W2 B g L W → Below N w W) := fun L W h => (by rw [← hN]; exact bel_then hb1 hb1.size hbW2 : Below N w W2).trans (h.below (by omega) fun k hk => (hBA k hk).1)
  have H2 : Hid (OneW S N W2 B g [] W2) := OneW.start (by rw [← hN]; exact S.on hp1 hbW2)
  obtain ⟨⟨a0, a1, b0, b1⟩, _⟩ := KEY.out _ _ H2.out
  -- the value's two blocks
  obtain ⟨W3, hW3⟩ : ∃ W3, (W2.drew.alloc (.cells #[.string ⟨#[120]⟩] 9)) = W3 := ⟨_, rfl⟩
  obtain ⟨W4, hW4⟩ : ∃ W4, W3.alloc (.cells #[.string ⟨#[110]⟩, .slice (some ⟨A + 2, 0, none⟩) 1 1] 56) = W4 := ⟨_, rfl⟩
  have hb3 : Below W2.heap.size W2 W3 := by rw [← hW3]; exact (bel_drewN (Below.refl _ _) 1).alloc (Nat.le_refl _) _
  have hs3 : W3.heap.size = A + 3 := by rw [← hW3]; simp [hsW2]
  have hb4 : Below W3.heap.size W3 W4 := by rw [← hW4]; exact (Below.refl _ _).alloc (Nat.le_refl _) _
  have h32 : W3.heap[A + 2]? = some (.cells #[.string ⟨#[120]⟩] 9 (0, 0)) := by rw [← hW3, ← hsW2]; exact heap_alloc_new W2.drew _
  have h43 : W4.heap[A + 3]? = some (.cells #[.string ⟨#[110]⟩, .slice (some ⟨A + 2, 0, none⟩) 1 1] 56 (0, 0)) := by rw [← hW4, ← hs3]; exact heap_alloc_new W3 _
  have h42 : W4.heap[A + 2]? = some (.cells #[.string ⟨#[120]⟩] 9 (0, 0)) := (hb4.block _ (by omega)).trans h32
  have o3 := H2.out.on hb3
  have o4 := o3.on hb4
  obtain ⟨⟨c0, c1, d0, d1⟩, _⟩ := KEY.out _ _ o3
  obtain ⟨⟨e0, e1, f0, f1⟩, hn4, _⟩ := KEY.out _ _ o4
  have HP1 := hid (onew_put o4 hn4 (by decide) gxa fitKy_a _ (gXs (A + 2)) gxV (gxs_is h43 h42) (gxs_fit _) rfl)
  rw [gc1, gp1] at HP1
  simp only [gxa] at HP1
  clear hp1 hb1 hB hka hkb hbW2 hb3 hb4 h32 h43 h42 o3 o4 HN hn4
  go_upto_region 5 with fail
  try rw [hA]
  try rw [hW2]
  refine wp_region_held_drew (S := fun w' => w'.cell? ⟨A, 0, none⟩ = some (.string ⟨#[65]⟩) ∧ w'.cell? ⟨A, 1, none⟩ = some (.string ⟨#[97]⟩) ∧ w'.cell? ⟨A + 1, 0, none⟩ = some (.string ⟨#[65]⟩) ∧ w'.cell? ⟨A + 1, 1, none⟩ = some (.string ⟨#[98]⟩)) (by kernel_rfl) ⟨a0, a1, b0, b1⟩ (fun hHeld => ?_)
  refine take_val (i := 0) (.pointer (some ⟨g, 0, none⟩)) rfl (by kernel_rfl) (by kernel_rfl) (by kernel_rfl) (fun _ _ _ h => h) (by rfl) (fun w hSw => by go_simp) hHeld ?_
  simp only [Act.put, List.setIfInBounds_toArray, List.set_cons_zero, List.set_cons_succ]
  refine take_val (i := 1) (.agg #[.string ⟨#[65]⟩, .string ⟨#[97]⟩]) rfl (by kernel_rfl) (by kernel_rfl) (by kernel_rfl) (fun _ _ _ h => h) (by rfl) (fun w hSw => by go_simp) hHeld ?_
  simp only [Act.put, List.setIfInBounds_toArray, List.set_cons_zero, List.set_cons_succ]
  refine take_val (i := 6) (.pointer (some ⟨g, 0, none⟩)) rfl (by kernel_rfl) (by kernel_rfl) (by kernel_rfl) (fun _ _ _ h => h) (by rfl) (fun w hSw => by go_simp) hHeld ?_
  simp only [Act.put, List.setIfInBounds_toArray, List.set_cons_zero, List.set_cons_succ]
  refine take_val (i := 7) (.agg #[.string ⟨#[65]⟩, .string ⟨#[98]⟩]) rfl (by kernel_rfl) (by kernel_rfl) (by kernel_rfl) (fun _ _ _ h => h) (by rfl) (fun w hSw => by go_simp) hHeld ?_
  simp only [Act.put, List.setIfInBounds_toArray, List.set_cons_zero, List.set_cons_succ]
  refine take_val (i := 9) (.pointer (some ⟨g, 0, none⟩)) rfl (by kernel_rfl) (by kernel_rfl) (by kernel_rfl) (fun _ _ _ h => h) (by rfl) (fun w hSw => by go_simp) hHeld ?_
  simp only [Act.put, List.setIfInBounds_toArray, List.set_cons_zero, List.set_cons_succ]
  refine take_val (i := 10) (.agg #[.string ⟨#[]⟩, .string ⟨#[]⟩]) rfl (by kernel_rfl) (by kernel_rfl) (by kernel_rfl) (fun _ _ _ h => h) (by rfl) (fun w hSw => by go_simp) hHeld ?_
  simp only [Act.put, List.setIfInBounds_toArray, List.set_cons_zero, List.set_cons_succ]
  clear hHeld
  refine wpAnyH_ready (rs := [2]) (by kernel_rfl) (by simp) ?_
  refine AllReadyH.cons (at_drop0 rfl) (fun K hK => ?_) AllReadyH.nil
  rw [if_pos (by rfl)]
  go_simp
  go_wp2_with fail
  try rw [hW3]
  refine hK.out _ _ (⟨c0, c1, d0, d1⟩) (fun hHeld => ?_)
  clear hK K
  try simp only [Act.put, List.setIfInBounds_toArray, List.set_cons_zero, List.set_cons_succ]
  refine take_val (i := 3) (.agg #[.string ⟨#[110]⟩, .slice (some ⟨A + 2, 0, none⟩) 1 1]) rfl (by kernel_rfl) (by kernel_rfl) (by kernel_rfl) (fun _ _ _ h => h) (by rfl) (fun w hSw => by go_simp) hHeld ?_
  simp only [Act.put, List.setIfInBounds_toArray, List.set_cons_zero, List.set_cons_succ]
  clear hHeld
  refine wpAnyH_ready (rs := [4]) (by kernel_rfl) (by simp) ?_
  refine AllReadyH.cons (at_drop0 rfl) (fun K hK => ?_) AllReadyH.nil
  rw [if_pos (by rfl)]
  go_simp
  go_wp2_with fail
  try rw [hW4]
  refine hK.out _ _ (⟨e0, e1, f0, f1⟩) (fun hHeld => ?_)
  clear hK K
  try simp only [Act.put, List.setIfInBounds_toArray, List.set_cons_zero, List.set_cons_succ]
  clear hHeld
  refine wpAnyH_ready (rs := [5]) (by kernel_rfl) (by simp) ?_
  refine AllReadyH.cons (at_drop0 rfl) (fun K hK => ?_) AllReadyH.nil
  rw [if_pos (by rfl)]
  go_simp
  refine HP1.out.mono ?_
  rintro e w5 ⟨rfl, o5⟩
  obtain ⟨⟨a0, a1, b0, b1⟩, hn5, _⟩ := KEY.out _ _ o5
  have HP2 := hid (onew_del o5 hn5 (by decide) gxb fitKy_b)
  rw [gc2, gp2] at HP2
  simp only [gxb] at HP2
  clear o5 HP1 hn5
  go_wp2_with fail
  refine hK.out _ _ (⟨a0, a1, b0, b1⟩) (fun hHeld => ?_)
  clear hK K
  try simp only [Act.put, List.setIfInBounds_toArray, List.set_cons_zero, List.set_cons_succ]
  clear hHeld
  refine wpAnyH_ready (rs := [8]) (by kernel_rfl) (by simp) ?_
  refine AllReadyH.cons (at_drop0 rfl) (fun K hK => ?_) AllReadyH.nil
  rw [if_pos (by rfl)]
  go_simp
  refine HP2.out.mono ?_
  rintro e w6 ⟨rfl, o6⟩
  obtain ⟨⟨a0, a1, b0, b1⟩, hn6, _⟩ := KEY.out _ _ o6
  have HP3 := hid (onew_put o6 hn6 (by decide) (⟨#[]⟩, ⟨#[]⟩) fitKy_0 (.slice none 0 0) [] [] (isXs_nil _).1 (isXs_nil w6).2.1 rfl)
  rw [gc3, gp3] at HP3
  clear o6 HP2 hn6
  go_wp2_with fail
  refine hK.out _ _ (⟨a0, a1, b0, b1⟩) (fun hHeld => ?_)
  clear hK K
  try simp only [Act.put, List.setIfInBounds_toArray, List.set_cons_zero, List.set_cons_succ]
  clear hHeld
  refine wpAnyH_ready (rs := [11]) (by kernel_rfl) (by simp) ?_
  refine AllReadyH.cons (at_drop0 rfl) (fun K hK => ?_) AllReadyH.nil
  rw [if_pos (by rfl)]
  go_simp
  refine HP3.out.mono ?_
  rintro e w7 ⟨rfl, o7⟩
  obtain ⟨⟨a0, a1, b0, b1⟩, hn7, hn7'⟩ := KEY.out _ _ o7
  have HG := hid (onew_get o7 (by decide) gxa fitKy_a)
  have HO7 := hid o7
  simp only [gxa] at HG
  clear o7 HP3
  go_wp2_with fail
  refine hK.out _ _ (⟨a0, a1, b0, b1⟩) (fun hHeld => ?_)
  clear hK K
  try simp only [Act.put, List.setIfInBounds_toArray, List.set_cons_zero, List.set_cons_succ]
  refine take_val (i := 12) (.int .i64 0) rfl (by kernel_rfl) (by kernel_rfl) (by kernel_rfl) (fun _ _ _ h => h) (by rfl) (fun w hSw => by go_simp) hHeld ?_
  simp only [Act.put, List.setIfInBounds_toArray, List.set_cons_zero, List.set_cons_succ]
  refine take_val (i := 13) (.int .i64 0) rfl (by kernel_rfl) (by kernel_rfl) (by kernel_rfl) (fun _ _ _ h => h) (by rfl) (fun w hSw => by go_simp) hHeld ?_
  simp only [Act.put, List.setIfInBounds_toArray, List.set_cons_zero, List.set_cons_succ]
  refine take_val (i := 14) (.int .i64 2) rfl (by kernel_rfl) (by kernel_rfl) (by kernel_rfl) (fun _ _ _ h => h) (by rfl) (fun w hSw => by go_simp) hHeld ?_
  simp only [Act.put, List.setIfInBounds_toArray, List.set_cons_zero, List.set_cons_succ]
  refine wpAnyH_done (by kernel_rfl) ?_ _
  clear hHeld
  go_wp2_with fail
  refine HG.out.mono ?_
  rintro e w8 ⟨p, c, o, rfl, _, ho, hb8⟩
  have hgg := gg1
  rw [gxa] at hgg
  rw [hgg] at ho ⊢
  have hlv : liveW (some (some gxV)) = true := rfl
  rw [hlv]
  have hol : o.length = 1 := by
    have := congrArg List.length ho
    simpa [valW, gxV] using this
  have o8 := HO7.out.on hb8
  obtain ⟨⟨a0, a1, b0, b1⟩, hn8, hn8'⟩ := KEY.out _ _ o8
  rw [hol]
  clear ho hb8 HO7 HG hn7 hn7' hol hgg
  obtain ⟨A8, hA8⟩ : ∃ A8, w8.heap.size = A8 := ⟨_, rfl⟩
  obtain ⟨W9, hW9⟩ : ∃ W9, w8.alloc (.cells #[.string ⟨#[65]⟩, .string ⟨#[98]⟩, .int .i64 0, .int .u64 0, .int .i64 0, .bool false, .slice none 0 0, .string ⟨#[65]⟩, .string ⟨#[100]⟩, .int .i64 0, .int .u64 0, .int .i64 0, .bool false, .slice none 0 0] 49) = W9 := ⟨_, rfl⟩
  have hb9 : Below w8.heap.size w8 W9 := by rw [← hW9]; exact (Below.refl _ _).alloc (Nat.le_refl _) _
  have hob9 : W9.heap[A8]? = some (.cells #[.string ⟨#[65]⟩, .string ⟨#[98]⟩, .int .i64 0, .int .u64 0, .int .i64 0, .bool false, .slice none 0 0, .string ⟨#[65]⟩, .string ⟨#[100]⟩, .int .i64 0, .int .u64 0, .int .i64 0, .bool false, .slice none 0 0] 49 (0, 0)) := by rw [← hW9, ← hA8]; exact heap_alloc_new w8 _
  have o9 := o8.on hb9
  have HOV := hid (onew_over o9 _ gFd (gfd_in hob9) gxT (.slice none 0 0) [] (Kind.is_nil KM W9) ⟨Nat.zero_le _, fun _ h => by simp at h⟩ (by decide))
  have hgm : gFd.map Fd.fnd = gF := rfl
  rw [hgm, gover] at HOV
  simp only [gxT] at HOV
  have HO9 := hid o9
  clear o8 o9 hb9 hob9 hgm hn8 hn8'
  go_wp2_with fail
  try rw [hA8]
  try rw [hW9]
  refine HOV.out.mono ?_
  rintro e w10 ⟨u, fs, rfl, hown, _, _, hfs, hb10⟩
  obtain ⟨f0, f1, rfl⟩ : ∃ f0 f1, fs = [f0, f1] := by
    have := congrArg List.length hfs
    match fs, this with
    | [x, y], _ => exact ⟨x, y, rfl⟩
  obtain ⟨pu, cap, rfl⟩ := Kind.own_shape hown
  obtain ⟨G, rfl, _, _, hat, _⟩ := Kind.own_form hown (by simp)
  have o10 := HO9.out.on hb10
  obtain ⟨k0, k1, _⟩ := kfd_at hat 0 (by simp)
  have hf0 : f0.fnd = (gxa, ⟨0, 0, 0, true, gxV⟩) := by
    simp only [List.map_cons, List.map_nil] at hfs
    injection hfs
  have ha0 : f0.a = ⟨#[65]⟩ := congrArg (fun x : Fnd => x.1.1) hf0
  have hb0 : f0.b = ⟨#[97]⟩ := congrArg (fun x : Fnd => x.1.2) hf0
  simp only [List.getElem_cons_zero, Nat.zero_mul, Nat.zero_add, ha0, hb0] at k0 k1
  have hGs := cell_block k0
  clear hfs hat hf0 ha0 hb0
  have hGn : W9.heap.size ≤ G := (World.ownsRow.lt hown G rfl).1
  obtain ⟨B9, hp9, hf9, hB9⟩ := HO9.out
  have hs29 := hf9.size
  have hs10 := hb10.size
  have KEY2 : Hid (∀ L W, OneW S N w10 B9 g L W → (W.cell? ⟨A, 0, none⟩ = some (.string ⟨#[65]⟩) ∧ W.cell? ⟨A, 1, none⟩ = some (.string ⟨#[97]⟩) ∧ W.cell? ⟨A + 1, 0, none⟩ = some (.string ⟨#[65]⟩) ∧ W.cell? ⟨A + 1, 1, none⟩ = some (.string ⟨#[98]⟩) ∧ W.cell? ⟨G, 0, none⟩ = some (.string ⟨#[65]⟩) ∧ W.cell? ⟨G, 1, none⟩ = some (.string ⟨#[97]⟩)) ∧ N ≤ W.heap.size ∧ Below N w W) := fun L W h => by
    have hA9 : ∀ k, k = A ∨ k = A + 1 → ¬ B9 k := fun k hk hb => by
      rcases hB9 k hb with h1 | h1
      · have := hBA k h1; omega
      · omega
    obtain ⟨⟨z0, z1, z2, z3⟩, z4, _⟩ := KEY.out _ _ o10
    have hbl : ∀ b o v, w10.cell? ⟨b, o, none⟩ = some v → ¬ B9 b → W.cell? ⟨b, o, none⟩ = some v := fun b o v hc hb => (World.cell?_of_block (a := ⟨b, o, none⟩) (h.block (b := b) (cell_block hc) hb)).trans hc
    have hG9 : ¬ B9 G := fun hb => by have := (S.blk hp9 G hb).2; omega
    exact ⟨⟨hbl _ _ _ z0 (hA9 A (Or.inl rfl)), hbl _ _ _ z1 (hA9 A (Or.inl rfl)), hbl _ _ _ z2 (hA9 _ (Or.inr rfl)), hbl _ _ _ z3 (hA9 _ (Or.inr rfl)), hbl _ _ _ k0 hG9, hbl _ _ _ k1 hG9⟩, Nat.le_trans z4 h.size, (HBW.out _ _ o10).trans (h.below z4 fun k hk => (S.blk hp9 k hk).1)⟩
  have q10 : OneW S N w10 B9 g gW2 w10 := OneW.start (S.on hp9 hb10)
  have qd : OneW S N w10 B9 g gW2 w10.drew := q10.on (bel_drewN (Below.refl _ _) 1)
  obtain ⟨⟨a0, a1, b0, b1, g0, g1⟩, _⟩ := KEY2.out _ _ q10
  have HL := hid (onew_len qd (by decide))
  have HQD := hid qd
  have hgl : gW2.length = 2 := rfl
  rw [hgl] at HL
  have heq := fun W => Z.eql_key ⟨#[65]⟩ ⟨#[97]⟩ ⟨#[65]⟩ ⟨#[97]⟩ W
  rw [Z.eqK_iff (⟨#[65]⟩, ⟨#[97]⟩) (⟨#[65]⟩, ⟨#[97]⟩), decide_eq_true rfl] at heq
  clear hown HO9 hp9 hf9 hB9 hb10 o10 q10 qd KEY HBW H2 HOV hW2 hW3 hW4 hW9 k0 k1 hGs hgl
  go_wp2_with fail
  refine wp_region_held_drew (S := fun w' => w'.cell? ⟨A, 0, none⟩ = some (.string ⟨#[65]⟩) ∧ w'.cell? ⟨A, 1, none⟩ = some (.string ⟨#[97]⟩) ∧ w'.cell? ⟨A + 1, 0, none⟩ = some (.string ⟨#[65]⟩) ∧ w'.cell? ⟨A + 1, 1, none⟩ = some (.string ⟨#[98]⟩) ∧ w'.cell? ⟨G, 0, none⟩ = some (.string ⟨#[65]⟩) ∧ w'.cell? ⟨G, 1, none⟩ = some (.string ⟨#[97]⟩)) (by kernel_rfl) ⟨a0, a1, b0, b1, g0, g1⟩ (fun hHeld => ?_)
  refine take_val (i := 0) (.int .i64 0) rfl (by kernel_rfl) (by kernel_rfl) (by kernel_rfl) (fun _ _ _ h => h) (by rfl) (fun w hSw => by go_simp) hHeld ?_
  simp only [Act.put, List.setIfInBounds_toArray, List.set_cons_zero, List.set_cons_succ]
  refine take_val (i := 1) (.bool true) rfl (by kernel_rfl) (by kernel_rfl) (by kernel_rfl) (fun _ _ _ h => h) (by rfl) (fun w hSw => by go_simp) hHeld ?_
  simp only [Act.put, List.setIfInBounds_toArray, List.set_cons_zero, List.set_cons_succ]
  refine take_val (i := 2) (.bool true) rfl (by kernel_rfl) (by kernel_rfl) (by kernel_rfl) (fun _ _ _ h => h) (by rfl) (fun w hSw => by go_simp) hHeld ?_
  simp only [Act.put, List.setIfInBounds_toArray, List.set_cons_zero, List.set_cons_succ]
  refine take_val (i := 3) (.int .i64 0) rfl (by kernel_rfl) (by kernel_rfl) (by kernel_rfl) (fun _ _ _ h => h) (by rfl) (fun w hSw => by go_simp) hHeld ?_
  simp only [Act.put, List.setIfInBounds_toArray, List.set_cons_zero, List.set_cons_succ]
  refine take_val (i := 4) (.bool true) rfl (by kernel_rfl) (by kernel_rfl) (by kernel_rfl) (fun _ _ _ h => h) (by rfl) (fun w hSw => by go_simp) hHeld ?_
  simp only [Act.put, List.setIfInBounds_toArray, List.set_cons_zero, List.set_cons_succ]
  refine take_val (i := 5) (.bool true) rfl (by kernel_rfl) (by kernel_rfl) (by kernel_rfl) (fun _ _ _ h => h) (by rfl) (fun w hSw => by go_simp) hHeld ?_
  simp only [Act.put, List.setIfInBounds_toArray, List.set_cons_zero, List.set_cons_succ]
  refine take_val (i := 6) (.bool true) rfl (by kernel_rfl) (by kernel_rfl) (by kernel_rfl) (fun _ _ _ h => h) (by rfl) (fun w hSw => by go_simp) hHeld ?_
  simp only [Act.put, List.setIfInBounds_toArray, List.set_cons_zero, List.set_cons_succ]
  refine take_val (i := 7) (.int .i64 2) rfl (by kernel_rfl) (by kernel_rfl) (by kernel_rfl) (fun _ _ _ h => h) (by rfl) (fun w hSw => by go_simp) hHeld ?_
  simp only [Act.put, List.setIfInBounds_toArray, List.set_cons_zero, List.set_cons_succ]
  refine take_val (i := 8) (.bool true) rfl (by kernel_rfl) (by kernel_rfl) (by kernel_rfl) (fun _ _ _ h => h) (by rfl) (fun w hSw => by go_simp) hHeld ?_
  simp only [Act.put, List.setIfInBounds_toArray, List.set_cons_zero, List.set_cons_succ]
  refine take_val (i := 9) (.bool true) rfl (by kernel_rfl) (by kernel_rfl) (by kernel_rfl) (fun _ _ _ h => h) (by rfl) (fun w hSw => by go_simp) hHeld ?_
  simp only [Act.put, List.setIfInBounds_toArray, List.set_cons_zero, List.set_cons_succ]
  refine take_val (i := 10) (.bool true) rfl (by kernel_rfl) (by kernel_rfl) (by kernel_rfl) (fun _ _ _ h => h) (by rfl) (fun w hSw => by go_simp) hHeld ?_
  simp only [Act.put, List.setIfInBounds_toArray, List.set_cons_zero, List.set_cons_succ]
  refine take_val (i := 11) (.slice p 1 c) rfl (by kernel_rfl) (by kernel_rfl) (by kernel_rfl) (fun _ _ _ h => h) (by rfl) (fun w hSw => by go_simp) hHeld ?_
  simp only [Act.put, List.setIfInBounds_toArray, List.set_cons_zero, List.set_cons_succ]
  refine take_val (i := 12) (.int .i64 1) rfl (by kernel_rfl) (by kernel_rfl) (by kernel_rfl) (fun _ _ _ h => h) (by rfl) (fun w hSw => by go_simp) hHeld ?_
  simp only [Act.put, List.setIfInBounds_toArray, List.set_cons_zero, List.set_cons_succ]
  refine take_val (i := 13) (.bool true) rfl (by kernel_rfl) (by kernel_rfl) (by kernel_rfl) (fun _ _ _ h => h) (by rfl) (fun w hSw => by go_simp) hHeld ?_
  simp only [Act.put, List.setIfInBounds_toArray, List.set_cons_zero, List.set_cons_succ]
  refine take_val (i := 14) (.bool true) rfl (by kernel_rfl) (by kernel_rfl) (by kernel_rfl) (fun _ _ _ h => h) (by rfl) (fun w hSw => by go_simp) hHeld ?_
  simp only [Act.put, List.setIfInBounds_toArray, List.set_cons_zero, List.set_cons_succ]
  refine take_val (i := 15) (.bool true) rfl (by kernel_rfl) (by kernel_rfl) (by kernel_rfl) (fun _ _ _ h => h) (by rfl) (fun w hSw => by go_simp) hHeld ?_
  simp only [Act.put, List.setIfInBounds_toArray, List.set_cons_zero, List.set_cons_succ]
  refine take_val (i := 16) (.bool true) rfl (by kernel_rfl) (by kernel_rfl) (by kernel_rfl) (fun _ _ _ h => h) (by rfl) (fun w hSw => by go_simp) hHeld ?_
  simp only [Act.put, List.setIfInBounds_toArray, List.set_cons_zero, List.set_cons_succ]
  refine take_val (i := 17) (.bool true) rfl (by kernel_rfl) (by kernel_rfl) (by kernel_rfl) (fun _ _ _ h => h) (by rfl) (fun w hSw => by go_simp) hHeld ?_
  simp only [Act.put, List.setIfInBounds_toArray, List.set_cons_zero, List.set_cons_succ]
  refine take_val (i := 18) (.bool true) rfl (by kernel_rfl) (by kernel_rfl) (by kernel_rfl) (fun _ _ _ h => h) (by rfl) (fun w hSw => by go_simp) hHeld ?_
  simp only [Act.put, List.setIfInBounds_toArray, List.set_cons_zero, List.set_cons_succ]
  refine take_val (i := 19) (.bool true) rfl (by kernel_rfl) (by kernel_rfl) (by kernel_rfl) (fun _ _ _ h => h) (by rfl) (fun w hSw => by go_simp) hHeld ?_
  simp only [Act.put, List.setIfInBounds_toArray, List.set_cons_zero, List.set_cons_succ]
  refine take_val (i := 20) (.bool true) rfl (by kernel_rfl) (by kernel_rfl) (by kernel_rfl) (fun _ _ _ h => h) (by rfl) (fun w hSw => by go_simp) hHeld ?_
  simp only [Act.put, List.setIfInBounds_toArray, List.set_cons_zero, List.set_cons_succ]
  refine take_val (i := 21) (.bool true) rfl (by kernel_rfl) (by kernel_rfl) (by kernel_rfl) (fun _ _ _ h => h) (by rfl) (fun w hSw => by go_simp) hHeld ?_
  simp only [Act.put, List.setIfInBounds_toArray, List.set_cons_zero, List.set_cons_succ]
  refine take_val (i := 22) (.slice (some ⟨G, 0, none⟩) 2 cap) rfl (by kernel_rfl) (by kernel_rfl) (by kernel_rfl) (fun _ _ _ h => h) (by rfl) (fun w hSw => by go_simp) hHeld ?_
  simp only [Act.put, List.setIfInBounds_toArray, List.set_cons_zero, List.set_cons_succ]
  refine take_val (i := 23) (.int .i64 2) rfl (by kernel_rfl) (by kernel_rfl) (by kernel_rfl) (fun _ _ _ h => h) (by rfl) (fun w hSw => by go_simp) hHeld ?_
  simp only [Act.put, List.setIfInBounds_toArray, List.set_cons_zero, List.set_cons_succ]
  refine take_val (i := 24) (.bool true) rfl (by kernel_rfl) (by kernel_rfl) (by kernel_rfl) (fun _ _ _ h => h) (by rfl) (fun w hSw => by go_simp) hHeld ?_
  simp only [Act.put, List.setIfInBounds_toArray, List.set_cons_zero, List.set_cons_succ]
  refine take_val (i := 25) (.bool true) rfl (by kernel_rfl) (by kernel_rfl) (by kernel_rfl) (fun _ _ _ h => h) (by rfl) (fun w hSw => by go_simp) hHeld ?_
  simp only [Act.put, List.setIfInBounds_toArray, List.set_cons_zero, List.set_cons_succ]
  refine take_val (i := 26) (.bool true) rfl (by kernel_rfl) (by kernel_rfl) (by kernel_rfl) (fun _ _ _ h => h) (by rfl) (fun w hSw => by go_simp) hHeld ?_
  simp only [Act.put, List.setIfInBounds_toArray, List.set_cons_zero, List.set_cons_succ]
  refine take_val (i := 27) (.slice (some ⟨G, 0, none⟩) 2 cap) rfl (by kernel_rfl) (by kernel_rfl) (by kernel_rfl) (fun _ _ _ h => h) (by rfl) (fun w hSw => by go_simp) hHeld ?_
  simp only [Act.put, List.setIfInBounds_toArray, List.set_cons_zero, List.set_cons_succ]
  refine take_val (i := 28) (.pointer (some ⟨G, 0, none⟩)) rfl (by kernel_rfl) (by kernel_rfl) (by kernel_rfl) (fun _ _ _ h => h) (by rfl) (fun w hSw => by go_simp) hHeld ?_
  simp only [Act.put, List.setIfInBounds_toArray, List.set_cons_zero, List.set_cons_succ]
  refine take_val (i := 29) (.pointer (some ⟨G, 0, none⟩)) rfl (by kernel_rfl) (by kernel_rfl) (by kernel_rfl) (fun _ _ _ h => h) (by rfl) (fun w hSw => by go_simp) hHeld ?_
  simp only [Act.put, List.setIfInBounds_toArray, List.set_cons_zero, List.set_cons_succ]
  refine take_val (i := 30) (.agg #[.string ⟨#[65]⟩, .string ⟨#[97]⟩]) rfl (by kernel_rfl) (by kernel_rfl) (by kernel_rfl) (fun _ _ _ h => h) (by rfl) (fun w hSw => by go_simp) hHeld ?_
  simp only [Act.put, List.setIfInBounds_toArray, List.set_cons_zero, List.set_cons_succ]
  refine take_val (i := 31) (.agg #[.string ⟨#[65]⟩, .string ⟨#[97]⟩]) rfl (by kernel_rfl) (by kernel_rfl) (by kernel_rfl) (fun _ _ _ h => h) (by rfl) (fun w hSw => by go_simp) hHeld ?_
  simp only [Act.put, List.setIfInBounds_toArray, List.set_cons_zero, List.set_cons_succ]
  refine take_val (i := 32) (.bool true) rfl (by kernel_rfl) (by kernel_rfl) (by kernel_rfl) (fun _ _ _ h => h) (by rfl) (fun w hSw => by go_simp) hHeld ?_
  simp only [Act.put, List.setIfInBounds_toArray, List.set_cons_zero, List.set_cons_succ]
  refine take_val (i := 33) (.bool true) rfl (by kernel_rfl) (by kernel_rfl) (by kernel_rfl) (fun _ _ _ h => h) (by rfl) (fun w hSw => by go_simp) hHeld ?_
  simp only [Act.put, List.setIfInBounds_toArray, List.set_cons_zero, List.set_cons_succ]
  refine take_val (i := 34) (.bool true) rfl (by kernel_rfl) (by kernel_rfl) (by kernel_rfl) (fun _ _ _ h => h) (by rfl) (fun w hSw => by go_simp) hHeld ?_
  simp only [Act.put, List.setIfInBounds_toArray, List.set_cons_zero, List.set_cons_succ]
  refine take_val (i := 35) (.pointer (some ⟨g, 0, none⟩)) rfl (by kernel_rfl) (by kernel_rfl) (by kernel_rfl) (fun _ _ _ h => h) (by rfl) (fun w hSw => by go_simp) hHeld ?_
  simp only [Act.put, List.setIfInBounds_toArray, List.set_cons_zero, List.set_cons_succ]
  clear hHeld
  refine wpAnyH_ready (rs := [36]) (by kernel_rfl) (by simp) ?_
  refine AllReadyH.cons (at_drop0 rfl) (fun K hK => ?_) AllReadyH.nil
  rw [if_pos (by rfl)]
  go_simp
  refine HL.out.mono ?_
  rintro e w11 ⟨rfl, hb11⟩
  have q11 := HQD.out.on hb11
  obtain ⟨⟨a0, a1, b0, b1, g0, g1⟩, _⟩ := KEY2.out _ _ q11
  have HKS := hid (onew_keys q11 (by decide))
  have HQ11 := hid q11
  clear hb11 HL q11 HQD
  go_wp2_with fail
  refine hK.out _ _ (⟨a0, a1, b0, b1, g0, g1⟩) (fun hHeld => ?_)
  clear hK K
  try simp only [Act.put, List.setIfInBounds_toArray, List.set_cons_zero, List.set_cons_succ]
  refine take_val (i := 37) (.bool true) rfl (by kernel_rfl) (by kernel_rfl) (by kernel_rfl) (fun _ _ _ h => h) (by rfl) (fun w hSw => by go_simp) hHeld ?_
  simp only [Act.put, List.setIfInBounds_toArray, List.set_cons_zero, List.set_cons_succ]
  refine take_val (i := 38) (.bool true) rfl (by kernel_rfl) (by kernel_rfl) (by kernel_rfl) (fun _ _ _ h => h) (by rfl) (fun w hSw => by go_simp) hHeld ?_
  simp only [Act.put, List.setIfInBounds_toArray, List.set_cons_zero, List.set_cons_succ]
  refine take_val (i := 39) (.bool true) rfl (by kernel_rfl) (by kernel_rfl) (by kernel_rfl) (fun _ _ _ h => h) (by rfl) (fun w hSw => by go_simp) hHeld ?_
  simp only [Act.put, List.setIfInBounds_toArray, List.set_cons_zero, List.set_cons_succ]
  refine take_val (i := 40) (.pointer (some ⟨g, 0, none⟩)) rfl (by kernel_rfl) (by kernel_rfl) (by kernel_rfl) (fun _ _ _ h => h) (by rfl) (fun w hSw => by go_simp) hHeld ?_
  simp only [Act.put, List.setIfInBounds_toArray, List.set_cons_zero, List.set_cons_succ]
  clear hHeld
  refine wpAnyH_ready (rs := [41]) (by kernel_rfl) (by simp) ?_
  refine AllReadyH.cons (at_drop0 rfl) (fun K hK => ?_) AllReadyH.nil
  rw [if_pos (by rfl)]
  go_simp
  refine HKS.out.mono ?_
  rintro e w12 ⟨u, rfl, hu, hb12⟩
  obtain ⟨pk, ck, rfl⟩ := Kind.own_shape hu
  have hkl : (keysW gW2).length = 2 := rfl
  rw [hkl]
  have q12 := HQ11.out.on hb12
  obtain ⟨⟨a0, a1, b0, b1, g0, g1⟩, hn12, _⟩ := KEY2.out _ _ q12
  have HF1 := hid (onew_forget q12 hn12 (by decide) gxb fitKy_b)
  rw [gg2] at HF1
  simp only [gxb] at HF1
  clear hb12 HKS q12 HQ11 hu hkl hn12
  go_wp2_with fail
  refine hK.out _ _ (⟨a0, a1, b0, b1, g0, g1⟩) (fun hHeld => ?_)
  clear hK K
  try simp only [Act.put, List.setIfInBounds_toArray, List.set_cons_zero, List.set_cons_succ]
  refine take_val (i := 42) (.int .i64 2) rfl (by kernel_rfl) (by kernel_rfl) (by kernel_rfl) (fun _ _ _ h => h) (by rfl) (fun w hSw => by go_simp) hHeld ?_
  simp only [Act.put, List.setIfInBounds_toArray, List.set_cons_zero, List.set_cons_succ]
  refine take_val (i := 43) (.bool true) rfl (by kernel_rfl) (by kernel_rfl) (by kernel_rfl) (fun _ _ _ h => h) (by rfl) (fun w hSw => by go_simp) hHeld ?_
  simp only [Act.put, List.setIfInBounds_toArray, List.set_cons_zero, List.set_cons_succ]
  refine take_val (i := 44) (.bool true) rfl (by kernel_rfl) (by kernel_rfl) (by kernel_rfl) (fun _ _ _ h => h) (by rfl) (fun w hSw => by go_simp) hHeld ?_
  simp only [Act.put, List.setIfInBounds_toArray, List.set_cons_zero, List.set_cons_succ]
  refine take_val (i := 45) (.bool true) rfl (by kernel_rfl) (by kernel_rfl) (by kernel_rfl) (fun _ _ _ h => h) (by rfl) (fun w hSw => by go_simp) hHeld ?_
  simp only [Act.put, List.setIfInBounds_toArray, List.set_cons_zero, List.set_cons_succ]
  refine take_val (i := 46) (.pointer (some ⟨g, 0, none⟩)) rfl (by kernel_rfl) (by kernel_rfl) (by kernel_rfl) (fun _ _ _ h => h) (by rfl) (fun w hSw => by go_simp) hHeld ?_
  simp only [Act.put, List.setIfInBounds_toArray, List.set_cons_zero, List.set_cons_succ]
  refine take_val (i := 47) (.agg #[.string ⟨#[65]⟩, .string ⟨#[98]⟩]) rfl (by kernel_rfl) (by kernel_rfl) (by kernel_rfl) (fun _ _ _ h => h) (by rfl) (fun w hSw => by go_simp) hHeld ?_
  simp only [Act.put, List.setIfInBounds_toArray, List.set_cons_zero, List.set_cons_succ]
  clear hHeld
  refine wpAnyH_ready (rs := [48]) (by kernel_rfl) (by simp) ?_
  refine AllReadyH.cons (at_drop0 rfl) (fun K hK => ?_) AllReadyH.nil
  rw [if_pos (by rfl)]
  go_simp
  refine HF1.out.mono ?_
  rintro e w13 ⟨rfl, q13⟩
  obtain ⟨⟨a0, a1, b0, b1, g0, g1⟩, hn13, _⟩ := KEY2.out _ _ q13
  have HF2 := hid (onew_forget q13 hn13 (Nat.le_trans (delW_len _ _) (by decide)) gxb fitKy_b)
  have hg4 := gg4
  simp only [gxb] at hg4 HF2
  rw [hg4] at HF2
  clear HF1 q13 hn13 hg4
  go_wp2_with fail
  refine hK.out _ _ (⟨a0, a1, b0, b1, g0, g1⟩) (fun hHeld => ?_)
  clear hK K
  try simp only [Act.put, List.setIfInBounds_toArray, List.set_cons_zero, List.set_cons_succ]
  refine take_val (i := 49) (.bool true) rfl (by kernel_rfl) (by kernel_rfl) (by kernel_rfl) (fun _ _ _ h => h) (by rfl) (fun w hSw => by go_simp) hHeld ?_
  simp only [Act.put, List.setIfInBounds_toArray, List.set_cons_zero, List.set_cons_succ]
  refine take_val (i := 50) (.bool true) rfl (by kernel_rfl) (by kernel_rfl) (by kernel_rfl) (fun _ _ _ h => h) (by rfl) (fun w hSw => by go_simp) hHeld ?_
  simp only [Act.put, List.setIfInBounds_toArray, List.set_cons_zero, List.set_cons_succ]
  refine take_val (i := 51) (.pointer (some ⟨g, 0, none⟩)) rfl (by kernel_rfl) (by kernel_rfl) (by kernel_rfl) (fun _ _ _ h => h) (by rfl) (fun w hSw => by go_simp) hHeld ?_
  simp only [Act.put, List.setIfInBounds_toArray, List.set_cons_zero, List.set_cons_succ]
  refine take_val (i := 52) (.agg #[.string ⟨#[65]⟩, .string ⟨#[98]⟩]) rfl (by kernel_rfl) (by kernel_rfl) (by kernel_rfl) (fun _ _ _ h => h) (by rfl) (fun w hSw => by go_simp) hHeld ?_
  simp only [Act.put, List.setIfInBounds_toArray, List.set_cons_zero, List.set_cons_succ]
  clear hHeld
  refine wpAnyH_ready (rs := [53]) (by kernel_rfl) (by simp) ?_
  refine AllReadyH.cons (at_drop0 rfl) (fun K hK => ?_) AllReadyH.nil
  rw [if_pos (by rfl)]
  go_simp
  refine HF2.out.mono ?_
  rintro e w14 ⟨rfl, q14⟩
  obtain ⟨⟨a0, a1, b0, b1, g0, g1⟩, _, hb14⟩ := KEY2.out _ _ q14
  have HB14 := hid hb14
  clear HF2 q14 hb14
  go_wp2_with fail
  refine hK.out _ _ (⟨a0, a1, b0, b1, g0, g1⟩) (fun hHeld => ?_)
  clear hK K
  try simp only [Act.put, List.setIfInBounds_toArray, List.set_cons_zero, List.set_cons_succ]
  refine take_val (i := 54) (.bool true) rfl (by kernel_rfl) (by kernel_rfl) (by kernel_rfl) (fun _ _ _ h => h) (by rfl) (fun w hSw => by go_simp) hHeld ?_
  simp only [Act.put, List.setIfInBounds_toArray, List.set_cons_zero, List.set_cons_succ]
  refine take_val (i := 55) (.bool true) rfl (by kernel_rfl) (by kernel_rfl) (by kernel_rfl) (fun _ _ _ h => h) (by rfl) (fun w hSw => by go_simp) hHeld ?_
  simp only [Act.put, List.setIfInBounds_toArray, List.set_cons_zero, List.set_cons_succ]
  refine take_val (i := 56) (.bool true) rfl (by kernel_rfl) (by kernel_rfl) (by kernel_rfl) (fun _ _ _ h => h) (by rfl) (fun w hSw => by go_simp) hHeld ?_
  simp only [Act.put, List.setIfInBounds_toArray, List.set_cons_zero, List.set_cons_succ]
  refine wpAnyH_done (by kernel_rfl) ?_ _
  clear hHeld
  go_wp2_with fail
  go_ret
  rw [hN]
  exact ⟨rfl, HB14.out⟩

end Go.Proofs.Ytjehjjpdicimhaa

/-
  WritesLast (stage 11), what its walk leans on.
-/
namespace Go.Proofs.Ytjehjjpdicimhaa
open Go.RowKit

/-- A set of the program; ahead of n0 all is as in w1. -/
def PrgS (S : SetApi) (n0 : Nat) (w1 : World) (g : Nat) (L : List RowW) (W : World) : Prop := (∃ B, S.Prg n0 W B g L) ∧ Below n0 w1 W ∧ n0 ≤ W.heap.size

section
variable {S : SetApi} {n0 : Nat} {w1 : World} {g : Nat} {L : List RowW} {W : World}
theorem PrgS.new {g : Nat} (hn : n0 = w1.heap.size) (h : OneW S n0 w1 (fun _ => False) g L W) : PrgS S n0 w1 g L W := by
  have hb := h.below (N := n0) (by omega) fun k hk => hk.elim
  have hs := hb.size
  obtain ⟨B, h1, _⟩ := h
  exact ⟨⟨B, h1⟩, hb, by omega⟩
theorem PrgS.on {W' : World} (h : PrgS S n0 w1 g L W) (hb : Below W.heap.size W W') : PrgS S n0 w1 g L W' := by
  obtain ⟨⟨B, h1⟩, h2, h3⟩ := h
  exact ⟨⟨B, S.on h1 hb⟩, h2.trans (hb.mono h3), Nat.le_trans h3 hb.size⟩
theorem PrgS.one (h : PrgS S n0 w1 g L W) : ∃ B, OneW S n0 W B g L W ∧ (∀ k, B k → n0 ≤ k ∧ k < W.heap.size) := by
  obtain ⟨⟨B, h1⟩, _⟩ := h
  exact ⟨B, OneW.start h1, fun k hk => S.blk h1 k hk⟩
theorem PrgS.then {B : Nat → Prop} {L' : List RowW} {W' : World} (h : PrgS S n0 w1 g L W) (hB : ∀ k, B k → n0 ≤ k) (h' : OneW S n0 W B g L' W') : PrgS S n0 w1 g L' W' := by
  have hb := h'.below (N := n0) h.2.2 hB
  have hs := h'.size
  obtain ⟨B', h1, _⟩ := h'
  exact ⟨⟨B', h1⟩, h.2.1.trans hb, Nat.le_trans h.2.2 hs⟩
theorem PrgS.ok (h : PrgS S n0 w1 g L W) : OkW L := by
  obtain ⟨⟨B, h1⟩, _⟩ := h
  exact S.ok h1
end

theorem codePW_cases (k : Ky) (v : List Fld) : codePW k v = 0 ∨ codePW k v = 2 ∨ codePW k v = 3 := by
  unfold codePW
  split
  · exact Or.inr (Or.inl rfl)
  · split
    · exact Or.inr (Or.inr rfl)
    · exact Or.inl rfl
theorem codeDW_cases (k : Ky) : codeDW k = 0 ∨ codeDW k = 2 := by
  unfold codeDW
  split
  · exact Or.inr rfl
  · exact Or.inl rfl

theorem fitKy_key {k : Ky} (h : keyB k.1 k.2 = true) : FitKy k := by
  unfold keyB at h
  rw [Bool.and_eq_true] at h
  have h1 := typeB_len h.1
  have h2 := idenB_len h.2
  simp at h1 h2
  unfold FitKy maxLen
  constructor <;> omega

theorem keysW_get {L : List RowW} (h : OkW L) {i : Nat} (hi : i < (keysW L).length) : FitKy (keysW L)[i] ∧ (getW L (keysW L)[i]).isSome = true := by
  have hm : (keysW L)[i] ∈ keysW L := List.getElem_mem hi
  obtain ⟨y, hy, he⟩ := List.mem_map.1 hm
  rw [← he]
  refine ⟨fitKy_key (h.key y hy), ?_⟩
  rw [getW_of h.rise hy]
  rfl
theorem keysW_ne {L : List RowW} (h : OkW L) {i j : Nat} (hij : i < j) (hj : j < (keysW L).length) : (keysW L)[i]'(by omega) ≠ (keysW L)[j] := fun e => by
  have hp := List.pairwise_iff_getElem.1 h.rise i j (by rw [keysW, List.length_map] at hj; omega) (by rw [keysW, List.length_map] at hj; exact hj) hij
  simp only [keysW, List.getElem_map] at e
  rw [e, totK.irr] at hp
  cases hp

end Go.Proofs.Ytjehjjpdicimhaa

/-
  WritesLast (stage 11): what a key has is what was written for it last.
-/
namespace Go.Proofs.Ytjehjjpdicimhaa
open Go.RowKit

set_option linter.unusedSimpArgs false in
set_option maxHeartbeats 16000000 in
set_option maxRecDepth 100000 in
theorem last11_any (S : SetApi) (v : Value) (ops : List Ow) (w : World) (hv : KOw.Is w v ops) (hx : ∀ x ∈ ops, OpW w x) (hl : ops.length < 1290000000000) :
    Calls Try.prog 3 #[v] w fun e w' => e = .returned (.bool true) ∧ Below w.heap.size w w' := by
  have HF := hid (fixed11_any S w)
  obtain ⟨p, cap, rfl, hd⟩ := hv
  have HD := hid hd
  have HX := hid hx
  clear hx hd
  go_enter Try.func3, Try.ntmps3
  go_wp2_with fail
  refine HF.out.mono ?_
  rintro e w1 ⟨rfl, hb1⟩
  have HN := hid (onew_new S w1)
  have HB1 := hid hb1
  clear hb1 HF
  go_wp2_with fail
  refine HN.out.mono ?_
  rintro e w2 ⟨g, rfl, hp2⟩
  have HP2 := hid (PrgS.new rfl hp2)
  have hws := HB1.out.size
  obtain ⟨n0, hn0⟩ : ∃ n0, w1.heap.size = n0 := ⟨_, rfl⟩
  rw [hn0] at HP2 hws
  have HBW : Hid (∀ W, Below n0 w1 W → Below w.heap.size w W) := fun W h => HB1.out.trans (h.mono hws)
  clear hp2 HN hn0
  go_wp2_with fail
  go_loopg [24] ops.length (fun gg vi wr => ∃ (i : Nat) (L : List RowW), vi = .int .i64 i ∧ i ≤ ops.length ∧ ops.length - i ≤ gg ∧ Hid (PrgS S n0 w1 g L wr) ∧ L.length ≤ i)
  case atStart => exact ⟨0, [], rfl, by omega, by omega, HP2.out, Nat.le_refl _⟩
  case round =>
    clear HP2
    obtain ⟨i, L, rfl, hi, hgk, HI, hLi⟩ := hrel
    have hbw : Below w.heap.size w wr := HBW.out wr HI.out.2.1
    by_cases hlt : i < ops.length
    · have hltz : (i : Int) < (ops.length : Int) := by omega
      have hiz : (0 : Int) ≤ i := by omega
      obtain ⟨b1, o1, rfl, k1⟩ : ∃ b off, p = some ⟨b, off, none⟩ ∧ KOw.At w b off ops := by
        rcases HD.out with h | h
        · rw [h] at hlt; simp at hlt
        · exact h
      obtain ⟨y0, y1, y2, y3, y4, y5⟩ := kow_at (Kind.at_kept k1 hbw) i hlt
      have hx0 := HX.out _ (List.getElem_mem hlt)
      generalize ops[i] = x at *
      obtain ⟨V, hV⟩ : ∃ V, wr.alloc (.cells (encOw x).toArray 32) = V := ⟨_, rfl⟩
      obtain ⟨O, hO⟩ : ∃ O, wr.heap.size = O := ⟨_, rfl⟩
      have hbV : Below wr.heap.size wr V := by rw [← hV]; exact (Below.refl _ _).alloc (Nat.le_refl _) _
      have hVo : V.heap[O]? = some (.cells (encOw x).toArray 32 (0, 0)) := by rw [← hV, ← hO]; exact heap_alloc_new wr _
      have hVs : V.heap.size = O + 1 := by rw [← hV, ← hO]; simp
      obtain ⟨B, hB1, hB2⟩ := HI.out.one
      have hPV : PrgS S n0 w1 g L V := HI.out.on hbV
      have oV : OneW S n0 V B g L V := by
        obtain ⟨B', q1, q2, q3⟩ := hB1
        refine ⟨B', S.on q1 hbV, Fr.refl _ _, fun k hk => ?_⟩
        rcases q3 k hk with h | h
        · exact Or.inl h
        · have := (S.blk q1 k hk).2; omega
      have HCC : Hid (∀ L1 w', OneW S n0 V B g L1 w' → (w'.cell? ⟨O, 0, none⟩ = some (.int .i64 x.kind) ∧ w'.cell? ⟨O, 1, none⟩ = some (.string x.a) ∧ w'.cell? ⟨O, 2, none⟩ = some (.string x.b) ∧ w'.cell? ⟨O, 3, none⟩ = some (.slice x.p x.o.length x.cap)) ∧ OpW w' x ∧ n0 ≤ w'.heap.size ∧ PrgS S n0 w1 g L1 w') := fun L1 w' q => by
        have hO' : ¬ B O := fun hb => by have := (hB2 O hb).2; omega
        have := (q.block (b := O) (by omega) hO').trans hVo
        have hp' := hPV.then (fun k hk => (hB2 k hk).1) q
        exact ⟨⟨by rw [Lib.cell_of_heap this]; rfl, by rw [Lib.cell_of_heap this]; rfl, by rw [Lib.cell_of_heap this]; rfl, by rw [Lib.cell_of_heap this]; rfl⟩, hx0.on (HBW.out _ hp'.2.1), hp'.2.2, hp'⟩
      have HOV := hid oV
      obtain ⟨⟨c0, c1, c2, c3⟩, hopV, hnV, _⟩ := HCC.out _ _ oV
      have HKF := hid hopV.kfit
      have hL13 : L.length < 1300000000000 := by omega
      have hL13' : L.length ≤ 1300000000000 := by omega
      have HPUT := hid (onew_put oV hnV hL13 x.key hopV.kfit _ x.o x.val hopV.is hopV.fit rfl)
      have HDEL := hid (onew_del oV hnV hL13 x.key hopV.kfit)
      have HFOR := hid (onew_forget oV hnV hL13' x.key hopV.kfit)
      have HGET : Hid (∀ L1 w', OneW S n0 V B g L1 w' → L1.length ≤ L.length + 1 → Calls Try.prog 11 #[.pointer (some ⟨g, 0, none⟩), .agg #[.string x.a, .string x.b]] w' fun e w'' => GetPostP w' L1 x.key e w'') := fun L1 w' q hl1 => onew_get q (by omega) x.key HKF.out
      have HNX : Hid (∀ L1 w' w'', OneW S n0 V B g L1 w' → Below w'.heap.size w' w'' → L1.length ≤ L.length + 1 → PrgS S n0 w1 g L1 w'' ∧ L1.length ≤ i + 1) := fun L1 w' w'' q hb hl1 => ⟨((HCC.out _ _ q).2.2.2).on hb, by omega⟩
      have HSF : Hid (∀ L1 w' w'' p1 f1 (o1 : List Fx), OneW S n0 V B g L1 w' → Below w'.heap.size w' w'' → OwnJ w'.heap.size w'' (.slice p1 o1.length f1) o1 → o1.map Fx.fld = x.val → Calls Try.prog 12 #[.slice p1 o1.length f1, .slice x.p x.o.length x.cap] w'' fun r w3 => r = .returned (.bool true) ∧ Below w''.heap.size w'' w3) := fun L1 w' w'' p1 f1 o1 q hb hJ ho => by
        have hop := ((HCC.out _ _ q).2.1).on hb
        have := sameF_any (.slice p1 o1.length f1) (.slice x.p x.o.length x.cap) o1 x.o w'' hJ.1.is hop.is (fitX_same ho hop.fit) hop.fit
        rw [decide_eq_true (show o1.map Fx.fld = x.o.map Fx.fld from ho)] at this
        refine this.mono ?_
        rintro r w3 ⟨rfl, n, rfl⟩
        exact ⟨rfl, bel_drewN (Below.refl _ _) n⟩
      have HC1 := hid (codePW_cases x.key x.val)
      have HC2 := hid (codeDW_cases x.key)
      have HG1 : Hid (codePW x.key x.val = 0 → getW (putW L x.key x.val) x.key = some (some x.val)) := fun h => by rw [getW_put, if_pos ⟨h, rfl⟩]
      have HG2 : Hid (codeDW x.key = 0 → getW (dltW L x.key) x.key = some none) := fun h => by rw [getW_dlt, if_pos ⟨h, rfl⟩]
      have HG3 : Hid (getW (delW L x.key) x.key = none) := by show _ = _; rw [getW_del, if_pos rfl]
      have hlp := putW_len L x.key x.val
      have hld := dltW_len L x.key
      have hlf := Nat.le_trans (delW_len L x.key) (Nat.le_succ _)
      have HLP := hid hlp
      have HLD := hid hld
      have HLF := hid hlf
      clear hx0 hbw k1 HI hbV hVo hB1 hB2 hPV oV hopV hnV hlp hld hlf
      obtain ⟨xk, xa, xb, xp, xc, xo, xq, xqc, xm, xr, xrc, xf⟩ := x
      simp only [encOw, Ow.key, Ow.val] at *
      by_cases e1 : xk = 1
      · subst e1
        rcases HC1.out with hc | hc
        · have hgt := HG1.out hc
          rw [hc] at HPUT
          go_wp2_with fail
          refine HPUT.out.mono ?_
          rintro e w7 ⟨rfl, q⟩
          obtain ⟨⟨c0, c1, c2, c3⟩, _⟩ := HCC.out _ _ q
          have HG := hid (HGET.out _ _ q HLP.out)
          have HQ := hid q
          clear q
          go_wp2_with fail
          refine HG.out.mono ?_
          rintro e w8 ⟨p8, f8, o8, rfl, hJ8, ho8, hb8⟩
          rw [hgt] at ho8 ⊢
          have hr1 : liveW (some (some (xo.map Fx.fld))) = true := rfl
          have hr2 : (some (some (xo.map Fx.fld)) : Option Wr).isSome = true := rfl
          rw [hr1, hr2]
          have HS8 := hid (HSF.out _ _ _ _ _ _ HQ.out hb8 hJ8 ho8)
          have z0 : w8.cell? ⟨O, 0, none⟩ = some (.int .i64 1) := (hb8.cell (p := ⟨O, 0, none⟩) (cell_block c0)).trans c0
          have z3 : w8.cell? ⟨O, 3, none⟩ = some (.slice xp xo.length xc) := (hb8.cell (p := ⟨O, 3, none⟩) (cell_block c3)).trans c3
          have HB8 := hid hb8
          clear hb8 hJ8 ho8 HG hr1 hr2 hgt
          go_wp2_with fail
          refine HS8.out.mono ?_
          rintro e w9 ⟨rfl, hb9⟩
          have HE := hid (HNX.out _ _ _ HQ.out (bel_then HB8.out HB8.out.size hb9) HLP.out)
          clear hb9 HS8 HQ HB8
          go_wp2_with fail
          go_roundg (ops.length - (i + 1))
          case measure => omega
          exact ⟨i + 1, _, by go_num, by omega, by omega, HE.out.1, HE.out.2⟩
        · have hcz : (codePW (xa, xb) (xo.map Fx.fld) == 0) = false := by rcases hc with hc | hc <;> rw [hc] <;> rfl
          go_wp2_with fail
          refine HPUT.out.mono ?_
          rintro e w7 ⟨rfl, q⟩
          obtain ⟨⟨c0, c1, c2, c3⟩, _⟩ := HCC.out _ _ q
          have HG := hid (HGET.out _ _ q HLP.out)
          have HQ := hid q
          clear q
          go_wp2_with fail
          refine HG.out.mono ?_
          rintro e w8 ⟨p8, f8, o8, rfl, _, _, hb8⟩
          have HE := hid (HNX.out _ _ _ HQ.out hb8 HLP.out)
          clear hb8 HG HQ
          generalize liveW (getW (putW L (xa, xb) (xo.map Fx.fld)) (xa, xb)) = R1 at *
          generalize (getW (putW L (xa, xb) (xo.map Fx.fld)) (xa, xb)).isSome = R2 at *
          go_wp2_with fail
          go_roundg (ops.length - (i + 1))
          case measure => omega
          exact ⟨i + 1, _, by go_num, by omega, by omega, HE.out.1, HE.out.2⟩
      by_cases e2 : xk = 2
      · subst e2
        rcases HC2.out with hc | hc
        · have hgt := HG2.out hc
          rw [hc] at HDEL
          go_wp2_with fail
          refine HDEL.out.mono ?_
          rintro e w7 ⟨rfl, q⟩
          obtain ⟨⟨c0, c1, c2, c3⟩, _⟩ := HCC.out _ _ q
          have HG := hid (HGET.out _ _ q HLD.out)
          have HQ := hid q
          clear q
          go_wp2_with fail
          refine HG.out.mono ?_
          rintro e w8 ⟨p8, f8, o8, rfl, _, ho8, hb8⟩
          rw [hgt] at ho8 ⊢
          have hr1 : liveW (some none) = false := rfl
          have hr2 : (some none : Option Wr).isSome = true := rfl
          rw [hr1, hr2]
          have ho0 : o8 = [] := by
            have := congrArg List.length ho8
            simpa [valW] using this
          subst ho0
          have z0 : w8.cell? ⟨O, 0, none⟩ = some (.int .i64 2) := (hb8.cell (p := ⟨O, 0, none⟩) (cell_block c0)).trans c0
          have HE := hid (HNX.out _ _ _ HQ.out hb8 HLD.out)
          clear hb8 ho8 HG hr1 hr2 hgt HQ
          go_wp2_with fail
          go_roundg (ops.length - (i + 1))
          case measure => omega
          exact ⟨i + 1, _, by go_num, by omega, by omega, HE.out.1, HE.out.2⟩
        · have hcz : (codeDW (xa, xb) == 0) = false := by rw [hc]; rfl
          go_wp2_with fail
          refine HDEL.out.mono ?_
          rintro e w7 ⟨rfl, q⟩
          obtain ⟨⟨c0, c1, c2, c3⟩, _⟩ := HCC.out _ _ q
          have HG := hid (HGET.out _ _ q HLD.out)
          have HQ := hid q
          clear q
          go_wp2_with fail
          refine HG.out.mono ?_
          rintro e w8 ⟨p8, f8, o8, rfl, _, _, hb8⟩
          have HE := hid (HNX.out _ _ _ HQ.out hb8 HLD.out)
          clear hb8 HG HQ
          generalize liveW (getW (dltW L (xa, xb)) (xa, xb)) = R1 at *
          generalize (getW (dltW L (xa, xb)) (xa, xb)).isSome = R2 at *
          go_wp2_with fail
          go_roundg (ops.length - (i + 1))
          case measure => omega
          exact ⟨i + 1, _, by go_num, by omega, by omega, HE.out.1, HE.out.2⟩
      by_cases e3 : xk = 3
      · subst e3
        go_wp2_with fail
        refine HFOR.out.mono ?_
        rintro e w6 ⟨rfl, q⟩
        obtain ⟨⟨c0, c1, c2, c3⟩, _⟩ := HCC.out _ _ q
        have HG0 := hid (HGET.out _ _ q HLF.out)
        have HQ0 := hid q
        clear q
        go_wp2_with fail
        refine HG0.out.mono ?_
        rintro e w7 ⟨p7, f7, o7, rfl, _, _, hb7⟩
        rw [HG3.out]
        have hr1 : liveW none = false := rfl
        have hr2 : (none : Option Wr).isSome = false := rfl
        rw [hr1, hr2]
        have q := HQ0.out.on hb7
        clear hr1 hr2 HG0 HQ0 hb7
        obtain ⟨⟨c0, c1, c2, c3⟩, _⟩ := HCC.out _ _ q
        have HG := hid (HGET.out _ _ q HLF.out)
        have HQ := hid q
        clear q
        go_wp2_with fail
        refine HG.out.mono ?_
        rintro e w8 ⟨p8, f8, o8, rfl, _, _, hb8⟩
        have HE := hid (HNX.out _ _ _ HQ.out hb8 HLF.out)
        clear hb8 HG HQ
        generalize liveW (getW (delW L (xa, xb)) (xa, xb)) = R1 at *
        generalize (getW (delW L (xa, xb)) (xa, xb)).isSome = R2 at *
        go_wp2_with fail
        go_roundg (ops.length - (i + 1))
        case measure => omega
        exact ⟨i + 1, _, by go_num, by omega, by omega, HE.out.1, HE.out.2⟩
      · have b1 : (xk == 1) = false := by simpa using e1
        have b2 : (xk == 2) = false := by simpa using e2
        have b3 : (xk == 3) = false := by simpa using e3
        have q := HOV.out
        obtain ⟨⟨c0, c1, c2, c3⟩, _⟩ := HCC.out _ _ q
        have HG := hid (HGET.out _ _ q (Nat.le_succ _))
        have HQ := hid q
        clear q
        go_wp2_with fail
        refine HG.out.mono ?_
        rintro e w8 ⟨p8, f8, o8, rfl, _, _, hb8⟩
        have HE := hid (HNX.out _ _ _ HQ.out hb8 (Nat.le_succ _))
        clear hb8 HG HQ
        generalize liveW (getW L (xa, xb)) = R1 at *
        generalize (getW L (xa, xb)).isSome = R2 at *
        go_wp2_with fail
        go_roundg (ops.length - (i + 1))
        case measure => omega
        exact ⟨i + 1, _, by go_num, by omega, by omega, HE.out.1, HE.out.2⟩
    · have hltz : ¬ (i : Int) < (ops.length : Int) := by omega
      have hL13 : L.length ≤ 1300000000000 := by omega
      obtain ⟨B, hB1, _⟩ := HI.out.one
      have HK := hid (onew_keys hB1 hL13)
      have HOK := hid HI.out.ok
      clear hB1 hbw
      go_wp2_with fail
      refine HK.out.mono ?_
      rintro e w3 ⟨u, rfl, hu, hb3⟩
      obtain ⟨pk, ck, rfl⟩ := Kind.own_shape hu
      have HU := hid (Kind.own_is hu)
      have HP3 := hid (HI.out.on hb3)
      obtain ⟨ks, hks⟩ : ∃ ks, keysW L = ks := ⟨_, rfl⟩
      have hkl : ks.length = L.length := by rw [← hks]; unfold keysW; rw [List.length_map]
      have HKG : Hid (∀ j, (hj : j < ks.length) → FitKy ks[j] ∧ (getW L ks[j]).isSome = true) := by subst hks; exact fun j hj => keysW_get HOK.out hj
      have HKN : Hid (∀ a b, (hab : a < b) → (hb : b < ks.length) → ks[a]'(by omega) ≠ ks[b]) := by subst hks; exact fun a b hab hb => keysW_ne HOK.out hab hb
      rw [hks] at HU ⊢
      have hkm : ks.length ≤ 1300000000000 := by omega
      have HKL := hid hkl
      clear hu hb3 HK HI hks hltz hi hgk hlt hkl
      go_wp2_with fail
      go_loopg [105] ks.length (fun gg vi wr => ∃ (j : Nat), vi = .int .i64 j ∧ j ≤ ks.length ∧ ks.length - j ≤ gg ∧ Hid (PrgS S n0 w1 g L wr ∧ Below w3.heap.size w3 wr))
      case atStart => exact ⟨0, rfl, by omega, by omega, HP3.out, Below.refl _ _⟩
      case round =>
        obtain ⟨j, rfl, hj, hgj, HJ⟩ := hrel
        by_cases hjt : j < ks.length
        · have hjz : (j : Int) < (ks.length : Int) := by omega
          have hj0 : (0 : Int) ≤ j := by omega
          obtain ⟨b1, o1, rfl, k1⟩ : ∃ b off, pk = some ⟨b, off, none⟩ ∧ KK.At w3 b off ks := by
            obtain ⟨p', c', he, h⟩ := HU.out
            injection he with e1 _ _
            subst e1
            rcases h with h | h
            · rw [h] at hjt; simp at hjt
            · exact h
          have HKA : Hid (∀ m, (hm : m < ks.length) → ∀ W, Below w3.heap.size w3 W → W.cell? ⟨b1, o1 + m * 2, none⟩ = some (.string ks[m].1) ∧ W.cell? ⟨b1, o1 + m * 2 + 1, none⟩ = some (.string ks[m].2)) := fun m hm W hW => kk_at (Kind.at_kept k1 hW) m hm
          obtain ⟨y0, y1⟩ := HKA.out j hjt wr HJ.out.2
          obtain ⟨hfk, hso⟩ := HKG.out j hjt
          obtain ⟨V, hV⟩ : ∃ V, wr.alloc (.cells #[.string ks[j].1, .string ks[j].2] 27) = V := ⟨_, rfl⟩
          obtain ⟨O, hO⟩ : ∃ O, wr.heap.size = O := ⟨_, rfl⟩
          have hbV : Below wr.heap.size wr V := by rw [← hV]; exact (Below.refl _ _).alloc (Nat.le_refl _) _
          have hVo : V.heap[O]? = some (.cells #[.string ks[j].1, .string ks[j].2] 27 (0, 0)) := by rw [← hV, ← hO]; exact heap_alloc_new wr _
          have hPV := HJ.out.1.on hbV
          obtain ⟨B, hB1, _⟩ := hPV.one
          have HG := hid (onew_get hB1 hL13 ks[j] hfk)
          have HPV := hid hPV
          have hs3 := HJ.out.2.size
          have HBV := hid (bel_then HJ.out.2 hs3 hbV)
          have HKC : Hid (∀ W, Below V.heap.size V W → W.cell? ⟨O, 0, none⟩ = some (.string ks[j].1) ∧ W.cell? ⟨O, 1, none⟩ = some (.string ks[j].2)) := fun W hW => by
            have := (hW.block O (Array.getElem?_eq_some_iff.1 hVo).1).trans hVo
            exact ⟨by rw [Lib.cell_of_heap this]; rfl, by rw [Lib.cell_of_heap this]; rfl⟩
          have HNEQ : Hid (∀ m, m + 1 = j → (hm : m < ks.length) → ks[m] ≠ ks[j]) := fun m h1 hm => HKN.out m j (by omega) hjt
          obtain ⟨v0, v1⟩ := HKC.out V (Below.refl _ _)
          have HSO := hid hso
          clear k1 hfk hbV hVo hPV hB1 hso HKG HKN hs3
          generalize ks[j] = K at *
          obtain ⟨ka, kb⟩ := K
          simp only at *
          go_wp2_with fail
          try rw [hV]
          try rw [hO]
          refine HG.out.mono ?_
          rintro e w5 ⟨p5, f5, o5, rfl, _, _, hb5⟩
          rw [HSO.out]
          have hb35 := bel_then HBV.out HBV.out.size hb5
          obtain ⟨x0, x1⟩ := HKC.out w5 hb5
          have HNX : Hid (PrgS S n0 w1 g L w5.drew ∧ Below w3.heap.size w3 w5.drew) := ⟨(HPV.out.on hb5).on (bel_drewN (Below.refl _ _) 1), bel_drewN hb35 1⟩
          generalize liveW (getW L (ka, kb)) = R1 at *
          by_cases hpos : 0 < j
          · obtain ⟨m, hm⟩ : ∃ m, j = m + 1 := ⟨j - 1, by omega⟩
            have hmk : m < ks.length := by omega
            obtain ⟨z0, z1⟩ := HKA.out m hmk w5 hb35
            have hne := HNEQ.out m hm.symm hmk
            generalize ks[m] = M at *
            obtain ⟨ma, mb⟩ := M
            simp only at *
            have heq := fun W => Z.eql_key ma mb ka kb W
            rw [Z.eqK_iff (ma, mb) (ka, kb), decide_eq_false hne] at heq
            have hdj : decide ((0 : Int) < (j : Int)) = true := decide_eq_true (by omega)
            have hm0 : (0 : Int) ≤ (m : Int) := by omega
            have hm1 : (m : Int) < (ks.length : Int) := by omega
            have hw1 : wrap64 ((j : Int) - 1) = (m : Int) := by simp [wrap64]; omega
            have hw2 : IntKind.i64.wrap ((j : Int) - 1) = (m : Int) := by rw [IntKind.wrap_i64]; omega
            have hw3 : IntKind.i64.wrap (m : Int) = (m : Int) := by rw [IntKind.wrap_i64]; omega
            clear hb5 hb35 HG HBV hne hm HKA HNEQ HKC
            go_wp2_with fail
            refine wp_region_held_drew (S := fun w' => w'.cell? ⟨O, 0, none⟩ = some (.string ka) ∧ w'.cell? ⟨O, 1, none⟩ = some (.string kb) ∧ w'.cell? ⟨b1, o1 + m * 2, none⟩ = some (.string ma) ∧ w'.cell? ⟨b1, o1 + m * 2 + 1, none⟩ = some (.string mb)) (by kernel_rfl) ⟨x0, x1, z0, z1⟩ (fun hHeld => ?_)
            refine take_val (i := 0) (.bool true) rfl (by kernel_rfl) (by kernel_rfl) (by kernel_rfl) (fun _ _ _ h => h) (by rfl) (fun w hSw => by go_simp) hHeld ?_
            simp only [Act.put, List.setIfInBounds_toArray, List.set_cons_zero, List.set_cons_succ]
            refine take_val (i := 1) (.bool false) rfl (by kernel_rfl) (by kernel_rfl) (by kernel_rfl) (fun _ _ _ h => h) (by rfl) (fun w hSw => by go_simp) hHeld ?_
            simp only [Act.put, List.setIfInBounds_toArray, List.set_cons_zero, List.set_cons_succ]
            refine take_val (i := 2) (.bool false) rfl (by kernel_rfl) (by kernel_rfl) (by kernel_rfl) (fun _ _ _ h => h) (by rfl) (fun w hSw => by go_simp) hHeld ?_
            simp only [Act.put, List.setIfInBounds_toArray, List.set_cons_zero, List.set_cons_succ]
            refine take_val (i := 3) (.int .i64 j) rfl (by kernel_rfl) (by kernel_rfl) (by kernel_rfl) (fun _ _ _ h => h) (by rfl) (fun w hSw => by go_simp) hHeld ?_
            simp only [Act.put, List.setIfInBounds_toArray, List.set_cons_zero, List.set_cons_succ]
            refine take_val (i := 4) (.bool true) rfl (by kernel_rfl) (by kernel_rfl) (by kernel_rfl) (fun _ _ _ h => h) (by rfl) (fun w hSw => by go_simp) hHeld ?_
            simp only [Act.put, List.setIfInBounds_toArray, List.set_cons_zero, List.set_cons_succ]
            refine take_val (i := 5) (.bool true) rfl (by kernel_rfl) (by kernel_rfl) (by kernel_rfl) (fun _ _ _ h => h) (by rfl) (fun w hSw => by go_simp) hHeld ?_
            simp only [Act.put, List.setIfInBounds_toArray, List.set_cons_zero, List.set_cons_succ]
            refine take_val (i := 6) (.slice (some ⟨b1, o1, none⟩) ks.length ck) rfl (by kernel_rfl) (by kernel_rfl) (by kernel_rfl) (fun _ _ _ h => h) (by rfl) (fun w hSw => by go_simp) hHeld ?_
            simp only [Act.put, List.setIfInBounds_toArray, List.set_cons_zero, List.set_cons_succ]
            refine take_val (i := 7) (.int .i64 j) rfl (by kernel_rfl) (by kernel_rfl) (by kernel_rfl) (fun _ _ _ h => h) (by rfl) (fun w hSw => by go_simp) hHeld ?_
            simp only [Act.put, List.setIfInBounds_toArray, List.set_cons_zero, List.set_cons_succ]
            refine take_val (i := 8) (.int .i64 m) rfl (by kernel_rfl) (by kernel_rfl) (by kernel_rfl) (fun _ _ _ h => h) (by rfl) (fun w hSw => by go_simp) hHeld ?_
            simp only [Act.put, List.setIfInBounds_toArray, List.set_cons_zero, List.set_cons_succ]
            refine take_val (i := 9) (.pointer (some ⟨b1, o1 + m * 2, none⟩)) rfl (by kernel_rfl) (by kernel_rfl) (by kernel_rfl) (fun _ _ _ h => h) (by rfl) (fun w hSw => by go_simp) hHeld ?_
            simp only [Act.put, List.setIfInBounds_toArray, List.set_cons_zero, List.set_cons_succ]
            refine take_val (i := 10) (.agg #[.string ma, .string mb]) rfl (by kernel_rfl) (by kernel_rfl) (by kernel_rfl) (fun _ _ _ h => h) (by rfl) (fun w hSw => by go_simp) hHeld ?_
            simp only [Act.put, List.setIfInBounds_toArray, List.set_cons_zero, List.set_cons_succ]
            refine take_val (i := 11) (.agg #[.string ka, .string kb]) rfl (by kernel_rfl) (by kernel_rfl) (by kernel_rfl) (fun _ _ _ h => h) (by rfl) (fun w hSw => by go_simp) hHeld ?_
            simp only [Act.put, List.setIfInBounds_toArray, List.set_cons_zero, List.set_cons_succ]
            refine take_val (i := 12) (.bool false) rfl (by kernel_rfl) (by kernel_rfl) (by kernel_rfl) (fun _ _ _ h => h) (by rfl) (fun w hSw => by go_simp) hHeld ?_
            simp only [Act.put, List.setIfInBounds_toArray, List.set_cons_zero, List.set_cons_succ]
            refine take_val (i := 13) (.bool false) rfl (by kernel_rfl) (by kernel_rfl) (by kernel_rfl) (fun _ _ _ h => h) (by rfl) (fun w hSw => by go_simp) hHeld ?_
            simp only [Act.put, List.setIfInBounds_toArray, List.set_cons_zero, List.set_cons_succ]
            refine take_val (i := 14) (.bool false) rfl (by kernel_rfl) (by kernel_rfl) (by kernel_rfl) (fun _ _ _ h => h) (by rfl) (fun w hSw => by go_simp) hHeld ?_
            simp only [Act.put, List.setIfInBounds_toArray, List.set_cons_zero, List.set_cons_succ]
            refine wpAnyH_done (by kernel_rfl) ?_ _
            clear hHeld hw1 hw2 hw3
            go_wp2_with fail
            go_roundg (ks.length - (j + 1))
            case measure => omega
            exact ⟨j + 1, by go_num, by omega, by omega, HNX.out⟩
          · have hdj : decide ((0 : Int) < (j : Int)) = false := decide_eq_false (by omega)
            clear hb5 hb35 HG HBV HKA HNEQ HKC
            go_wp2_with fail
            refine wp_region_held_drew (S := fun _ => True) (by kernel_rfl) trivial (fun hHeld => ?_)
            refine take_val (i := 0) (.bool true) rfl (by kernel_rfl) (by kernel_rfl) (by kernel_rfl) (fun _ _ _ h => h) (by rfl) (fun w hSw => by go_simp) hHeld ?_
            simp only [Act.put, List.setIfInBounds_toArray, List.set_cons_zero, List.set_cons_succ]
            refine take_val (i := 1) (.bool false) rfl (by kernel_rfl) (by kernel_rfl) (by kernel_rfl) (fun _ _ _ h => h) (by rfl) (fun w hSw => by go_simp) hHeld ?_
            simp only [Act.put, List.setIfInBounds_toArray, List.set_cons_zero, List.set_cons_succ]
            refine take_val (i := 2) (.bool false) rfl (by kernel_rfl) (by kernel_rfl) (by kernel_rfl) (fun _ _ _ h => h) (by rfl) (fun w hSw => by go_simp) hHeld ?_
            simp only [Act.put, List.setIfInBounds_toArray, List.set_cons_zero, List.set_cons_succ]
            refine take_val (i := 3) (.int .i64 j) rfl (by kernel_rfl) (by kernel_rfl) (by kernel_rfl) (fun _ _ _ h => h) (by rfl) (fun w hSw => by go_simp) hHeld ?_
            simp only [Act.put, List.setIfInBounds_toArray, List.set_cons_zero, List.set_cons_succ]
            refine take_val (i := 4) (.bool false) rfl (by kernel_rfl) (by kernel_rfl) (by kernel_rfl) (fun _ _ _ h => h) (by rfl) (fun w hSw => by go_simp) hHeld ?_
            simp only [Act.put, List.setIfInBounds_toArray, List.set_cons_zero, List.set_cons_succ]
            refine take_val (i := 5) (.bool false) rfl (by kernel_rfl) (by kernel_rfl) (by kernel_rfl) (fun _ _ _ h => h) (by rfl) (fun w hSw => by go_simp) hHeld ?_
            simp only [Act.put, List.setIfInBounds_toArray, List.set_cons_zero, List.set_cons_succ]
            refine take_not (i := 6) rfl (by kernel_rfl) (by kernel_rfl) (by kernel_rfl) (fun _ _ _ h => h) (by rfl) hHeld ?_
            simp only [Act.put, List.setIfInBounds_toArray, List.set_cons_zero, List.set_cons_succ]
            refine take_not (i := 7) rfl (by kernel_rfl) (by kernel_rfl) (by kernel_rfl) (fun _ _ _ h => h) (by rfl) hHeld ?_
            simp only [Act.put, List.setIfInBounds_toArray, List.set_cons_zero, List.set_cons_succ]
            refine take_not (i := 8) rfl (by kernel_rfl) (by kernel_rfl) (by kernel_rfl) (fun _ _ _ h => h) (by rfl) hHeld ?_
            simp only [Act.put, List.setIfInBounds_toArray, List.set_cons_zero, List.set_cons_succ]
            refine take_not (i := 9) rfl (by kernel_rfl) (by kernel_rfl) (by kernel_rfl) (fun _ _ _ h => h) (by rfl) hHeld ?_
            simp only [Act.put, List.setIfInBounds_toArray, List.set_cons_zero, List.set_cons_succ]
            refine take_not (i := 10) rfl (by kernel_rfl) (by kernel_rfl) (by kernel_rfl) (fun _ _ _ h => h) (by rfl) hHeld ?_
            simp only [Act.put, List.setIfInBounds_toArray, List.set_cons_zero, List.set_cons_succ]
            refine take_not (i := 11) rfl (by kernel_rfl) (by kernel_rfl) (by kernel_rfl) (fun _ _ _ h => h) (by rfl) hHeld ?_
            simp only [Act.put, List.setIfInBounds_toArray, List.set_cons_zero, List.set_cons_succ]
            refine take_not (i := 12) rfl (by kernel_rfl) (by kernel_rfl) (by kernel_rfl) (fun _ _ _ h => h) (by rfl) hHeld ?_
            simp only [Act.put, List.setIfInBounds_toArray, List.set_cons_zero, List.set_cons_succ]
            refine take_val (i := 13) (.bool false) rfl (by kernel_rfl) (by kernel_rfl) (by kernel_rfl) (fun _ _ _ h => h) (by rfl) (fun w hSw => by go_simp) hHeld ?_
            simp only [Act.put, List.setIfInBounds_toArray, List.set_cons_zero, List.set_cons_succ]
            refine take_val (i := 14) (.bool false) rfl (by kernel_rfl) (by kernel_rfl) (by kernel_rfl) (fun _ _ _ h => h) (by rfl) (fun w hSw => by go_simp) hHeld ?_
            simp only [Act.put, List.setIfInBounds_toArray, List.set_cons_zero, List.set_cons_succ]
            refine wpAnyH_done (by kernel_rfl) ?_ _
            clear hHeld
            go_wp2_with fail
            go_roundg (ks.length - (j + 1))
            case measure => omega
            exact ⟨j + 1, by go_num, by omega, by omega, HNX.out⟩
        · have hjz : ¬ (j : Int) < (ks.length : Int) := by omega
          obtain ⟨B, hB1, _⟩ := HJ.out.1.one
          have HLN := hid (onew_len hB1 hL13)
          rw [← HKL.out] at HLN
          have HJ2 := hid HJ.out.1
          clear hB1 HJ
          go_wp2_with fail
          refine HLN.out.mono ?_
          rintro e w5 ⟨rfl, hb5⟩
          have HE := hid (HBW.out _ (HJ2.out.on hb5).2.1)
          clear hb5 HLN HJ2
          go_wp2_with fail
          go_ret
          exact ⟨rfl, HE.out⟩

end Go.Proofs.Ytjehjjpdicimhaa

/-
  For every script the Go function WritesLast of package foliolaw11 returns true, and its arguments read behind the call as they read before; no condition; over the contracts of package writes.
-/
namespace Go.Proofs.Ytjehjjpdicimhaa
open Go.ChangeShapes Go.WideShapes Go.ChangeAt Go.RowKit Go.Joins

set_option maxRecDepth 100000 in
theorem writeslast_walked (S : SetApi) {H : Type} {enc : TypeId × Value → H} (W : World) (base : Nat) (args : Array Value) (ds gs : List (DataW H)) (before : List MemPlace)
    (hval : ∀ (j : Nat) t v, Try.f3.params[j]? = some t → args[j]? = some v → Value.okWide Try.prog W .any base t v)
    (hW : DataW.Whole enc Try.prog Try.f3.params.toList Rows.writesLastSpec.vars false W args.toList ds gs before)
    (hZ : (DataW.weightsEach Try.prog (Try.f3.params.toList ++ (OpenSpec.ofChange Rows.writesLastSpec).bare.plain.varTypes Try.prog) (ds ++ gs)).all (· ≤ reachBytes) = true) :
    Calls Try.prog 3 args W fun e W' => ∃ v, e = .returned v ∧ Rows.writesLastSpec.post enc Try.prog Try.f3 false true false false W args v W' := by
  have hW' := hW
  obtain ⟨p, q, hA0, hV, rfl, _, _⟩ := hW
  have hA : DataW.TrodAll enc Try.prog W 0 (fun _ => true) true Try.f3.params.toList args.toList ds p := hA0
  rw [Try.params3] at hA hval hZ
  obtain ⟨v0, vs0, d0, ds0, p0, q0, hargs, rfl, rfl, h0, r0⟩ := trodAll_cons hA
  obtain ⟨rfl, rfl, rfl⟩ := trodAll_nil r0
  obtain rfl : args = #[v0] := by cases args; simp_all
  obtain ⟨rfl, rfl⟩ := trodVars_none hV
  have lt0 : ∀ x ∈ p0, x.block < W.heap.size := by obtain ⟨m, hm⟩ := h0; exact DataW.trod_lt m _ _ _ hm
  have k0 := h0
  have hwalk : Calls Try.prog 3 #[v0] W fun e w' => e = .returned (.bool true) ∧ Below W.heap.size W w' := by
    have z0 : ∀ n ∈ d0.weights Try.prog 22, n ≤ reachBytes := fun n hn => by
      have := List.all_eq_true.1 hZ n (DataW.weights_mem_each (j := 0) rfl rfl n hn)
      simpa using this
    obtain ⟨ops, hx, ho, hl, hlb⟩ := open_opsW (hval 0 22 v0 rfl rfl) h0 z0
    exact last11_any S v0 ops W hx (fun x hx => (ho x hx).1) hl
  clear hA0
  refine hwalk.mono fun o W' ⟨he, bel⟩ => ?_
  subst he
  exact ⟨_, rfl, _, _, _, [], _, [], hW', trodAll_mk1 (shut_bool Try.underlying4 _),
    (trodAll_cons_mk (Below.trod Try.laidOut (by kernel_rfl) (of_decide_eq_true (by kernel_rfl)) k0 bel lt0) trodAll_mk0), rfl, bel.frame _, fun h => by cases h⟩

set_option maxRecDepth 100000 in
theorem writeslast_free (S : SetApi) (os : Os) (started : os.Started) (H : Type) (enc : TypeId × Value → H) :
    ReturnsInHanded {} Try.checked os 3 .any (Rows.writesLastSpec.pre6 enc Try.prog Try.f3 Rows.writesLastRow.domain false) (Rows.writesLastSpec.post enc Try.prog Try.f3 false true false false) := by
  refine returnsInHanded_of_change_sized (C := Try.checked) Try.own started (by kernel_rfl) Try.func3
    (ChangeSpec.witness6 (enc := enc) (C := Try.checked) false ⟨#[], #[.slice none 0 0], []⟩ 8 (by kernel_rfl) (by kernel_rfl) (by kernel_rfl) (by kernel_rfl)) ?_
  intro W base args ds gs before hval hW _ hZ _
  exact writeslast_walked S W base args ds gs before hval hW hZ

theorem writeslast_of (S : SetApi) : Rows.WritesLastSaid :=
  OpenClaim.holds_of_wide 3 Try.f3 rfl rfl rfl rfl rfl rfl rfl ⟨rfl, rfl, rfl, rfl, rfl⟩ rfl rfl rfl rfl rfl (by kernel_rfl) Try.func3 (by kernel_rfl)
    (of_decide_eq_true (by kernel_rfl)) (by unfold Func.isWrapper; first | (rw [if_pos (by decide +kernel)]; kernel_rfl) | (rw [if_neg (by decide +kernel)]; exact ⟨rfl, rfl⟩))
    (fun os started H enc _ => writeslast_free S os started H enc)

end Go.Proofs.Ytjehjjpdicimhaa
