/-
  Texts of this claim, one behind the other: Wfd Wfw Wla Wfg Wfv Wa5.
-/
import Derived.Test.YtjehjjpdicimhaaPc
import Derived.Test.YtjehjjpdicimhaaRows
import Derived.Test.YtjehjjpdicimhaaPe
/-
  The laws of stage 11: the chapter's examples, as data.
-/
namespace Go.Proofs.Ytjehjjpdicimhaa
open Go.RowKit

def gxT : ByteArray := ⟨#[65]⟩
def gxa : Ky := (⟨#[65]⟩, ⟨#[97]⟩)
def gxb : Ky := (⟨#[65]⟩, ⟨#[98]⟩)
def gxd : Ky := (⟨#[65]⟩, ⟨#[100]⟩)
def gxV : List Fld := [(⟨#[110]⟩, [⟨#[120]⟩])]
theorem gx_may : mayB gxV = true := by decide
theorem gx_ka : keyB gxa.1 gxa.2 = true := by decide
theorem gx_kb : keyB gxb.1 gxb.2 = true := by decide
theorem gx_k0 : keyB (⟨#[]⟩ : ByteArray) ⟨#[]⟩ = false := by decide
theorem gx_ab : gxa ≠ gxb := fun h => by
  have := congrArg (fun k : Ky => k.2.data.toList) h
  simp [gxa, gxb] at this
theorem gx_ad : gxa ≠ gxd := fun h => by
  have := congrArg (fun k : Ky => k.2.data.toList) h
  simp [gxa, gxd] at this
theorem gx_bd : gxb ≠ gxd := fun h => by
  have := congrArg (fun k : Ky => k.2.data.toList) h
  simp [gxb, gxd] at this
theorem gx_lt : ltKy gxb gxa = false := by decide
theorem gx_lt2 : ltKy gxa gxd = true := by decide

def gW1 : List RowW := [(gxa, some gxV)]
def gW2 : List RowW := [(gxa, some gxV), (gxb, none)]
theorem gc1 : codePW gxa gxV = 0 := by unfold codePW; rw [if_neg (by rw [gx_ka]; simp), if_neg (by rw [gx_may]; simp)]
theorem gc2 : codeDW gxb = 0 := by unfold codeDW; rw [if_neg (by rw [gx_kb]; simp)]
theorem gc3 : codePW (⟨#[]⟩, ⟨#[]⟩) [] = 2 := by unfold codePW; rw [if_pos gx_k0]
theorem gp1 : putW [] gxa gxV = gW1 := by unfold putW; rw [if_pos gc1]; rfl
theorem gp2 : dltW gW1 gxb = gW2 := by
  unfold dltW
  rw [if_pos gc2]
  unfold layW delW gW1
  rw [List.filter_cons, decide_eq_false gx_ab]
  simp only [Bool.not_false, if_true, List.filter_nil]
  unfold insP
  rw [gx_lt]
  rfl
theorem gp3 : putW gW2 (⟨#[]⟩, ⟨#[]⟩) [] = gW2 := by unfold putW; rw [gc3]; rfl
theorem gg1 : getW gW2 gxa = some (some gxV) := by unfold gW2 getW; rw [if_pos rfl]
theorem gg2 : getW gW2 gxb = some none := by unfold gW2 getW; rw [if_neg gx_ab]; unfold getW; rw [if_pos rfl]
theorem gg3 : getW gW2 gxd = none := by unfold gW2 getW; rw [if_neg gx_ad]; unfold getW; rw [if_neg gx_bd]; rfl
theorem gg4 : getW (delW gW2 gxb) gxb = none := by rw [getW_del, if_pos rfl]

def gF : List Fnd := [(gxb, ⟨0, 0, 0, false, []⟩), (gxd, ⟨0, 0, 0, false, []⟩)]
theorem gover : overW gW2 gF gxT (matchM []) = [(gxa, ⟨0, 0, 0, true, gxV⟩), (gxd, ⟨0, 0, 0, false, []⟩)] := by
  have h1 : freeW gW2 gF = [(gxd, ⟨0, 0, 0, false, []⟩)] := by
    unfold freeW gF
    have e1 : (getW gW2 ((gxb, (⟨0, 0, 0, false, []⟩ : Vr)) : Fnd).1).isNone = false := by rw [gg2]; rfl
    have e2 : (getW gW2 ((gxd, (⟨0, 0, 0, false, []⟩ : Vr)) : Fnd).1).isNone = true := by rw [gg3]; rfl
    rw [List.filter_cons, List.filter_cons, e1, e2]
    rfl
  have h2 : hitsW gW2 gxT (matchM []) = [(gxa, ⟨0, 0, 0, true, gxV⟩)] := by
    unfold hitsW gW2
    rw [List.filterMap_cons]
    have : hitW gxT (matchM []) (gxa, some gxV) = some (gxa, ⟨0, 0, 0, true, gxV⟩) := by
      unfold hitW
      simp only
      rw [if_pos ⟨rfl, rfl⟩]
    rw [this]
    rfl
  unfold overW
  rw [h1, h2]
  show insP (gxa, _) [(gxd, _)] = _
  unfold insP
  show (if ltKy gxa gxd = true then _ else _) = _
  rw [gx_lt2]
  rfl

theorem fitKy_a : FitKy gxa := ⟨by decide, by decide⟩
theorem fitKy_b : FitKy gxb := ⟨by decide, by decide⟩
theorem fitKy_0 : FitKy ((⟨#[]⟩ : ByteArray), ⟨#[]⟩) := ⟨by decide, by decide⟩

end Go.Proofs.Ytjehjjpdicimhaa

/-
  The laws of stage 11: the chapter's examples, walked.
-/
namespace Go.Proofs.Ytjehjjpdicimhaa
open Go.RowKit

/-- The field n with the text x, as it lies: two blocks. -/
def gXs (b : Nat) : List Fx := [⟨⟨#[110]⟩, some ⟨b, 0, none⟩, 1, [⟨#[120]⟩]⟩]
theorem gxs_is {W : World} {b c : Nat} (h1 : W.heap[c]? = some (.cells #[.string ⟨#[110]⟩, .slice (some ⟨b, 0, none⟩) 1 1] 56 (0, 0))) (h2 : W.heap[b]? = some (.cells #[.string ⟨#[120]⟩] 9 (0, 0))) : IsXs W (.slice (some ⟨c, 0, none⟩) 1 1) (gXs b) := by
  refine ⟨_, _, rfl, Or.inr ⟨_, _, rfl, fun i hi => ?_⟩, fun x hx => ?_⟩
  · have hi' : i = 0 := by simpa [gXs] using hi
    subst hi'
    exact ⟨by rw [Lib.cell_of_heap h1]; rfl, by rw [Lib.cell_of_heap h1]; rfl⟩
  · rw [gXs, List.mem_singleton] at hx
    subst hx
    refine Or.inr ⟨_, _, rfl, fun i hi => ?_⟩
    have hi' : i = 0 := by simpa using hi
    subst hi'
    rw [Lib.cell_of_heap h2]; rfl
theorem gxs_fit (b : Nat) : FitX (gXs b) := (may_fit (o := gXs b) gx_may).1

/-- The two finds of the example, as they lie. -/
def gFd : List Fd := [⟨⟨#[65]⟩, ⟨#[98]⟩, ⟨0, 0, 0, false, none, 0, []⟩⟩, ⟨⟨#[65]⟩, ⟨#[100]⟩, ⟨0, 0, 0, false, none, 0, []⟩⟩]
theorem gfd_in {W : World} {c : Nat} (h : W.heap[c]? = some (.cells #[.string ⟨#[65]⟩, .string ⟨#[98]⟩, .int .i64 0, .int .u64 0, .int .i64 0, .bool false, .slice none 0 0, .string ⟨#[65]⟩, .string ⟨#[100]⟩, .int .i64 0, .int .u64 0, .int .i64 0, .bool false, .slice none 0 0] 49 (0, 0))) : FoundIn W (.slice (some ⟨c, 0, none⟩) 2 2) gFd := by
  refine ⟨⟨_, _, rfl, Or.inr ⟨c, 0, rfl, fun i hi j u hu => ?_⟩⟩, fun f hf => ?_, fun f hf => ?_⟩
  · have hi' : i = 0 ∨ i = 1 := by simp [gFd] at hi; omega
    rw [Lib.cell_of_heap h]
    rcases hi' with rfl | rfl
    · have hj := (List.getElem?_eq_some_iff.1 hu).1
      have : j < 7 := hj
      rcases j with _ | _ | _ | _ | _ | _ | _ | j
      all_goals first | exact hu | omega
    · have hj := (List.getElem?_eq_some_iff.1 hu).1
      have : j < 7 := hj
      rcases j with _ | _ | _ | _ | _ | _ | _ | j
      all_goals first | exact hu | omega
  · have : f.v = ⟨0, 0, 0, false, none, 0, []⟩ := by
      simp only [gFd, List.mem_cons, List.not_mem_nil, or_false] at hf
      rcases hf with rfl | rfl <;> rfl
    rw [this]
    exact ⟨(isXs_nil W).1, (isXs_nil W).2.1, (isXs_nil W).2.2⟩
  · simp only [gFd, List.mem_cons, List.not_mem_nil, or_false] at hf
    rcases hf with rfl | rfl
    · exact ⟨by decide, by decide⟩
    · exact ⟨by decide, by decide⟩

set_option linter.unusedSimpArgs false in
set_option maxHeartbeats 8000000 in
set_option maxRecDepth 100000 in
theorem fixed11_any (S : SetApi) (w : World) : Calls Try.prog 6 #[] w fun e w' => e = .returned (.bool true) ∧ Below w.heap.size w w' := by
  have HN := hid (S.new w.heap.size w (Nat.le_refl _))
  go_enter Try.func6, Try.ntmps6
  go_wp2_with fail
  refine HN.out.mono ?_
  rintro e w1 ⟨B, g, rfl, hp1, hb1, hB⟩
  obtain ⟨N, hN⟩ : ∃ N, w.heap.size = N := ⟨_, rfl⟩
  obtain ⟨A, hA⟩ : ∃ A, w1.heap.size = A := ⟨_, rfl⟩
  have hNA : N ≤ A := by have := hb1.size; omega
  obtain ⟨W2, hW2⟩ : ∃ W2, (w1.alloc (.cells #[.string ⟨#[65]⟩, .string ⟨#[97]⟩] 27)).alloc (.cells #[.string ⟨#[65]⟩, .string ⟨#[98]⟩] 27) = W2 := ⟨_, rfl⟩
  have hbW2 : Below w1.heap.size w1 W2 := by rw [← hW2]; exact ((Below.refl _ _).alloc (Nat.le_refl _) _).alloc (by simp) _
  have hsW2 : W2.heap.size = A + 2 := by rw [← hW2, ← hA]; simp
  have hka : W2.heap[A]? = some (.cells #[.string ⟨#[65]⟩, .string ⟨#[97]⟩] 27 (0, 0)) := by rw [← hW2, ← hA, Below.heap_alloc _ _ _ (by simp)]; exact heap_alloc_new w1 _
  have hkb : W2.heap[A + 1]? = some (.cells #[.string ⟨#[65]⟩, .string ⟨#[98]⟩] 27 (0, 0)) := by
    rw [← hW2, ← hA]; have := heap_alloc_new (w1.alloc (.cells #[.string ⟨#[65]⟩, .string ⟨#[97]⟩] 27)) (.cells #[.string ⟨#[65]⟩, .string ⟨#[98]⟩] 27); simpa using this
  have hBA : ∀ k, B k → N ≤ k ∧ k < A := fun k hk => by have := S.blk hp1 k hk; omega
  have KEY : Hid (∀ L W, OneW S N W2 B g L W → (W.cell? ⟨A, 0, none⟩ = some (.string ⟨#[65]⟩) ∧ W.cell? ⟨A, 1, none⟩ = some (.string ⟨#[97]⟩) ∧ W.cell? ⟨A + 1, 0, none⟩ = some (.string ⟨#[65]⟩) ∧ W.cell? ⟨A + 1, 1, none⟩ = some (.string ⟨#[98]⟩)) ∧ N ≤ W.heap.size ∧ A + 2 ≤ W.heap.size) := fun L W h => by
    have h1 := (h.block (b := A) (by omega) (fun hb => by have := hBA A hb; omega)).trans hka
    have h2 := (h.block (b := A + 1) (by omega) (fun hb => by have := hBA _ hb; omega)).trans hkb
    have h3 := h.size
    exact ⟨⟨by rw [Lib.cell_of_heap h1]; rfl, by rw [Lib.cell_of_heap h1]; rfl, by rw [Lib.cell_of_heap h2]; rfl, by rw [Lib.cell_of_heap h2]; rfl⟩, by omega, by omega⟩
  have HBW : Hid (∀ L W, OneW S N W2 B g L W → Below N w W) := fun L W h => (by rw [← hN]; exact bel_then hb1 hb1.size hbW2 : Below N w W2).trans (h.below (by omega) fun k hk => (hBA k hk).1)
  have H2 : Hid (OneW S N W2 B g [] W2) := OneW.start (by rw [← hN]; exact S.on hp1 hbW2)
  obtain ⟨⟨a0, a1, b0, b1⟩, _⟩ := KEY.out _ _ H2.out
  -- the value's two blocks
  obtain ⟨W3, hW3⟩ : ∃ W3, (W2.drew.alloc (.cells #[.string ⟨#[120]⟩] 9)) = W3 := ⟨_, rfl⟩
  obtain ⟨W4, hW4⟩ : ∃ W4, W3.alloc (.cells #[.string ⟨#[110]⟩, .slice (some ⟨A + 2, 0, none⟩) 1 1] 56) = W4 := ⟨_, rfl⟩
  have hb3 : Below W2.heap.size W2 W3 := by rw [← hW3]; exact (bel_drewN (Below.refl _ _) 1).alloc (Nat.le_refl _) _
  have hs3 : W3.heap.size = A + 3 := by rw [← hW3]; simp [hsW2]
  have hb4 : Below W3.heap.size W3 W4 := by rw [← hW4]; exact (Below.refl _ _).alloc (Nat.le_refl _) _
  have h32 : W3.heap[A + 2]? = some (.cells #[.string ⟨#[120]⟩] 9 (0, 0)) := by rw [← hW3, ← hsW2]; exact heap_alloc_new W2.drew _
  have h43 : W4.heap[A + 3]? = some (.cells #[.string ⟨#[110]⟩, .slice (some ⟨A + 2, 0, none⟩) 1 1] 56 (0, 0)) := by rw [← hW4, ← hs3]; exact heap_alloc_new W3 _
  have h42 : W4.heap[A + 2]? = some (.cells #[.string ⟨#[120]⟩] 9 (0, 0)) := (hb4.block _ (by omega)).trans h32
  have o3 := H2.out.on hb3
  have o4 := o3.on hb4
  obtain ⟨⟨c0, c1, d0, d1⟩, _⟩ := KEY.out _ _ o3
  obtain ⟨⟨e0, e1, f0, f1⟩, hn4, _⟩ := KEY.out _ _ o4
  have HP1 := hid (onew_put o4 hn4 (by decide) gxa fitKy_a _ (gXs (A + 2)) gxV (gxs_is h43 h42) (gxs_fit _) rfl)
  rw [gc1, gp1] at HP1
  simp only [gxa] at HP1
  clear hp1 hb1 hB hka hkb hbW2 hb3 hb4 h32 h43 h42 o3 o4 HN hn4
  go_upto_region 5 with fail
  try rw [hA]
  try rw [hW2]
  refine wp_region_held_drew (S := fun w' => w'.cell? ⟨A, 0, none⟩ = some (.string ⟨#[65]⟩) ∧ w'.cell? ⟨A, 1, none⟩ = some (.string ⟨#[97]⟩) ∧ w'.cell? ⟨A + 1, 0, none⟩ = some (.string ⟨#[65]⟩) ∧ w'.cell? ⟨A + 1, 1, none⟩ = some (.string ⟨#[98]⟩)) (by kernel_rfl) ⟨a0, a1, b0, b1⟩ (fun hHeld => ?_)
  refine take_val (i := 0) (.pointer (some ⟨g, 0, none⟩)) rfl (by kernel_rfl) (by kernel_rfl) (by kernel_rfl) (fun _ _ _ h => h) (by rfl) (fun w hSw => by go_simp) hHeld ?_
  simp only [Act.put, List.setIfInBounds_toArray, List.set_cons_zero, List.set_cons_succ]
  refine take_val (i := 1) (.agg #[.string ⟨#[65]⟩, .string ⟨#[97]⟩]) rfl (by kernel_rfl) (by kernel_rfl) (by kernel_rfl) (fun _ _ _ h => h) (by rfl) (fun w hSw => by go_simp) hHeld ?_
  simp only [Act.put, List.setIfInBounds_toArray, List.set_cons_zero, List.set_cons_succ]
  refine take_val (i := 6) (.pointer (some ⟨g, 0, none⟩)) rfl (by kernel_rfl) (by kernel_rfl) (by kernel_rfl) (fun _ _ _ h => h) (by rfl) (fun w hSw => by go_simp) hHeld ?_
  simp only [Act.put, List.setIfInBounds_toArray, List.set_cons_zero, List.set_cons_succ]
  refine take_val (i := 7) (.agg #[.string ⟨#[65]⟩, .string ⟨#[98]⟩]) rfl (by kernel_rfl) (by kernel_rfl) (by kernel_rfl) (fun _ _ _ h => h) (by rfl) (fun w hSw => by go_simp) hHeld ?_
  simp only [Act.put, List.setIfInBounds_toArray, List.set_cons_zero, List.set_cons_succ]
  refine take_val (i := 9) (.pointer (some ⟨g, 0, none⟩)) rfl (by kernel_rfl) (by kernel_rfl) (by kernel_rfl) (fun _ _ _ h => h) (by rfl) (fun w hSw => by go_simp) hHeld ?_
  simp only [Act.put, List.setIfInBounds_toArray, List.set_cons_zero, List.set_cons_succ]
  refine take_val (i := 10) (.agg #[.string ⟨#[]⟩, .string ⟨#[]⟩]) rfl (by kernel_rfl) (by kernel_rfl) (by kernel_rfl) (fun _ _ _ h => h) (by rfl) (fun w hSw => by go_simp) hHeld ?_
  simp only [Act.put, List.setIfInBounds_toArray, List.set_cons_zero, List.set_cons_succ]
  clear hHeld
  refine wpAnyH_ready (rs := [2]) (by kernel_rfl) (by simp) ?_
  refine AllReadyH.cons (at_drop0 rfl) (fun K hK => ?_) AllReadyH.nil
  rw [if_pos (by rfl)]
  go_simp
  go_wp2_with fail
  try rw [hW3]
  refine hK.out _ _ (⟨c0, c1, d0, d1⟩) (fun hHeld => ?_)
  clear hK K
  try simp only [Act.put, List.setIfInBounds_toArray, List.set_cons_zero, List.set_cons_succ]
  refine take_val (i := 3) (.agg #[.string ⟨#[110]⟩, .slice (some ⟨A + 2, 0, none⟩) 1 1]) rfl (by kernel_rfl) (by kernel_rfl) (by kernel_rfl) (fun _ _ _ h => h) (by rfl) (fun w hSw => by go_simp) hHeld ?_
  simp only [Act.put, List.setIfInBounds_toArray, List.set_cons_zero, List.set_cons_succ]
  clear hHeld
  refine wpAnyH_ready (rs := [4]) (by kernel_rfl) (by simp) ?_
  refine AllReadyH.cons (at_drop0 rfl) (fun K hK => ?_) AllReadyH.nil
  rw [if_pos (by rfl)]
  go_simp
  go_wp2_with fail
  try rw [hW4]
  refine hK.out _ _ (⟨e0, e1, f0, f1⟩) (fun hHeld => ?_)
  clear hK K
  try simp only [Act.put, List.setIfInBounds_toArray, List.set_cons_zero, List.set_cons_succ]
  clear hHeld
  refine wpAnyH_ready (rs := [5]) (by kernel_rfl) (by simp) ?_
  refine AllReadyH.cons (at_drop0 rfl) (fun K hK => ?_) AllReadyH.nil
  rw [if_pos (by rfl)]
  go_simp
  refine HP1.out.mono ?_
  rintro e w5 ⟨rfl, o5⟩
  obtain ⟨⟨a0, a1, b0, b1⟩, hn5, _⟩ := KEY.out _ _ o5
  have HP2 := hid (onew_del o5 hn5 (by decide) gxb fitKy_b)
  rw [gc2, gp2] at HP2
  simp only [gxb] at HP2
  clear o5 HP1 hn5
  go_wp2_with fail
  refine hK.out _ _ (⟨a0, a1, b0, b1⟩) (fun hHeld => ?_)
  clear hK K
  try simp only [Act.put, List.setIfInBounds_toArray, List.set_cons_zero, List.set_cons_succ]
  clear hHeld
  refine wpAnyH_ready (rs := [8]) (by kernel_rfl) (by simp) ?_
  refine AllReadyH.cons (at_drop0 rfl) (fun K hK => ?_) AllReadyH.nil
  rw [if_pos (by rfl)]
  go_simp
  refine HP2.out.mono ?_
  rintro e w6 ⟨rfl, o6⟩
  obtain ⟨⟨a0, a1, b0, b1⟩, hn6, _⟩ := KEY.out _ _ o6
  have HP3 := hid (onew_put o6 hn6 (by decide) (⟨#[]⟩, ⟨#[]⟩) fitKy_0 (.slice none 0 0) [] [] (isXs_nil _).1 (isXs_nil w6).2.1 rfl)
  rw [gc3, gp3] at HP3
  clear o6 HP2 hn6
  go_wp2_with fail
  refine hK.out _ _ (⟨a0, a1, b0, b1⟩) (fun hHeld => ?_)
  clear hK K
  try simp only [Act.put, List.setIfInBounds_toArray, List.set_cons_zero, List.set_cons_succ]
  clear hHeld
  refine wpAnyH_ready (rs := [11]) (by kernel_rfl) (by simp) ?_
  refine AllReadyH.cons (at_drop0 rfl) (fun K hK => ?_) AllReadyH.nil
  rw [if_pos (by rfl)]
  go_simp
  refine HP3.out.mono ?_
  rintro e w7 ⟨rfl, o7⟩
  obtain ⟨⟨a0, a1, b0, b1⟩, hn7, hn7'⟩ := KEY.out _ _ o7
  have HG := hid (onew_get o7 (by decide) gxa fitKy_a)
  have HO7 := hid o7
  simp only [gxa] at HG
  clear o7 HP3
  go_wp2_with fail
  refine hK.out _ _ (⟨a0, a1, b0, b1⟩) (fun hHeld => ?_)
  clear hK K
  try simp only [Act.put, List.setIfInBounds_toArray, List.set_cons_zero, List.set_cons_succ]
  refine take_val (i := 12) (.int .i64 0) rfl (by kernel_rfl) (by kernel_rfl) (by kernel_rfl) (fun _ _ _ h => h) (by rfl) (fun w hSw => by go_simp) hHeld ?_
  simp only [Act.put, List.setIfInBounds_toArray, List.set_cons_zero, List.set_cons_succ]
  refine take_val (i := 13) (.int .i64 0) rfl (by kernel_rfl) (by kernel_rfl) (by kernel_rfl) (fun _ _ _ h => h) (by rfl) (fun w hSw => by go_simp) hHeld ?_
  simp only [Act.put, List.setIfInBounds_toArray, List.set_cons_zero, List.set_cons_succ]
  refine take_val (i := 14) (.int .i64 2) rfl (by kernel_rfl) (by kernel_rfl) (by kernel_rfl) (fun _ _ _ h => h) (by rfl) (fun w hSw => by go_simp) hHeld ?_
  simp only [Act.put, List.setIfInBounds_toArray, List.set_cons_zero, List.set_cons_succ]
  refine wpAnyH_done (by kernel_rfl) ?_ _
  clear hHeld
  go_wp2_with fail
  refine HG.out.mono ?_
  rintro e w8 ⟨p, c, o, rfl, _, ho, hb8⟩
  have hgg := gg1
  rw [gxa] at hgg
  rw [hgg] at ho ⊢
  have hlv : liveW (some (some gxV)) = true := rfl
  rw [hlv]
  have hol : o.length = 1 := by
    have := congrArg List.length ho
    simpa [valW, gxV] using this
  have o8 := HO7.out.on hb8
  obtain ⟨⟨a0, a1, b0, b1⟩, hn8, hn8'⟩ := KEY.out _ _ o8
  rw [hol]
  clear ho hb8 HO7 HG hn7 hn7' hol hgg
  obtain ⟨A8, hA8⟩ : ∃ A8, w8.heap.size = A8 := ⟨_, rfl⟩
  obtain ⟨W9, hW9⟩ : ∃ W9, w8.alloc (.cells #[.string ⟨#[65]⟩, .string ⟨#[98]⟩, .int .i64 0, .int .u64 0, .int .i64 0, .bool false, .slice none 0 0, .string ⟨#[65]⟩, .string ⟨#[100]⟩, .int .i64 0, .int .u64 0, .int .i64 0, .bool false, .slice none 0 0] 49) = W9 := ⟨_, rfl⟩
  have hb9 : Below w8.heap.size w8 W9 := by rw [← hW9]; exact (Below.refl _ _).alloc (Nat.le_refl _) _
  have hob9 : W9.heap[A8]? = some (.cells #[.string ⟨#[65]⟩, .string ⟨#[98]⟩, .int .i64 0, .int .u64 0, .int .i64 0, .bool false, .slice none 0 0, .string ⟨#[65]⟩, .string ⟨#[100]⟩, .int .i64 0, .int .u64 0, .int .i64 0, .bool false, .slice none 0 0] 49 (0, 0)) := by rw [← hW9, ← hA8]; exact heap_alloc_new w8 _
  have o9 := o8.on hb9
  have HOV := hid (onew_over o9 _ gFd (gfd_in hob9) gxT (.slice none 0 0) [] (Kind.is_nil KM W9) ⟨Nat.zero_le _, fun _ h => by simp at h⟩ (by decide))
  have hgm : gFd.map Fd.fnd = gF := rfl
  rw [hgm, gover] at HOV
  simp only [gxT] at HOV
  have HO9 := hid o9
  clear o8 o9 hb9 hob9 hgm hn8 hn8'
  go_wp2_with fail
  try rw [hA8]
  try rw [hW9]
  refine HOV.out.mono ?_
  rintro e w10 ⟨u, fs, rfl, hown, _, _, hfs, hb10⟩
  obtain ⟨f0, f1, rfl⟩ : ∃ f0 f1, fs = [f0, f1] := by
    have := congrArg List.length hfs
    match fs, this with
    | [x, y], _ => exact ⟨x, y, rfl⟩
  obtain ⟨pu, cap, rfl⟩ := Kind.own_shape hown
  obtain ⟨G, rfl, _, _, hat, _⟩ := Kind.own_form hown (by simp)
  have o10 := HO9.out.on hb10
  obtain ⟨k0, k1, _⟩ := kfd_at hat 0 (by simp)
  have hf0 : f0.fnd = (gxa, ⟨0, 0, 0, true, gxV⟩) := by
    simp only [List.map_cons, List.map_nil] at hfs
    injection hfs
  have ha0 : f0.a = ⟨#[65]⟩ := congrArg (fun x : Fnd => x.1.1) hf0
  have hb0 : f0.b = ⟨#[97]⟩ := congrArg (fun x : Fnd => x.1.2) hf0
  simp only [List.getElem_cons_zero, Nat.zero_mul, Nat.zero_add, ha0, hb0] at k0 k1
  have hGs := cell_block k0
  clear hfs hat hf0 ha0 hb0
  have hGn : W9.heap.size ≤ G := (World.ownsRow.lt hown G rfl).1
  obtain ⟨B9, hp9, hf9, hB9⟩ := HO9.out
  have hs29 := hf9.size
  have hs10 := hb10.size
  have KEY2 : Hid (∀ L W, OneW S N w10 B9 g L W → (W.cell? ⟨A, 0, none⟩ = some (.string ⟨#[65]⟩) ∧ W.cell? ⟨A, 1, none⟩ = some (.string ⟨#[97]⟩) ∧ W.cell? ⟨A + 1, 0, none⟩ = some (.string ⟨#[65]⟩) ∧ W.cell? ⟨A + 1, 1, none⟩ = some (.string ⟨#[98]⟩) ∧ W.cell? ⟨G, 0, none⟩ = some (.string ⟨#[65]⟩) ∧ W.cell? ⟨G, 1, none⟩ = some (.string ⟨#[97]⟩)) ∧ N ≤ W.heap.size ∧ Below N w W) := fun L W h => by
    have hA9 : ∀ k, k = A ∨ k = A + 1 → ¬ B9 k := fun k hk hb => by
      rcases hB9 k hb with h1 | h1
      · have := hBA k h1; omega
      · omega
    obtain ⟨⟨z0, z1, z2, z3⟩, z4, _⟩ := KEY.out _ _ o10
    have hbl : ∀ b o v, w10.cell? ⟨b, o, none⟩ = some v → ¬ B9 b → W.cell? ⟨b, o, none⟩ = some v := fun b o v hc hb => (World.cell?_of_block (a := ⟨b, o, none⟩) (h.block (b := b) (cell_block hc) hb)).trans hc
    have hG9 : ¬ B9 G := fun hb => by have := (S.blk hp9 G hb).2; omega
    exact ⟨⟨hbl _ _ _ z0 (hA9 A (Or.inl rfl)), hbl _ _ _ z1 (hA9 A (Or.inl rfl)), hbl _ _ _ z2 (hA9 _ (Or.inr rfl)), hbl _ _ _ z3 (hA9 _ (Or.inr rfl)), hbl _ _ _ k0 hG9, hbl _ _ _ k1 hG9⟩, Nat.le_trans z4 h.size, (HBW.out _ _ o10).trans (h.below z4 fun k hk => (S.blk hp9 k hk).1)⟩
  have q10 : OneW S N w10 B9 g gW2 w10 := OneW.start (S.on hp9 hb10)
  have qd : OneW S N w10 B9 g gW2 w10.drew := q10.on (bel_drewN (Below.refl _ _) 1)
  obtain ⟨⟨a0, a1, b0, b1, g0, g1⟩, _⟩ := KEY2.out _ _ q10
  have HL := hid (onew_len qd (by decide))
  have HQD := hid qd
  have hgl : gW2.length = 2 := rfl
  rw [hgl] at HL
  have heq := fun W => Z.eql_key ⟨#[65]⟩ ⟨#[97]⟩ ⟨#[65]⟩ ⟨#[97]⟩ W
  rw [Z.eqK_iff (⟨#[65]⟩, ⟨#[97]⟩) (⟨#[65]⟩, ⟨#[97]⟩), decide_eq_true rfl] at heq
  clear hown HO9 hp9 hf9 hB9 hb10 o10 q10 qd KEY HBW H2 HOV hW2 hW3 hW4 hW9 k0 k1 hGs hgl
  go_wp2_with fail
  refine wp_region_held_drew (S := fun w' => w'.cell? ⟨A, 0, none⟩ = some (.string ⟨#[65]⟩) ∧ w'.cell? ⟨A, 1, none⟩ = some (.string ⟨#[97]⟩) ∧ w'.cell? ⟨A + 1, 0, none⟩ = some (.string ⟨#[65]⟩) ∧ w'.cell? ⟨A + 1, 1, none⟩ = some (.string ⟨#[98]⟩) ∧ w'.cell? ⟨G, 0, none⟩ = some (.string ⟨#[65]⟩) ∧ w'.cell? ⟨G, 1, none⟩ = some (.string ⟨#[97]⟩)) (by kernel_rfl) ⟨a0, a1, b0, b1, g0, g1⟩ (fun hHeld => ?_)
  refine take_val (i := 0) (.int .i64 0) rfl (by kernel_rfl) (by kernel_rfl) (by kernel_rfl) (fun _ _ _ h => h) (by rfl) (fun w hSw => by go_simp) hHeld ?_
  simp only [Act.put, List.setIfInBounds_toArray, List.set_cons_zero, List.set_cons_succ]
  refine take_val (i := 1) (.bool true) rfl (by kernel_rfl) (by kernel_rfl) (by kernel_rfl) (fun _ _ _ h => h) (by rfl) (fun w hSw => by go_simp) hHeld ?_
  simp only [Act.put, List.setIfInBounds_toArray, List.set_cons_zero, List.set_cons_succ]
  refine take_val (i := 2) (.bool true) rfl (by kernel_rfl) (by kernel_rfl) (by kernel_rfl) (fun _ _ _ h => h) (by rfl) (fun w hSw => by go_simp) hHeld ?_
  simp only [Act.put, List.setIfInBounds_toArray, List.set_cons_zero, List.set_cons_succ]
  refine take_val (i := 3) (.int .i64 0) rfl (by kernel_rfl) (by kernel_rfl) (by kernel_rfl) (fun _ _ _ h => h) (by rfl) (fun w hSw => by go_simp) hHeld ?_
  simp only [Act.put, List.setIfInBounds_toArray, List.set_cons_zero, List.set_cons_succ]
  refine take_val (i := 4) (.bool true) rfl (by kernel_rfl) (by kernel_rfl) (by kernel_rfl) (fun _ _ _ h => h) (by rfl) (fun w hSw => by go_simp) hHeld ?_
  simp only [Act.put, List.setIfInBounds_toArray, List.set_cons_zero, List.set_cons_succ]
  refine take_val (i := 5) (.bool true) rfl (by kernel_rfl) (by kernel_rfl) (by kernel_rfl) (fun _ _ _ h => h) (by rfl) (fun w hSw => by go_simp) hHeld ?_
  simp only [Act.put, List.setIfInBounds_toArray, List.set_cons_zero, List.set_cons_succ]
  refine take_val (i := 6) (.bool true) rfl (by kernel_rfl) (by kernel_rfl) (by kernel_rfl) (fun _ _ _ h => h) (by rfl) (fun w hSw => by go_simp) hHeld ?_
  simp only [Act.put, List.setIfInBounds_toArray, List.set_cons_zero, List.set_cons_succ]
  refine take_val (i := 7) (.int .i64 2) rfl (by kernel_rfl) (by kernel_rfl) (by kernel_rfl) (fun _ _ _ h => h) (by rfl) (fun w hSw => by go_simp) hHeld ?_
  simp only [Act.put, List.setIfInBounds_toArray, List.set_cons_zero, List.set_cons_succ]
  refine take_val (i := 8) (.bool true) rfl (by kernel_rfl) (by kernel_rfl) (by kernel_rfl) (fun _ _ _ h => h) (by rfl) (fun w hSw => by go_simp) hHeld ?_
  simp only [Act.put, List.setIfInBounds_toArray, List.set_cons_zero, List.set_cons_succ]
  refine take_val (i := 9) (.bool true) rfl (by kernel_rfl) (by kernel_rfl) (by kernel_rfl) (fun _ _ _ h => h) (by rfl) (fun w hSw => by go_simp) hHeld ?_
  simp only [Act.put, List.setIfInBounds_toArray, List.set_cons_zero, List.set_cons_succ]
  refine take_val (i := 10) (.bool true) rfl (by kernel_rfl) (by kernel_rfl) (by kernel_rfl) (fun _ _ _ h => h) (by rfl) (fun w hSw => by go_simp) hHeld ?_
  simp only [Act.put, List.setIfInBounds_toArray, List.set_cons_zero, List.set_cons_succ]
  refine take_val (i := 11) (.slice p 1 c) rfl (by kernel_rfl) (by kernel_rfl) (by kernel_rfl) (fun _ _ _ h => h) (by rfl) (fun w hSw => by go_simp) hHeld ?_
  simp only [Act.put, List.setIfInBounds_toArray, List.set_cons_zero, List.set_cons_succ]
  refine take_val (i := 12) (.int .i64 1) rfl (by kernel_rfl) (by kernel_rfl) (by kernel_rfl) (fun _ _ _ h => h) (by rfl) (fun w hSw => by go_simp) hHeld ?_
  simp only [Act.put, List.setIfInBounds_toArray, List.set_cons_zero, List.set_cons_succ]
  refine take_val (i := 13) (.bool true) rfl (by kernel_rfl) (by kernel_rfl) (by kernel_rfl) (fun _ _ _ h => h) (by rfl) (fun w hSw => by go_simp) hHeld ?_
  simp only [Act.put, List.setIfInBounds_toArray, List.set_cons_zero, List.set_cons_succ]
  refine take_val (i := 14) (.bool true) rfl (by kernel_rfl) (by kernel_rfl) (by kernel_rfl) (fun _ _ _ h => h) (by rfl) (fun w hSw => by go_simp) hHeld ?_
  simp only [Act.put, List.setIfInBounds_toArray, List.set_cons_zero, List.set_cons_succ]
  refine take_val (i := 15) (.bool true) rfl (by kernel_rfl) (by kernel_rfl) (by kernel_rfl) (fun _ _ _ h => h) (by rfl) (fun w hSw => by go_simp) hHeld ?_
  simp only [Act.put, List.setIfInBounds_toArray, List.set_cons_zero, List.set_cons_succ]
  refine take_val (i := 16) (.bool true) rfl (by kernel_rfl) (by kernel_rfl) (by kernel_rfl) (fun _ _ _ h => h) (by rfl) (fun w hSw => by go_simp) hHeld ?_
  simp only [Act.put, List.setIfInBounds_toArray, List.set_cons_zero, List.set_cons_succ]
  refine take_val (i := 17) (.bool true) rfl (by kernel_rfl) (by kernel_rfl) (by kernel_rfl) (fun _ _ _ h => h) (by rfl) (fun w hSw => by go_simp) hHeld ?_
  simp only [Act.put, List.setIfInBounds_toArray, List.set_cons_zero, List.set_cons_succ]
  refine take_val (i := 18) (.bool true) rfl (by kernel_rfl) (by kernel_rfl) (by kernel_rfl) (fun _ _ _ h => h) (by rfl) (fun w hSw => by go_simp) hHeld ?_
  simp only [Act.put, List.setIfInBounds_toArray, List.set_cons_zero, List.set_cons_succ]
  refine take_val (i := 19) (.bool true) rfl (by kernel_rfl) (by kernel_rfl) (by kernel_rfl) (fun _ _ _ h => h) (by rfl) (fun w hSw => by go_simp) hHeld ?_
  simp only [Act.put, List.setIfInBounds_toArray, List.set_cons_zero, List.set_cons_succ]
  refine take_val (i := 20) (.bool true) rfl (by kernel_rfl) (by kernel_rfl) (by kernel_rfl) (fun _ _ _ h => h) (by rfl) (fun w hSw => by go_simp) hHeld ?_
  simp only [Act.put, List.setIfInBounds_toArray, List.set_cons_zero, List.set_cons_succ]
  refine take_val (i := 21) (.bool true) rfl (by kernel_rfl) (by kernel_rfl) (by kernel_rfl) (fun _ _ _ h => h) (by rfl) (fun w hSw => by go_simp) hHeld ?_
  simp only [Act.put, List.setIfInBounds_toArray, List.set_cons_zero, List.set_cons_succ]
  refine take_val (i := 22) (.slice (some ⟨G, 0, none⟩) 2 cap) rfl (by kernel_rfl) (by kernel_rfl) (by kernel_rfl) (fun _ _ _ h => h) (by rfl) (fun w hSw => by go_simp) hHeld ?_
  simp only [Act.put, List.setIfInBounds_toArray, List.set_cons_zero, List.set_cons_succ]
  refine take_val (i := 23) (.int .i64 2) rfl (by kernel_rfl) (by kernel_rfl) (by kernel_rfl) (fun _ _ _ h => h) (by rfl) (fun w hSw => by go_simp) hHeld ?_
  simp only [Act.put, List.setIfInBounds_toArray, List.set_cons_zero, List.set_cons_succ]
  refine take_val (i := 24) (.bool true) rfl (by kernel_rfl) (by kernel_rfl) (by kernel_rfl) (fun _ _ _ h => h) (by rfl) (fun w hSw => by go_simp) hHeld ?_
  simp only [Act.put, List.setIfInBounds_toArray, List.set_cons_zero, List.set_cons_succ]
  refine take_val (i := 25) (.bool true) rfl (by kernel_rfl) (by kernel_rfl) (by kernel_rfl) (fun _ _ _ h => h) (by rfl) (fun w hSw => by go_simp) hHeld ?_
  simp only [Act.put, List.setIfInBounds_toArray, List.set_cons_zero, List.set_cons_succ]
  refine take_val (i := 26) (.bool true) rfl (by kernel_rfl) (by kernel_rfl) (by kernel_rfl) (fun _ _ _ h => h) (by rfl) (fun w hSw => by go_simp) hHeld ?_
  simp only [Act.put, List.setIfInBounds_toArray, List.set_cons_zero, List.set_cons_succ]
  refine take_val (i := 27) (.slice (some ⟨G, 0, none⟩) 2 cap) rfl (by kernel_rfl) (by kernel_rfl) (by kernel_rfl) (fun _ _ _ h => h) (by rfl) (fun w hSw => by go_simp) hHeld ?_
  simp only [Act.put, List.setIfInBounds_toArray, List.set_cons_zero, List.set_cons_succ]
  refine take_val (i := 28) (.pointer (some ⟨G, 0, none⟩)) rfl (by kernel_rfl) (by kernel_rfl) (by kernel_rfl) (fun _ _ _ h => h) (by rfl) (fun w hSw => by go_simp) hHeld ?_
  simp only [Act.put, List.setIfInBounds_toArray, List.set_cons_zero, List.set_cons_succ]
  refine take_val (i := 29) (.pointer (some ⟨G, 0, none⟩)) rfl (by kernel_rfl) (by kernel_rfl) (by kernel_rfl) (fun _ _ _ h => h) (by rfl) (fun w hSw => by go_simp) hHeld ?_
  simp only [Act.put, List.setIfInBounds_toArray, List.set_cons_zero, List.set_cons_succ]
  refine take_val (i := 30) (.agg #[.string ⟨#[65]⟩, .string ⟨#[97]⟩]) rfl (by kernel_rfl) (by kernel_rfl) (by kernel_rfl) (fun _ _ _ h => h) (by rfl) (fun w hSw => by go_simp) hHeld ?_
  simp only [Act.put, List.setIfInBounds_toArray, List.set_cons_zero, List.set_cons_succ]
  refine take_val (i := 31) (.agg #[.string ⟨#[65]⟩, .string ⟨#[97]⟩]) rfl (by kernel_rfl) (by kernel_rfl) (by kernel_rfl) (fun _ _ _ h => h) (by rfl) (fun w hSw => by go_simp) hHeld ?_
  simp only [Act.put, List.setIfInBounds_toArray, List.set_cons_zero, List.set_cons_succ]
  refine take_val (i := 32) (.bool true) rfl (by kernel_rfl) (by kernel_rfl) (by kernel_rfl) (fun _ _ _ h => h) (by rfl) (fun w hSw => by go_simp) hHeld ?_
  simp only [Act.put, List.setIfInBounds_toArray, List.set_cons_zero, List.set_cons_succ]
  refine take_val (i := 33) (.bool true) rfl (by kernel_rfl) (by kernel_rfl) (by kernel_rfl) (fun _ _ _ h => h) (by rfl) (fun w hSw => by go_simp) hHeld ?_
  simp only [Act.put, List.setIfInBounds_toArray, List.set_cons_zero, List.set_cons_succ]
  refine take_val (i := 34) (.bool true) rfl (by kernel_rfl) (by kernel_rfl) (by kernel_rfl) (fun _ _ _ h => h) (by rfl) (fun w hSw => by go_simp) hHeld ?_
  simp only [Act.put, List.setIfInBounds_toArray, List.set_cons_zero, List.set_cons_succ]
  refine take_val (i := 35) (.pointer (some ⟨g, 0, none⟩)) rfl (by kernel_rfl) (by kernel_rfl) (by kernel_rfl) (fun _ _ _ h => h) (by rfl) (fun w hSw => by go_simp) hHeld ?_
  simp only [Act.put, List.setIfInBounds_toArray, List.set_cons_zero, List.set_cons_succ]
  clear hHeld
  refine wpAnyH_ready (rs := [36]) (by kernel_rfl) (by simp) ?_
  refine AllReadyH.cons (at_drop0 rfl) (fun K hK => ?_) AllReadyH.nil
  rw [if_pos (by rfl)]
  go_simp
  refine HL.out.mono ?_
  rintro e w11 ⟨rfl, hb11⟩
  have q11 := HQD.out.on hb11
  obtain ⟨⟨a0, a1, b0, b1, g0, g1⟩, _⟩ := KEY2.out _ _ q11
  have HKS := hid (onew_keys q11 (by decide))
  have HQ11 := hid q11
  clear hb11 HL q11 HQD
  go_wp2_with fail
  refine hK.out _ _ (⟨a0, a1, b0, b1, g0, g1⟩) (fun hHeld => ?_)
  clear hK K
  try simp only [Act.put, List.setIfInBounds_toArray, List.set_cons_zero, List.set_cons_succ]
  refine take_val (i := 37) (.bool true) rfl (by kernel_rfl) (by kernel_rfl) (by kernel_rfl) (fun _ _ _ h => h) (by rfl) (fun w hSw => by go_simp) hHeld ?_
  simp only [Act.put, List.setIfInBounds_toArray, List.set_cons_zero, List.set_cons_succ]
  refine take_val (i := 38) (.bool true) rfl (by kernel_rfl) (by kernel_rfl) (by kernel_rfl) (fun _ _ _ h => h) (by rfl) (fun w hSw => by go_simp) hHeld ?_
  simp only [Act.put, List.setIfInBounds_toArray, List.set_cons_zero, List.set_cons_succ]
  refine take_val (i := 39) (.bool true) rfl (by kernel_rfl) (by kernel_rfl) (by kernel_rfl) (fun _ _ _ h => h) (by rfl) (fun w hSw => by go_simp) hHeld ?_
  simp only [Act.put, List.setIfInBounds_toArray, List.set_cons_zero, List.set_cons_succ]
  refine take_val (i := 40) (.pointer (some ⟨g, 0, none⟩)) rfl (by kernel_rfl) (by kernel_rfl) (by kernel_rfl) (fun _ _ _ h => h) (by rfl) (fun w hSw => by go_simp) hHeld ?_
  simp only [Act.put, List.setIfInBounds_toArray, List.set_cons_zero, List.set_cons_succ]
  clear hHeld
  refine wpAnyH_ready (rs := [41]) (by kernel_rfl) (by simp) ?_
  refine AllReadyH.cons (at_drop0 rfl) (fun K hK => ?_) AllReadyH.nil
  rw [if_pos (by rfl)]
  go_simp
  refine HKS.out.mono ?_
  rintro e w12 ⟨u, rfl, hu, hb12⟩
  obtain ⟨pk, ck, rfl⟩ := Kind.own_shape hu
  have hkl : (keysW gW2).length = 2 := rfl
  rw [hkl]
  have q12 := HQ11.out.on hb12
  obtain ⟨⟨a0, a1, b0, b1, g0, g1⟩, hn12, _⟩ := KEY2.out _ _ q12
  have HF1 := hid (onew_forget q12 hn12 (by decide) gxb fitKy_b)
  rw [gg2] at HF1
  simp only [gxb] at HF1
  clear hb12 HKS q12 HQ11 hu hkl hn12
  go_wp2_with fail
  refine hK.out _ _ (⟨a0, a1, b0, b1, g0, g1⟩) (fun hHeld => ?_)
  clear hK K
  try simp only [Act.put, List.setIfInBounds_toArray, List.set_cons_zero, List.set_cons_succ]
  refine take_val (i := 42) (.int .i64 2) rfl (by kernel_rfl) (by kernel_rfl) (by kernel_rfl) (fun _ _ _ h => h) (by rfl) (fun w hSw => by go_simp) hHeld ?_
  simp only [Act.put, List.setIfInBounds_toArray, List.set_cons_zero, List.set_cons_succ]
  refine take_val (i := 43) (.bool true) rfl (by kernel_rfl) (by kernel_rfl) (by kernel_rfl) (fun _ _ _ h => h) (by rfl) (fun w hSw => by go_simp) hHeld ?_
  simp only [Act.put, List.setIfInBounds_toArray, List.set_cons_zero, List.set_cons_succ]
  refine take_val (i := 44) (.bool true) rfl (by kernel_rfl) (by kernel_rfl) (by kernel_rfl) (fun _ _ _ h => h) (by rfl) (fun w hSw => by go_simp) hHeld ?_
  simp only [Act.put, List.setIfInBounds_toArray, List.set_cons_zero, List.set_cons_succ]
  refine take_val (i := 45) (.bool true) rfl (by kernel_rfl) (by kernel_rfl) (by kernel_rfl) (fun _ _ _ h => h) (by rfl) (fun w hSw => by go_simp) hHeld ?_
  simp only [Act.put, List.setIfInBounds_toArray, List.set_cons_zero, List.set_cons_succ]
  refine take_val (i := 46) (.pointer (some ⟨g, 0, none⟩)) rfl (by kernel_rfl) (by kernel_rfl) (by kernel_rfl) (fun _ _ _ h => h) (by rfl) (fun w hSw => by go_simp) hHeld ?_
  simp only [Act.put, List.setIfInBounds_toArray, List.set_cons_zero, List.set_cons_succ]
  refine take_val (i := 47) (.agg #[.string ⟨#[65]⟩, .string ⟨#[98]⟩]) rfl (by kernel_rfl) (by kernel_rfl) (by kernel_rfl) (fun _ _ _ h => h) (by rfl) (fun w hSw => by go_simp) hHeld ?_
  simp only [Act.put, List.setIfInBounds_toArray, List.set_cons_zero, List.set_cons_succ]
  clear hHeld
  refine wpAnyH_ready (rs := [48]) (by kernel_rfl) (by simp) ?_
  refine AllReadyH.cons (at_drop0 rfl) (fun K hK => ?_) AllReadyH.nil
  rw [if_pos (by rfl)]
  go_simp
  refine HF1.out.mono ?_
  rintro e w13 ⟨rfl, q13⟩
  obtain ⟨⟨a0, a1, b0, b1, g0, g1⟩, hn13, _⟩ := KEY2.out _ _ q13
  have HF2 := hid (onew_forget q13 hn13 (Nat.le_trans (delW_len _ _) (by decide)) gxb fitKy_b)
  have hg4 := gg4
  simp only [gxb] at hg4 HF2
  rw [hg4] at HF2
  clear HF1 q13 hn13 hg4
  go_wp2_with fail
  refine hK.out _ _ (⟨a0, a1, b0, b1, g0, g1⟩) (fun hHeld => ?_)
  clear hK K
  try simp only [Act.put, List.setIfInBounds_toArray, List.set_cons_zero, List.set_cons_succ]
  refine take_val (i := 49) (.bool true) rfl (by kernel_rfl) (by kernel_rfl) (by kernel_rfl) (fun _ _ _ h => h) (by rfl) (fun w hSw => by go_simp) hHeld ?_
  simp only [Act.put, List.setIfInBounds_toArray, List.set_cons_zero, List.set_cons_succ]
  refine take_val (i := 50) (.bool true) rfl (by kernel_rfl) (by kernel_rfl) (by kernel_rfl) (fun _ _ _ h => h) (by rfl) (fun w hSw => by go_simp) hHeld ?_
  simp only [Act.put, List.setIfInBounds_toArray, List.set_cons_zero, List.set_cons_succ]
  refine take_val (i := 51) (.pointer (some ⟨g, 0, none⟩)) rfl (by kernel_rfl) (by kernel_rfl) (by kernel_rfl) (fun _ _ _ h => h) (by rfl) (fun w hSw => by go_simp) hHeld ?_
  simp only [Act.put, List.setIfInBounds_toArray, List.set_cons_zero, List.set_cons_succ]
  refine take_val (i := 52) (.agg #[.string ⟨#[65]⟩, .string ⟨#[98]⟩]) rfl (by kernel_rfl) (by kernel_rfl) (by kernel_rfl) (fun _ _ _ h => h) (by rfl) (fun w hSw => by go_simp) hHeld ?_
  simp only [Act.put, List.setIfInBounds_toArray, List.set_cons_zero, List.set_cons_succ]
  clear hHeld
  refine wpAnyH_ready (rs := [53]) (by kernel_rfl) (by simp) ?_
  refine AllReadyH.cons (at_drop0 rfl) (fun K hK => ?_) AllReadyH.nil
  rw [if_pos (by rfl)]
  go_simp
  refine HF2.out.mono ?_
  rintro e w14 ⟨rfl, q14⟩
  obtain ⟨⟨a0, a1, b0, b1, g0, g1⟩, _, hb14⟩ := KEY2.out _ _ q14
  have HB14 := hid hb14
  clear HF2 q14 hb14
  go_wp2_with fail
  refine hK.out _ _ (⟨a0, a1, b0, b1, g0, g1⟩) (fun hHeld => ?_)
  clear hK K
  try simp only [Act.put, List.setIfInBounds_toArray, List.set_cons_zero, List.set_cons_succ]
  refine take_val (i := 54) (.bool true) rfl (by kernel_rfl) (by kernel_rfl) (by kernel_rfl) (fun _ _ _ h => h) (by rfl) (fun w hSw => by go_simp) hHeld ?_
  simp only [Act.put, List.setIfInBounds_toArray, List.set_cons_zero, List.set_cons_succ]
  refine take_val (i := 55) (.bool true) rfl (by kernel_rfl) (by kernel_rfl) (by kernel_rfl) (fun _ _ _ h => h) (by rfl) (fun w hSw => by go_simp) hHeld ?_
  simp only [Act.put, List.setIfInBounds_toArray, List.set_cons_zero, List.set_cons_succ]
  refine take_val (i := 56) (.bool true) rfl (by kernel_rfl) (by kernel_rfl) (by kernel_rfl) (fun _ _ _ h => h) (by rfl) (fun w hSw => by go_simp) hHeld ?_
  simp only [Act.put, List.setIfInBounds_toArray, List.set_cons_zero, List.set_cons_succ]
  refine wpAnyH_done (by kernel_rfl) ?_ _
  clear hHeld
  go_wp2_with fail
  go_ret
  rw [hN]
  exact ⟨rfl, HB14.out⟩

end Go.Proofs.Ytjehjjpdicimhaa

/-
  WritesLast (stage 11), what its walk leans on.
-/
namespace Go.Proofs.Ytjehjjpdicimhaa
open Go.RowKit

/-- A set of the program; ahead of n0 all is as in w1. -/
def PrgS (S : SetApi) (n0 : Nat) (w1 : World) (g : Nat) (L : List RowW) (W : World) : Prop := (∃ B, S.Prg n0 W B g L) ∧ Below n0 w1 W ∧ n0 ≤ W.heap.size

section
variable {S : SetApi} {n0 : Nat} {w1 : World} {g : Nat} {L : List RowW} {W : World}
theorem PrgS.new {g : Nat} (hn : n0 = w1.heap.size) (h : OneW S n0 w1 (fun _ => False) g L W) : PrgS S n0 w1 g L W := by
  have hb := h.below (N := n0) (by omega) fun k hk => hk.elim
  have hs := hb.size
  obtain ⟨B, h1, _⟩ := h
  exact ⟨⟨B, h1⟩, hb, by omega⟩
theorem PrgS.on {W' : World} (h : PrgS S n0 w1 g L W) (hb : Below W.heap.size W W') : PrgS S n0 w1 g L W' := by
  obtain ⟨⟨B, h1⟩, h2, h3⟩ := h
  exact ⟨⟨B, S.on h1 hb⟩, h2.trans (hb.mono h3), Nat.le_trans h3 hb.size⟩
theorem PrgS.one (h : PrgS S n0 w1 g L W) : ∃ B, OneW S n0 W B g L W ∧ (∀ k, B k → n0 ≤ k ∧ k < W.heap.size) := by
  obtain ⟨⟨B, h1⟩, _⟩ := h
  exact ⟨B, OneW.start h1, fun k hk => S.blk h1 k hk⟩
theorem PrgS.then {B : Nat → Prop} {L' : List RowW} {W' : World} (h : PrgS S n0 w1 g L W) (hB : ∀ k, B k → n0 ≤ k) (h' : OneW S n0 W B g L' W') : PrgS S n0 w1 g L' W' := by
  have hb := h'.below (N := n0) h.2.2 hB
  have hs := h'.size
  obtain ⟨B', h1, _⟩ := h'
  exact ⟨⟨B', h1⟩, h.2.1.trans hb, Nat.le_trans h.2.2 hs⟩
theorem PrgS.ok (h : PrgS S n0 w1 g L W) : OkW L := by
  obtain ⟨⟨B, h1⟩, _⟩ := h
  exact S.ok h1
end

theorem codePW_cases (k : Ky) (v : List Fld) : codePW k v = 0 ∨ codePW k v = 2 ∨ codePW k v = 3 := by
  unfold codePW
  split
  · exact Or.inr (Or.inl rfl)
  · split
    · exact Or.inr (Or.inr rfl)
    · exact Or.inl rfl
theorem codeDW_cases (k : Ky) : codeDW k = 0 ∨ codeDW k = 2 := by
  unfold codeDW
  split
  · exact Or.inr rfl
  · exact Or.inl rfl

theorem fitKy_key {k : Ky} (h : keyB k.1 k.2 = true) : FitKy k := by
  unfold keyB at h
  rw [Bool.and_eq_true] at h
  have h1 := typeB_len h.1
  have h2 := idenB_len h.2
  simp at h1 h2
  unfold FitKy maxLen
  constructor <;> omega

theorem keysW_get {L : List RowW} (h : OkW L) {i : Nat} (hi : i < (keysW L).length) : FitKy (keysW L)[i] ∧ (getW L (keysW L)[i]).isSome = true := by
  have hm : (keysW L)[i] ∈ keysW L := List.getElem_mem hi
  obtain ⟨y, hy, he⟩ := List.mem_map.1 hm
  rw [← he]
  refine ⟨fitKy_key (h.key y hy), ?_⟩
  rw [getW_of h.rise hy]
  rfl
theorem keysW_ne {L : List RowW} (h : OkW L) {i j : Nat} (hij : i < j) (hj : j < (keysW L).length) : (keysW L)[i]'(by omega) ≠ (keysW L)[j] := fun e => by
  have hp := List.pairwise_iff_getElem.1 h.rise i j (by rw [keysW, List.length_map] at hj; omega) (by rw [keysW, List.length_map] at hj; exact hj) hij
  simp only [keysW, List.getElem_map] at e
  rw [e, totK.irr] at hp
  cases hp

end Go.Proofs.Ytjehjjpdicimhaa

/-
  WritesForgets (stage 11), what its walk leans on: two sets of the program side by side.
-/
namespace Go.Proofs.Ytjehjjpdicimhaa
open Go.RowKit

def TwoP11 (S : SetApi) (n0 : Nat) (V : World) (C : Nat → Prop) (ga gb : Nat) (La Lb : List RowW) (W : World) : Prop :=
  ∃ A B, S.Prg n0 W A ga La ∧ S.Prg n0 W B gb Lb ∧ (∀ k, A k → ¬ B k) ∧ Fr C V W ∧ ∀ k, (A k ∨ B k) → C k ∨ V.heap.size ≤ k

section
variable {S : SetApi} {n0 : Nat} {V : World} {C : Nat → Prop} {ga gb : Nat} {La Lb : List RowW} {W : World}
theorem TwoP11.swap (h : TwoP11 S n0 V C ga gb La Lb W) : TwoP11 S n0 V C gb ga Lb La W := by
  obtain ⟨A, B, h1, h2, h3, h4, h5⟩ := h
  exact ⟨B, A, h2, h1, fun k hb ha => h3 k ha hb, h4, fun k hk => h5 k hk.symm⟩
theorem TwoP11.on {W' : World} (h : TwoP11 S n0 V C ga gb La Lb W) (hb : Below W.heap.size W W') : TwoP11 S n0 V C ga gb La Lb W' := by
  obtain ⟨A, B, h1, h2, h3, h4, h5⟩ := h
  exact ⟨A, B, S.on h1 hb, S.on h2 hb, h3, Fr.then h4 (Fr.of_below (P := fun _ => False) hb) fun _ h => h.elim, h5⟩
theorem TwoP11.size (h : TwoP11 S n0 V C ga gb La Lb W) : V.heap.size ≤ W.heap.size := by
  obtain ⟨A, B, h1, h2, h3, h4, h5⟩ := h
  exact h4.size
theorem TwoP11.block (h : TwoP11 S n0 V C ga gb La Lb W) {b : Nat} (hb : b < V.heap.size) (hC : ¬ C b) : W.heap[b]? = V.heap[b]? := by
  obtain ⟨A, B, h1, h2, h3, h4, h5⟩ := h
  exact h4.block b hb hC
theorem TwoP11.below (h : TwoP11 S n0 V C ga gb La Lb W) {N : Nat} (hN : N ≤ V.heap.size) (hC : ∀ k, C k → N ≤ k) : Below N V W := by
  obtain ⟨A, B, h1, h2, h3, h4, h5⟩ := h
  exact h4.below hN hC
theorem TwoP11.ok (h : TwoP11 S n0 V C ga gb La Lb W) : OkW La ∧ OkW Lb := by
  obtain ⟨A, B, h1, h2, _⟩ := h
  exact ⟨S.ok h1, S.ok h2⟩
theorem TwoP11.turn {A B : Nat → Prop} {La' : List RowW} {w' : World} (h2 : S.Prg n0 W B gb Lb) (h3 : ∀ k, A k → ¬ B k) (h4 : Fr C V W) (h5 : ∀ k, (A k ∨ B k) → C k ∨ V.heap.size ≤ k) (ht : ∃ A', S.Prg n0 w' A' ga La' ∧ Fr A W w' ∧ ∀ k, A' k → A k ∨ W.heap.size ≤ k) : TwoP11 S n0 V C ga gb La' Lb w' := by
  obtain ⟨A', a1, a2, a3⟩ := ht
  refine ⟨A', B, a1, S.fr h2 a2 fun k hk ha => h3 k ha hk, fun k hk hb => ?_, h4.then a2 fun k hk => h5 k (Or.inl hk), fun k hk => ?_⟩
  · rcases a3 k hk with h | h
    · exact h3 k h hb
    · have := (S.blk h2 k hb).2; omega
  · rcases hk with hk | hk
    · exact (a3 k hk).elim (fun h => h5 k (Or.inl h)) fun h => Or.inr (Nat.le_trans h4.size h)
    · exact h5 k (Or.inr hk)

section
variable (h : TwoP11 S n0 V C ga gb La Lb W)
include h
theorem tp_put (hn : n0 ≤ W.heap.size) (hl : La.length < 1300000000000) (k : Ky) (hk : FitKy k) (v : Value) (o : List Fx) (val : List Fld) (hv : IsXs W v o) (hf : FitX o) (hval : o.map Fx.fld = val) :
    Calls Try.prog 8 #[.pointer (some ⟨ga, 0, none⟩), .agg #[.string k.1, .string k.2], v] W fun e w' => e = .returned (.int .i64 (codePW k val)) ∧ TwoP11 S n0 V C ga gb (putW La k val) Lb w' := by
  obtain ⟨A, B, h1, h2, h3, h4, h5⟩ := h
  exact (S.put h1 hn hl k hk v o val hv hf hval).mono fun e w' q => ⟨q.1, TwoP11.turn h2 h3 h4 h5 q.2⟩
theorem tp_del (hn : n0 ≤ W.heap.size) (hl : La.length < 1300000000000) (k : Ky) (hk : FitKy k) :
    Calls Try.prog 9 #[.pointer (some ⟨ga, 0, none⟩), .agg #[.string k.1, .string k.2]] W fun e w' => e = .returned (.int .i64 (codeDW k)) ∧ TwoP11 S n0 V C ga gb (dltW La k) Lb w' := by
  obtain ⟨A, B, h1, h2, h3, h4, h5⟩ := h
  exact (S.del h1 hn hl k hk).mono fun e w' q => ⟨q.1, TwoP11.turn h2 h3 h4 h5 q.2⟩
theorem tp_forget (hn : n0 ≤ W.heap.size) (hl : La.length ≤ 1300000000000) (k : Ky) (hk : FitKy k) :
    Calls Try.prog 10 #[.pointer (some ⟨ga, 0, none⟩), .agg #[.string k.1, .string k.2]] W fun e w' => e = .returned (.bool (getW La k).isSome) ∧ TwoP11 S n0 V C ga gb (delW La k) Lb w' := by
  obtain ⟨A, B, h1, h2, h3, h4, h5⟩ := h
  exact (S.forget h1 hn hl k hk).mono fun e w' q => ⟨q.1, TwoP11.turn h2 h3 h4 h5 q.2⟩
theorem tp_get (hl : La.length ≤ 1300000000000) (k : Ky) (hk : FitKy k) :
    Calls Try.prog 11 #[.pointer (some ⟨ga, 0, none⟩), .agg #[.string k.1, .string k.2]] W fun e w' => GetPostP W La k e w' := by
  obtain ⟨A, B, h1, h2, h3, h4, h5⟩ := h
  exact S.get h1 hl k hk
theorem tp_keys (hl : La.length ≤ 1300000000000) : Calls Try.prog 13 #[.pointer (some ⟨ga, 0, none⟩)] W fun e w' => KeysPost W (keysW La) e w' := by
  obtain ⟨A, B, h1, h2, h3, h4, h5⟩ := h
  exact S.keys h1 hl
theorem tp_len (hl : La.length ≤ 1300000000000) : Calls Try.prog 14 #[.pointer (some ⟨ga, 0, none⟩)] W fun e w' => e = .returned (.int .i64 (La.length : Nat)) ∧ Below W.heap.size W w' := by
  obtain ⟨A, B, h1, h2, h3, h4, h5⟩ := h
  exact S.len h1 hl
theorem tp_over (vf : Value) (fo : List Fd) (hfo : FoundIn W vf fo) (typ : ByteArray) (vp : Value) (pt : List Tm) (hp : KM.Is W vp pt) (hpf : FitM pt) (hl : fo.length + La.length ≤ 100000000) :
    Calls Try.prog 15 #[.pointer (some ⟨ga, 0, none⟩), vf, .string typ, vp] W fun e w' => FoPost W (overW La (fo.map Fd.fnd) typ (matchM pt)) e w' := by
  obtain ⟨A, B, h1, h2, h3, h4, h5⟩ := h
  exact S.over h1 vf fo hfo typ vp pt hp hpf hl
end
end

/-- Between two rounds. -/
structure FgSt (S : SetApi) (n0 : Nat) (w1 : World) (ga gb : Nat) (k : Ky) (La Lb : List RowW) (th : Bool) (W : World) : Prop where
  two : ∃ A B, S.Prg n0 W A ga La ∧ S.Prg n0 W B gb Lb ∧ ∀ k, A k → ¬ B k
  bel : Below n0 w1 W
  base : n0 ≤ W.heap.size
  eq : delW La k = Lb
  th : th = (getW La k).isSome

section
variable {S : SetApi} {n0 : Nat} {w1 : World} {ga gb : Nat} {k : Ky} {La Lb : List RowW} {th : Bool} {W : World}
theorem FgSt.at (h : FgSt S n0 w1 ga gb k La Lb th W) {V : World} (hb : Below W.heap.size W V) : ∃ C, TwoP11 S n0 V C ga gb La Lb V ∧ ∀ k, C k → n0 ≤ k ∧ k < W.heap.size := by
  obtain ⟨A, B, h1, h2, h3⟩ := h.two
  refine ⟨fun k => A k ∨ B k, ⟨A, B, S.on h1 hb, S.on h2 hb, h3, Fr.refl _ _, fun k hk => Or.inl hk⟩, fun k hk => ?_⟩
  rcases hk with hk | hk
  · exact S.blk h1 k hk
  · exact S.blk h2 k hk
end

/-! ## The mathematics -/

theorem del_same {La : List RowW} (h : OkW La) {k : Ky} {La' : List RowW} (h' : OkW La') (hj : ∀ j, j ≠ k → getW La' j = getW La j) : delW La' k = delW La k :=
  okW_uniq (okW_del h' k) (okW_del h k) fun j => by
    rw [getW_del, getW_del]
    by_cases e : j = k
    · rw [if_pos e, if_pos e]
    · rw [if_neg e, if_neg e, hj j e]

theorem fg_put_eq {La : List RowW} (h : OkW La) (k : Ky) (v : List Fld) : delW (putW La k v) k = delW La k :=
  del_same h (okW_put h k v) fun j hj => by rw [getW_put, if_neg fun e => hj e.2]
theorem fg_dlt_eq {La : List RowW} (h : OkW La) (k : Ky) : delW (dltW La k) k = delW La k :=
  del_same h (okW_dlt h k) fun j hj => by rw [getW_dlt, if_neg fun e => hj e.2]
theorem fg_put_ne {La : List RowW} (h : OkW La) {k x : Ky} (hx : x ≠ k) (v : List Fld) : delW (putW La x v) k = putW (delW La k) x v :=
  okW_uniq (okW_del (okW_put h x v) k) (okW_put (okW_del h k) x v) fun j => by
    rw [getW_del, getW_put, getW_put, getW_del]
    by_cases e : j = k
    · rw [if_pos e, if_neg fun e2 => hx (e2.2.symm.trans e), if_pos e]
    · rw [if_neg e, if_neg e]
theorem fg_dlt_ne {La : List RowW} (h : OkW La) {k x : Ky} (hx : x ≠ k) : delW (dltW La x) k = dltW (delW La k) x :=
  okW_uniq (okW_del (okW_dlt h x) k) (okW_dlt (okW_del h k) x) fun j => by
    rw [getW_del, getW_dlt, getW_dlt, getW_del]
    by_cases e : j = k
    · rw [if_pos e, if_neg fun e2 => hx (e2.2.symm.trans e), if_pos e]
    · rw [if_neg e, if_neg e]

end Go.Proofs.Ytjehjjpdicimhaa

/-
  WritesForgets (stage 11): what is forgotten is as if it had never been written.
-/
namespace Go.Proofs.Ytjehjjpdicimhaa
open Go.RowKit

set_option linter.unusedSimpArgs false in
set_option maxHeartbeats 16000000 in
set_option maxRecDepth 100000 in
theorem forgets11_any (S : SetApi) (v vf : Value) (ops : List Ow) (fo : List Fd) (k : Ky) (w : World) (hv : KOw.Is w v ops) (hx : ∀ x ∈ ops, OpW w x) (hl : ops.length < 50000000) (hk : FitKy k) (hfo : FoundIn w vf fo) (hfl : fo.length ≤ 50000000) :
    Calls Try.prog 5 #[v, .agg #[.string k.1, .string k.2], vf] w fun e w' => e = .returned (.bool true) ∧ Below w.heap.size w w' := by
  obtain ⟨p, cap, rfl, hd⟩ := hv
  obtain ⟨pf, cf, rfl, _⟩ := id hfo.is
  have HD := hid hd
  have HX := hid hx
  have HFO := hid hfo
  have HKF := hid hk
  obtain ⟨N, hN⟩ : ∃ N, w.heap.size = N := ⟨_, rfl⟩
  obtain ⟨V0, hV0⟩ : ∃ V0, w.alloc (.cells #[.string k.1, .string k.2] 27) = V0 := ⟨_, rfl⟩
  have hb0 : Below w.heap.size w V0 := by rw [← hV0]; exact (Below.refl _ _).alloc (Nat.le_refl _) _
  have hbox : V0.heap[N]? = some (.cells #[.string k.1, .string k.2] 27 (0, 0)) := by rw [← hV0, ← hN]; exact heap_alloc_new w _
  have hs0 : V0.heap.size = N + 1 := by rw [← hV0, ← hN]; simp
  have HF := hid (fixed11_any S V0)
  have HB0 := hid hb0
  have HKX : Hid (∀ W, Below V0.heap.size V0 W → W.cell? ⟨N, 0, none⟩ = some (.string k.1) ∧ W.cell? ⟨N, 1, none⟩ = some (.string k.2)) := fun W hW => by
    have := (hW.block N (by omega)).trans hbox
    exact ⟨by rw [Lib.cell_of_heap this]; rfl, by rw [Lib.cell_of_heap this]; rfl⟩
  obtain ⟨ka, kb⟩ := k
  simp only at *
  clear hx hd hfo hk hb0 hbox
  go_enter Try.func5, Try.ntmps5
  go_wp2_with fail
  refine HF.out.mono ?_
  rintro e w1 ⟨rfl, hb1⟩
  have HN1 := hid (S.new w1.heap.size w1 (Nat.le_refl _))
  have HB1 := hid hb1
  clear hb1 HF
  go_wp2_with fail
  refine HN1.out.mono ?_
  rintro e w2 ⟨A0, ga, rfl, hpa, hb2, hA0⟩
  have HN2 := hid (S.new w1.heap.size w2 hb2.size)
  have HPA := hid hpa
  have HB2 := hid hb2
  clear hpa hb2 HN1
  go_wp2_with fail
  refine HN2.out.mono ?_
  rintro e w3 ⟨B0, gb, rfl, hpb, hb3, hB0⟩
  obtain ⟨n0, hn0⟩ : ∃ n0, w1.heap.size = n0 := ⟨_, rfl⟩
  have hs1 := HB1.out.size
  have HST0 : Hid (FgSt S n0 w1 ga gb (ka, kb) [] [] false w3) := by
    rw [← hn0]
    refine ⟨⟨A0, B0, S.on HPA.out hb3, hpb, fun k ha hb => ?_⟩, HB2.out.trans (hb3.mono HB2.out.size), Nat.le_trans HB2.out.size hb3.size, rfl, rfl⟩
    have := (S.blk HPA.out k ha).2
    have := hB0 k hb
    omega
  have HBW : Hid (∀ W, Below n0 w1 W → Below w.heap.size w W ∧ Below V0.heap.size V0 W) := fun W hW => by
    have h1 : Below V0.heap.size V0 W := HB1.out.trans (hW.mono (by omega))
    exact ⟨HB0.out.trans (h1.mono (by omega)), h1⟩
  clear hpb hb3 hB0 hA0 HN2 HPA HB2 hn0
  go_wp2_with fail
  go_loopg [9, 22] ops.length (fun gg v9 vi wr => ∃ (i : Nat) (La Lb : List RowW) (th : Bool), vi = .int .i64 i ∧ v9 = .bool th ∧ i ≤ ops.length ∧ ops.length - i ≤ gg ∧ Hid (FgSt S n0 w1 ga gb (ka, kb) La Lb th wr) ∧ La.length ≤ i ∧ Lb.length ≤ i)
  case atStart => exact ⟨0, [], [], false, rfl, rfl, by omega, by omega, HST0.out, Nat.le_refl _, Nat.le_refl _⟩
  case round =>
    clear HST0
    obtain ⟨i, La, Lb, th, rfl, rfl, hi, hgk, HI, hLa, hLb⟩ := hrel
    have hbw : Below w.heap.size w wr := (HBW.out wr HI.out.bel).1
    by_cases hlt : i < ops.length
    · have hltz : (i : Int) < (ops.length : Int) := by omega
      have hiz : (0 : Int) ≤ i := by omega
      obtain ⟨b1, o1, rfl, k1⟩ : ∃ b off, p = some ⟨b, off, none⟩ ∧ KOw.At w b off ops := by
        rcases HD.out with h | h
        · rw [h] at hlt; simp at hlt
        · exact h
      obtain ⟨y0, y1, y2, y3, y4, y5⟩ := kow_at (Kind.at_kept k1 hbw) i hlt
      have hx0 := HX.out _ (List.getElem_mem hlt)
      generalize ops[i] = x at *
      obtain ⟨V, hV⟩ : ∃ V, wr.alloc (.cells (encOw x).toArray 32) = V := ⟨_, rfl⟩
      obtain ⟨O, hO⟩ : ∃ O, wr.heap.size = O := ⟨_, rfl⟩
      have hbV : Below wr.heap.size wr V := by rw [← hV]; exact (Below.refl _ _).alloc (Nat.le_refl _) _
      have hVo : V.heap[O]? = some (.cells (encOw x).toArray 32 (0, 0)) := by rw [← hV, ← hO]; exact heap_alloc_new wr _
      have hVs : V.heap.size = O + 1 := by rw [← hV, ← hO]; simp
      have hnO : n0 ≤ O := by rw [← hO]; exact HI.out.base
      obtain ⟨C, tV, hC⟩ := HI.out.at hbV
      have hbV1 : Below n0 w1 V := HI.out.bel.trans (hbV.mono HI.out.base)
      have HCC : Hid (∀ L1 L2 w', TwoP11 S n0 V C ga gb L1 L2 w' → (w'.cell? ⟨O, 0, none⟩ = some (.int .i64 x.kind) ∧ w'.cell? ⟨O, 1, none⟩ = some (.string x.a) ∧ w'.cell? ⟨O, 2, none⟩ = some (.string x.b) ∧ w'.cell? ⟨O, 3, none⟩ = some (.slice x.p x.o.length x.cap)) ∧ (w'.cell? ⟨N, 0, none⟩ = some (.string ka) ∧ w'.cell? ⟨N, 1, none⟩ = some (.string kb)) ∧ OpW w' x ∧ n0 ≤ w'.heap.size ∧ Below n0 w1 w') := fun L1 L2 w' q => by
        have hO' : ¬ C O := fun hb => by have := (hC O hb).2; omega
        have := (q.block (b := O) (by omega) hO').trans hVo
        have hb' : Below n0 w1 w' := hbV1.trans (q.below (by omega) fun k hk => (hC k hk).1)
        have hsz := q.size
        exact ⟨⟨by rw [Lib.cell_of_heap this]; rfl, by rw [Lib.cell_of_heap this]; rfl, by rw [Lib.cell_of_heap this]; rfl, by rw [Lib.cell_of_heap this]; rfl⟩, HKX.out _ (HBW.out _ hb').2, hx0.on (HBW.out _ hb').1, by omega, hb'⟩
      have HEND : Hid (∀ L1 L2 th' w', TwoP11 S n0 V C ga gb L1 L2 w' → delW L1 (ka, kb) = L2 → th' = (getW L1 (ka, kb)).isSome → FgSt S n0 w1 ga gb (ka, kb) L1 L2 th' w') := fun L1 L2 th' w' q h1 h2 => by
        obtain ⟨_, _, _, h3, h4⟩ := HCC.out _ _ _ q
        obtain ⟨A, B, q1, q2, q3, _⟩ := q
        exact ⟨⟨A, B, q1, q2, q3⟩, h4, h3, h1, h2⟩
      have HTV := hid tV
      obtain ⟨⟨c0, c1, c2, c3⟩, ⟨g0, g1⟩, hopV, hnV, _⟩ := HCC.out _ _ _ tV
      have HXF := hid hopV.kfit
      have hLa13 : La.length < 1300000000000 := by omega
      have hLb13 : Lb.length < 1300000000000 := by omega
      have HPA := hid (tp_put tV hnV hLa13 x.key hopV.kfit _ x.o x.val hopV.is hopV.fit rfl)
      have HDA := hid (tp_del tV hnV hLa13 x.key hopV.kfit)
      have HPB : Hid (∀ L1 w', TwoP11 S n0 V C ga gb L1 Lb w' → Calls Try.prog 8 #[.pointer (some ⟨gb, 0, none⟩), .agg #[.string x.a, .string x.b], .slice x.p x.o.length x.cap] w' fun e w'' => e = .returned (.int .i64 (codePW x.key x.val)) ∧ TwoP11 S n0 V C ga gb L1 (putW Lb x.key x.val) w'') := fun L1 w' q => by
        obtain ⟨_, _, hop, hn', _⟩ := HCC.out _ _ _ q
        exact (tp_put q.swap hn' hLb13 x.key HXF.out _ x.o x.val hop.is hop.fit rfl).mono fun e w'' r => ⟨r.1, r.2.swap⟩
      have HDB : Hid (∀ L1 w', TwoP11 S n0 V C ga gb L1 Lb w' → Calls Try.prog 9 #[.pointer (some ⟨gb, 0, none⟩), .agg #[.string x.a, .string x.b]] w' fun e w'' => e = .returned (.int .i64 (codeDW x.key)) ∧ TwoP11 S n0 V C ga gb L1 (dltW Lb x.key) w'') := fun L1 w' q => by
        obtain ⟨_, _, hop, hn', _⟩ := HCC.out _ _ _ q
        exact (tp_del q.swap hn' hLb13 x.key HXF.out).mono fun e w'' r => ⟨r.1, r.2.swap⟩
      have hokA := tV.ok.1
      have heqI := HI.out.eq
      have hthI := HI.out.th
      have HC1 := hid (codePW_cases x.key x.val)
      have HC2 := hid (codeDW_cases x.key)
      have HE1 : Hid (x.key = (ka, kb) → delW (putW La x.key x.val) (ka, kb) = Lb ∧ (codePW x.key x.val = 0 → true = (getW (putW La x.key x.val) (ka, kb)).isSome) ∧ (¬ codePW x.key x.val = 0 → th = (getW (putW La x.key x.val) (ka, kb)).isSome)) := fun he => by
        refine ⟨by rw [← heqI, ← he]; exact fg_put_eq hokA _ _, fun hc => by rw [getW_put, if_pos ⟨hc, he.symm⟩]; rfl, fun hc => by rw [getW_put, if_neg fun h => hc h.1]; exact hthI⟩
      have HE2 : Hid (¬ x.key = (ka, kb) → delW (putW La x.key x.val) (ka, kb) = putW Lb x.key x.val ∧ th = (getW (putW La x.key x.val) (ka, kb)).isSome) := fun he => by
        refine ⟨by rw [← heqI]; exact fg_put_ne hokA he _, by rw [getW_put, if_neg fun h => he h.2.symm]; exact hthI⟩
      have HE3 : Hid (x.key = (ka, kb) → delW (dltW La x.key) (ka, kb) = Lb ∧ (codeDW x.key = 0 → true = (getW (dltW La x.key) (ka, kb)).isSome) ∧ (¬ codeDW x.key = 0 → th = (getW (dltW La x.key) (ka, kb)).isSome)) := fun he => by
        refine ⟨by rw [← heqI, ← he]; exact fg_dlt_eq hokA _, fun hc => by rw [getW_dlt, if_pos ⟨hc, he.symm⟩]; rfl, fun hc => by rw [getW_dlt, if_neg fun h => hc h.1]; exact hthI⟩
      have HE4 : Hid (¬ x.key = (ka, kb) → delW (dltW La x.key) (ka, kb) = dltW Lb x.key ∧ th = (getW (dltW La x.key) (ka, kb)).isSome) := fun he => by
        refine ⟨by rw [← heqI]; exact fg_dlt_ne hokA he, by rw [getW_dlt, if_neg fun h => he h.2.symm]; exact hthI⟩
      have HL1 : Hid ((putW La x.key x.val).length ≤ i + 1 ∧ (dltW La x.key).length ≤ i + 1 ∧ (putW Lb x.key x.val).length ≤ i + 1 ∧ (dltW Lb x.key).length ≤ i + 1 ∧ Lb.length ≤ i + 1) := by
        have := putW_len La x.key x.val
        have := dltW_len La x.key
        have := putW_len Lb x.key x.val
        have := dltW_len Lb x.key
        exact ⟨by omega, by omega, by omega, by omega, by omega⟩
      clear hx0 hbw k1 HI hbV hVo hC hbV1 tV hopV hnV hokA heqI hthI
      obtain ⟨xk, xa, xb, xp, xc, xo, xq, xqc, xm, xr, xrc, xf⟩ := x
      simp only [encOw, Ow.key, Ow.val] at *
      have heq := fun W => Z.eql_key xa xb ka kb W
      have hneq := fun W => Z.neq_key xa xb ka kb W
      rw [Z.eqK_iff (xa, xb) (ka, kb)] at heq hneq

      by_cases e1 : xk = 1
      · subst e1
        by_cases he : (xa, xb) = (ka, kb)
        · rw [decide_eq_true he] at heq hneq
          obtain ⟨hq1, hq2, hq3⟩ := HE1.out he
          by_cases hc : codePW (xa, xb) (xo.map Fx.fld) = 0
          · have hcz : (codePW (xa, xb) (xo.map Fx.fld) == 0) = true := by rw [hc]; rfl
            have HQ1 := hid hq1
            have HQ2 := hid (hq2 hc)
            clear hq1 hq2 hq3 he HE1 HE2 HE3 HE4 HPB HDB hc
            go_wp2_with fail
            refine HPA.out.mono ?_
            rintro e w7 ⟨rfl, q⟩
            obtain ⟨⟨c0, c1, c2, c3⟩, ⟨g0, g1⟩, _⟩ := HCC.out _ _ _ q
            have HE := hid (HEND.out _ _ true _ q HQ1.out HQ2.out)
            clear q HQ1 HQ2
            go_wp2_with fail
            go_roundg (ops.length - (i + 1))
            case measure => omega
            exact ⟨i + 1, _, _, true, by go_num, rfl, by omega, by omega, HE.out, HL1.out.1, HL1.out.2.2.2.2⟩
          · have hcz : (codePW (xa, xb) (xo.map Fx.fld) == 0) = false := by simpa using hc
            have HQ1 := hid hq1
            have HQ2 := hid (hq3 hc)
            clear hq1 hq2 hq3 he HE1 HE2 HE3 HE4 HPB HDB hc
            go_wp2_with fail
            refine HPA.out.mono ?_
            rintro e w7 ⟨rfl, q⟩
            obtain ⟨⟨c0, c1, c2, c3⟩, ⟨g0, g1⟩, _⟩ := HCC.out _ _ _ q
            have HE := hid (HEND.out _ _ th _ q HQ1.out HQ2.out)
            clear q HQ1 HQ2
            go_wp2_with fail
            go_roundg (ops.length - (i + 1))
            case measure => omega
            exact ⟨i + 1, _, _, th, by go_num, rfl, by omega, by omega, HE.out, HL1.out.1, HL1.out.2.2.2.2⟩
        · rw [decide_eq_false he] at heq hneq
          obtain ⟨hq1, hq2⟩ := HE2.out he
          have HQ1 := hid hq1
          have HQ2 := hid hq2
          clear hq1 hq2 he HE1 HE2 HE3 HE4
          by_cases hc : codePW (xa, xb) (xo.map Fx.fld) = 0
          · have hcz : (codePW (xa, xb) (xo.map Fx.fld) == 0) = true := by rw [hc]; rfl
            clear hc
            go_wp2_with fail
            refine HPA.out.mono ?_
            rintro e w7 ⟨rfl, q⟩
            obtain ⟨⟨c0, c1, c2, c3⟩, ⟨g0, g1⟩, _⟩ := HCC.out _ _ _ q
            have HB7 := hid (HPB.out _ _ q)
            clear q
            go_wp2_with fail
            refine HB7.out.mono ?_
            rintro e w8 ⟨rfl, q⟩
            have HE := hid (HEND.out _ _ th _ q HQ1.out HQ2.out)
            clear q HB7 HQ1 HQ2
            go_wp2_with fail
            go_roundg (ops.length - (i + 1))
            case measure => omega
            exact ⟨i + 1, _, _, th, by go_num, rfl, by omega, by omega, HE.out, HL1.out.1, HL1.out.2.2.1⟩
          · have hcz : (codePW (xa, xb) (xo.map Fx.fld) == 0) = false := by simpa using hc
            clear hc
            go_wp2_with fail
            refine HPA.out.mono ?_
            rintro e w7 ⟨rfl, q⟩
            obtain ⟨⟨c0, c1, c2, c3⟩, ⟨g0, g1⟩, _⟩ := HCC.out _ _ _ q
            have HB7 := hid (HPB.out _ _ q)
            clear q
            go_wp2_with fail
            refine HB7.out.mono ?_
            rintro e w8 ⟨rfl, q⟩
            have HE := hid (HEND.out _ _ th _ q HQ1.out HQ2.out)
            clear q HB7 HQ1 HQ2
            go_wp2_with fail
            go_roundg (ops.length - (i + 1))
            case measure => omega
            exact ⟨i + 1, _, _, th, by go_num, rfl, by omega, by omega, HE.out, HL1.out.1, HL1.out.2.2.1⟩
      · have b1 : (xk == 1) = false := by simpa using e1
        by_cases he : (xa, xb) = (ka, kb)
        · rw [decide_eq_true he] at heq hneq
          obtain ⟨hq1, hq2, hq3⟩ := HE3.out he
          by_cases hc : codeDW (xa, xb) = 0
          · have hcz : (codeDW (xa, xb) == 0) = true := by rw [hc]; rfl
            have HQ1 := hid hq1
            have HQ2 := hid (hq2 hc)
            clear hq1 hq2 hq3 he HE1 HE2 HE3 HE4 HPB HDB hc
            go_wp2_with fail
            refine HDA.out.mono ?_
            rintro e w7 ⟨rfl, q⟩
            obtain ⟨⟨c0, c1, c2, c3⟩, ⟨g0, g1⟩, _⟩ := HCC.out _ _ _ q
            have HE := hid (HEND.out _ _ true _ q HQ1.out HQ2.out)
            clear q HQ1 HQ2
            go_wp2_with fail
            go_roundg (ops.length - (i + 1))
            case measure => omega
            exact ⟨i + 1, _, _, true, by go_num, rfl, by omega, by omega, HE.out, HL1.out.2.1, HL1.out.2.2.2.2⟩
          · have hcz : (codeDW (xa, xb) == 0) = false := by simpa using hc
            have HQ1 := hid hq1
            have HQ2 := hid (hq3 hc)
            clear hq1 hq2 hq3 he HE1 HE2 HE3 HE4 HPB HDB hc
            go_wp2_with fail
            refine HDA.out.mono ?_
            rintro e w7 ⟨rfl, q⟩
            obtain ⟨⟨c0, c1, c2, c3⟩, ⟨g0, g1⟩, _⟩ := HCC.out _ _ _ q
            have HE := hid (HEND.out _ _ th _ q HQ1.out HQ2.out)
            clear q HQ1 HQ2
            go_wp2_with fail
            go_roundg (ops.length - (i + 1))
            case measure => omega
            exact ⟨i + 1, _, _, th, by go_num, rfl, by omega, by omega, HE.out, HL1.out.2.1, HL1.out.2.2.2.2⟩
        · rw [decide_eq_false he] at heq hneq
          obtain ⟨hq1, hq2⟩ := HE4.out he
          have HQ1 := hid hq1
          have HQ2 := hid hq2
          clear hq1 hq2 he HE1 HE2 HE3 HE4
          by_cases hc : codeDW (xa, xb) = 0
          · have hcz : (codeDW (xa, xb) == 0) = true := by rw [hc]; rfl
            clear hc
            go_wp2_with fail
            refine HDA.out.mono ?_
            rintro e w7 ⟨rfl, q⟩
            obtain ⟨⟨c0, c1, c2, c3⟩, ⟨g0, g1⟩, _⟩ := HCC.out _ _ _ q
            have HB7 := hid (HDB.out _ _ q)
            clear q
            go_wp2_with fail
            refine HB7.out.mono ?_
            rintro e w8 ⟨rfl, q⟩
            have HE := hid (HEND.out _ _ th _ q HQ1.out HQ2.out)
            clear q HB7 HQ1 HQ2
            go_wp2_with fail
            go_roundg (ops.length - (i + 1))
            case measure => omega
            exact ⟨i + 1, _, _, th, by go_num, rfl, by omega, by omega, HE.out, HL1.out.2.1, HL1.out.2.2.2.1⟩
          · have hcz : (codeDW (xa, xb) == 0) = false := by simpa using hc
            clear hc
            go_wp2_with fail
            refine HDA.out.mono ?_
            rintro e w7 ⟨rfl, q⟩
            obtain ⟨⟨c0, c1, c2, c3⟩, ⟨g0, g1⟩, _⟩ := HCC.out _ _ _ q
            have HB7 := hid (HDB.out _ _ q)
            clear q
            go_wp2_with fail
            refine HB7.out.mono ?_
            rintro e w8 ⟨rfl, q⟩
            have HE := hid (HEND.out _ _ th _ q HQ1.out HQ2.out)
            clear q HB7 HQ1 HQ2
            go_wp2_with fail
            go_roundg (ops.length - (i + 1))
            case measure => omega
            exact ⟨i + 1, _, _, th, by go_num, rfl, by omega, by omega, HE.out, HL1.out.2.1, HL1.out.2.2.2.1⟩
    · have hltz : ¬ (i : Int) < (ops.length : Int) := by omega
      obtain ⟨C, tV, hC⟩ := HI.out.at (Below.refl _ _)
      have heqI := HI.out.eq
      have hthI := HI.out.th
      have hbase := HI.out.base
      have hbel := HI.out.bel
      have hLa13 : La.length ≤ 1300000000000 := by omega
      have hLb13 : Lb.length ≤ 1300000000000 := by omega
      have HCC : Hid (∀ L1 L2 w', TwoP11 S n0 wr C ga gb L1 L2 w' → (w'.cell? ⟨N, 0, none⟩ = some (.string ka) ∧ w'.cell? ⟨N, 1, none⟩ = some (.string kb)) ∧ Below w.heap.size w w') := fun L1 L2 w' q => by
        have hb' : Below n0 w1 w' := hbel.trans (q.below hbase fun k hk => (hC k hk).1)
        exact ⟨HKX.out _ (HBW.out _ hb').2, (HBW.out _ hb').1⟩
      obtain ⟨⟨g0, g1⟩, _⟩ := HCC.out _ _ _ tV
      have H1 := hid (tp_forget tV hbase hLa13 (ka, kb) HKF.out)
      have HG3 : Hid (getW (delW La (ka, kb)) (ka, kb) = none) := by show _ = _; rw [getW_del, if_pos rfl]
      rw [heqI] at H1 HG3
      rw [← hthI] at H1
      clear tV HI hbw hbase hbel hthI heqI
      go_wp2_with fail
      refine H1.out.mono ?_
      rintro e w4 ⟨rfl, q4⟩
      obtain ⟨⟨g0, g1⟩, _⟩ := HCC.out _ _ _ q4
      have H2 := hid (tp_get q4 hLb13 (ka, kb) HKF.out)
      have HQ4 := hid q4
      clear q4 H1
      go_wp2_with fail
      refine H2.out.mono ?_
      rintro e w5 ⟨p5, f5, o5, rfl, _, _, hb5⟩
      rw [HG3.out]
      have hr1 : liveW none = false := rfl
      have hr2 : (none : Option Wr).isSome = false := rfl
      rw [hr1, hr2]
      have q5 := HQ4.out.on hb5
      have H3 := hid (tp_keys q5 hLb13)
      have HQ5 := hid q5
      clear hb5 H2 HQ4 q5 hr1 hr2
      go_wp2_with fail
      refine H3.out.mono ?_
      rintro e w6 ⟨u6, rfl, hu6, hb6⟩
      have q6 := HQ5.out.on hb6
      have H4 := hid (tp_keys q6.swap hLb13)
      have HQ6 := hid q6
      have HU6 := hid hu6
      clear hb6 hu6 H3 HQ5 q6
      go_wp2_with fail
      refine H4.out.mono ?_
      rintro e w7 ⟨u7, rfl, hu7, hb7⟩
      have hkl : (keysW Lb).length = Lb.length := by unfold keysW; rw [List.length_map]
      have q7 := HQ6.out.on hb7
      have H5 := hid (keys_same (Kind.own_is (Kind.own_on HU6.out hb7)) (Kind.own_is hu7) (by omega) (by omega))
      rw [decide_eq_true rfl] at H5
      have HQ7 := hid q7
      clear hb7 hu7 HU6 H4 HQ6 q7 hkl
      go_wp2_with fail
      refine H5.out.mono ?_
      rintro e w8 ⟨rfl, hb8⟩
      have q8 := HQ7.out.on hb8
      have H6 := hid (tp_len q8 hLb13)
      have HQ8 := hid q8
      clear hb8 H5 HQ7 q8
      go_wp2_with fail
      refine H6.out.mono ?_
      rintro e w9 ⟨rfl, hb9⟩
      have q9 := HQ8.out.on hb9
      have H7 := hid (tp_len q9.swap hLb13)
      have HQ9 := hid q9
      clear hb9 H6 HQ8 q9
      go_wp2_with fail
      refine H7.out.mono ?_
      rintro e w10 ⟨rfl, hb10⟩
      have q10 := HQ9.out.on hb10
      obtain ⟨_, hbw10⟩ := HCC.out _ _ _ q10
      have H8 := hid (tp_over q10 _ fo (HFO.out.on hbw10) ⟨#[65]⟩ (.slice none 0 0) [] (Kind.is_nil KM w10) ⟨Nat.zero_le _, fun _ h => by simp at h⟩ (by omega))
      have HQ10 := hid q10
      clear hb10 H7 HQ9 q10 hbw10
      go_wp2_with fail
      refine H8.out.mono ?_
      intro e w11 hpo
      obtain ⟨u11, fs11, rfl, _, _, _, _, hb11⟩ := id hpo
      have q11 := HQ10.out.on hb11
      obtain ⟨_, hbw11⟩ := HCC.out _ _ _ q11
      have H9 := hid (tp_over q11.swap _ fo (HFO.out.on hbw11) ⟨#[65]⟩ (.slice none 0 0) [] (Kind.is_nil KM w11) ⟨Nat.zero_le _, fun _ h => by simp at h⟩ (by omega))
      have HF11 := hid hpo.at
      have HQ11 := hid q11
      clear hb11 H8 HQ10 q11 hbw11 hpo
      go_wp2_with fail
      refine H9.out.mono ?_
      intro e w12 hpo
      obtain ⟨u12, fs12, rfl, _, _, _, _, hb12⟩ := id hpo
      have hol := over_len_le Lb (fo.map Fd.fnd) ⟨#[65]⟩ (matchM [])
      rw [List.length_map] at hol
      have H10 := hid (found_same (HF11.out.on hb12) hpo.at (by omega))
      rw [decide_eq_true rfl] at H10
      have HQ12 := hid (HQ11.out.on hb12)
      clear hb12 H9 HQ11 HF11 hpo hol
      go_wp2_with fail
      refine H10.out.mono ?_
      rintro e w13 ⟨rfl, hb13⟩
      obtain ⟨_, hbw13⟩ := HCC.out _ _ _ (HQ12.out.on hb13)
      have HE := hid hbw13
      clear hb13 H10 HQ12 hbw13
      go_wp2_with fail
      go_ret
      rw [hN] at HE
      first | exact ⟨rfl, HE.out⟩ | exact ⟨rfl, by rw [hN]; exact HE.out⟩

end Go.Proofs.Ytjehjjpdicimhaa

/-
  For every script, every key and all finds of bulk at most 1048576 the Go function WritesForgets of package foliolaw11 returns true, and its arguments read behind the call as they read before; over the contracts of package writes.
-/
namespace Go.Proofs.Ytjehjjpdicimhaa
open Go.ChangeShapes Go.WideShapes Go.ChangeAt Go.RowKit Go.Joins

set_option maxRecDepth 100000 in
theorem writesforgets_walked (S : SetApi) {H : Type} {enc : TypeId × Value → H} (W : World) (base : Nat) (args : Array Value) (ds gs : List (DataW H)) (before : List MemPlace)
    (hval : ∀ (j : Nat) t v, Try.f5.params[j]? = some t → args[j]? = some v → Value.okWide Try.prog W .any base t v)
    (hW : DataW.Whole enc Try.prog Try.f5.params.toList Rows.writesForgetsSpec.vars false W args.toList ds gs before)
    (hZ : (DataW.weightsEach Try.prog (Try.f5.params.toList ++ (OpenSpec.ofChange Rows.writesForgetsSpec).bare.plain.varTypes Try.prog) (ds ++ gs)).all (· ≤ reachBytes) = true) (hk : Rows.uptoSmall H (ds ++ gs) = true) :
    Calls Try.prog 5 args W fun e W' => ∃ v, e = .returned v ∧ Rows.writesForgetsSpec.post enc Try.prog Try.f5 false true false false W args v W' := by
  have hW' := hW
  obtain ⟨p, q, hA0, hV, rfl, _, _⟩ := hW
  have hA : DataW.TrodAll enc Try.prog W 0 (fun _ => true) true Try.f5.params.toList args.toList ds p := hA0
  rw [Try.params5] at hA hval hZ
  obtain ⟨v0, vs0, d0, ds0, p0, q0, hargs, rfl, rfl, h0, r0⟩ := trodAll_cons hA
  obtain ⟨v1, vs1, d1, ds1, p1, q1, rfl, rfl, rfl, h1, r1⟩ := trodAll_cons r0
  obtain ⟨v2, vs2, d2, ds2, p2, q2, rfl, rfl, rfl, h2, r2⟩ := trodAll_cons r1
  obtain ⟨rfl, rfl, rfl⟩ := trodAll_nil r2
  obtain rfl : args = #[v0, v1, v2] := by cases args; simp_all
  obtain ⟨rfl, rfl⟩ := trodVars_none hV
  have lt0 : ∀ x ∈ p0, x.block < W.heap.size := by obtain ⟨m, hm⟩ := h0; exact DataW.trod_lt m _ _ _ hm
  have lt1 : ∀ x ∈ p1, x.block < W.heap.size := by obtain ⟨m, hm⟩ := h1; exact DataW.trod_lt m _ _ _ hm
  have lt2 : ∀ x ∈ p2, x.block < W.heap.size := by obtain ⟨m, hm⟩ := h2; exact DataW.trod_lt m _ _ _ hm
  have k0 := h0
  have k1 := h1
  have k2 := h2
  have hb : Rows.uptoBulk d0 + Rows.uptoBulk d1 + Rows.uptoBulk d2 ≤ 1048576 := by
    have := of_decide_eq_true hk
    simp only [List.append_nil, Rows.uptoBulkAll] at this
    omega
  have hwalk : Calls Try.prog 5 #[v0, v1, v2] W fun e w' => e = .returned (.bool true) ∧ Below W.heap.size W w' := by
    have z0 : ∀ n ∈ d0.weights Try.prog 22, n ≤ reachBytes := fun n hn => by
      have := List.all_eq_true.1 hZ n (DataW.weights_mem_each (j := 0) rfl rfl n hn)
      simpa using this
    have z2 : ∀ n ∈ d2.weights Try.prog 30, n ≤ reachBytes := fun n hn => by
      have := List.all_eq_true.1 hZ n (DataW.weights_mem_each (j := 2) rfl rfl n hn)
      simpa using this
    obtain ⟨ops, hx, ho, hl, hlb⟩ := open_opsW (hval 0 22 v0 rfl rfl) h0 z0
    obtain ⟨fo, hfo, hfk, hfb⟩ := open_foundW (hval 2 30 v2 rfl rfl) h2 z2
    obtain ⟨k, rfl, hkf⟩ := open_keyW (hval 1 27 v1 rfl rfl) h1
    exact forgets11_any S v0 v2 ops fo k W hx (fun x hx => (ho x hx).1) (by omega) hkf hfo (by omega)
  clear hA0
  refine hwalk.mono fun o W' ⟨he, bel⟩ => ?_
  subst he
  exact ⟨_, rfl, _, _, _, [], _, [], hW', trodAll_mk1 (shut_bool Try.underlying4 _),
    (trodAll_cons_mk (Below.trod Try.laidOut (by kernel_rfl) (of_decide_eq_true (by kernel_rfl)) k0 bel lt0) (trodAll_cons_mk (Below.trod Try.laidOut (by kernel_rfl) (of_decide_eq_true (by kernel_rfl)) k1 bel lt1) (trodAll_cons_mk (Below.trod Try.laidOut (by kernel_rfl) (of_decide_eq_true (by kernel_rfl)) k2 bel lt2) trodAll_mk0))), rfl, bel.frame _, fun h => by cases h⟩

theorem writesforgets_reads (os : Os) {H : Type} (enc : TypeId × Value → H) : ∃ places, DataW.whole enc Try.prog ((World.laidAll Try.prog os []).forCall (fun _ _ => 0) ⟨#[], #[.slice none 0 0, .agg #[.string ⟨#[]⟩, .string ⟨#[]⟩], .slice none 0 0], []⟩).memory Try.f5.params.toList Rows.writesForgetsSpec.vars false #[Value.slice none 0 0, .agg #[.string ⟨#[]⟩, .string ⟨#[]⟩], .slice none 0 0].toList 8 = some ([.nil, .agg [.lit (.string []), .lit (.string [])], .nil], [], places) :=
  ⟨[], by kernel_rfl⟩

set_option maxRecDepth 100000 in
theorem writesforgets_lifted (S : SetApi) (os : Os) (started : os.Started) (H : Type) (enc : TypeId × Value → H) (F : Stop.Interp) :
    ReturnsInHanded {} Try.checked os 5 .any ((Rows.OpenSpec.upto Rows.writesForgetsSpec).preRow enc Try.prog Try.f5 Rows.writesForgetsUptoRow.domain false Rows.writesForgetsUptoRow.laid) (((Rows.OpenSpec.upto Rows.writesForgetsSpec).at F).post enc Try.prog Try.f5 false true false false) := by
  obtain ⟨places, hx⟩ := writesforgets_reads os enc
  refine returnsInHanded_of_row (C := Try.checked) (s := Rows.OpenSpec.upto Rows.writesForgetsSpec) Try.own started (by kernel_rfl) Try.func5
    (witness_row_at (enc := enc) (C := Try.checked) false (World.laidAll Try.prog os []) #[.slice none 0 0, .agg #[.string ⟨#[]⟩, .string ⟨#[]⟩], .slice none 0 0] (World.laidAll_os _ _ _) (by kernel_rfl) (by kernel_rfl) (by kernel_rfl)
      (OpenSpec.preRow_of_cond 8 hx (by kernel_rfl) (fun k hk => by cases hk; kernel_rfl) (by kernel_rfl)
        (by rw [MakeChecks.laidMetH_plain _ _ _ (by kernel_rfl)]; exact laidMet_laidAll (laid := []) _ (by kernel_rfl) (by kernel_rfl)))) ?_
  intro W base args ds gs before hval hW _ hcond hZ _ _ _
  exact writesforgets_walked S W base args ds gs before hval hW hZ (hcond _ rfl)

theorem writesforgets_of (S : SetApi) : Rows.WritesForgetsUptoSaid :=
  OpenClaim.holds_of_cond 5 Try.f5 rfl rfl rfl rfl rfl rfl rfl ⟨rfl, rfl, rfl, rfl, rfl⟩ rfl rfl rfl rfl rfl (by kernel_rfl) Try.func5 (by kernel_rfl)
    (of_decide_eq_true (by kernel_rfl)) (by unfold Func.isWrapper; first | (rw [if_pos (by decide +kernel)]; kernel_rfl) | (rw [if_neg (by decide +kernel)]; exact ⟨rfl, rfl⟩))
    (fun os started H enc _ F => by rw [OpenClaim.pre_eq_preRow]; exact writesforgets_lifted S os started H enc F)

end Go.Proofs.Ytjehjjpdicimhaa
