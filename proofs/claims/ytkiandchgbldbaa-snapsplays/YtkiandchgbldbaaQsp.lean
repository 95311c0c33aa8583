/-
  One operation of both registries (stage 10): step.
-/
import Derived.Test.YtkiandchgbldbaaQst
import Derived.Test.YtkiandchgbldbaaTkm
namespace Go.Proofs.Ytkiandchgbldbaa
open Go.RowKit

/-- Both registries have the same snapshots and the same floor. -/
def TwoS (n0 : Nat) (g h : Nat) (os : Sn) (fl : Int) (W : World) : Prop := n0 ≤ W.heap.size ∧ ∃ C, TwoV n0 W C g h os fl os fl W ∧ ∀ k, C k → n0 ≤ k ∧ k < W.heap.size

theorem TwoV.alloc {n0 : Nat} {C : Nat → Prop} {g h : Nat} {os : Sn} {fl : Int} {os' : Sn} {fl' : Int} {W : World} (t : TwoV n0 W C g h os fl os' fl' W) (o : Obj) : TwoV n0 (W.alloc o) C g h os fl os' fl' (W.alloc o) := by
  obtain ⟨B, vs, vc, h1, h2, h3, h4, h5⟩ := t
  have hb : Below W.heap.size W (W.alloc o) := (Below.refl _ _).alloc (Nat.le_refl _) _
  refine ⟨B, vs, vc, h1.on hb, h2.on hb, h3, Fr.refl _ _, fun k hk => ?_⟩
  rcases h5 k hk with h6 | h6
  · exact Or.inl h6
  · rcases hk with hk | hk
    · have := (h1.blk k hk).2
      omega
    · have := (h2.blk k hk).2
      omega

theorem TwoV.same {n0 : Nat} {V : World} {C : Nat → Prop} {g h : Nat} {os : Sn} {fl : Int} {W : World} (t : TwoV n0 V C g h os fl os fl W) (hn : n0 ≤ V.heap.size) (hC : ∀ k, C k → n0 ≤ k) : TwoS n0 g h os fl W ∧ Below n0 V W := by
  have hb := t.below hn hC
  obtain ⟨C', h1, h2⟩ := t.one
  exact ⟨⟨Nat.le_trans hn hb.size, C', h1, h2⟩, hb⟩

/-- What a step leaves. -/
def StepPost (n0 g h : Nat) (os : Sn) (W : World) (e : Ending) (w' : World) : Prop := e = .returned (.bool true) ∧ ∃ os' fl', TwoS n0 g h os' fl' w' ∧ Below n0 W w' ∧ os'.length ≤ os.length + 1

def u64B (x : Int) : Prop := 0 ≤ x ∧ x ≤ 18446744073709551615

set_option maxHeartbeats 8000000 in
set_option maxRecDepth 100000 in
theorem step10_any (n0 g h : Nat) (os : Sn) (fl : Int) (W : World) (t : TwoS n0 g h os fl W) (kind id stamp : Int) (hft : MU.fit id) (hf : os.length < 17000000000000) :
    Calls Try.prog 9 #[.pointer (some ⟨g, 0, none⟩), .pointer (some ⟨h, 0, none⟩), .agg #[.int .i64 kind, .int .i64 id, .int .u64 stamp]] W fun e w' => StepPost n0 g h os W e w' := by
  obtain ⟨hn, C, t, hC⟩ := t
  obtain ⟨V, hV⟩ : ∃ V, W.alloc (.cells #[.int .i64 kind, .int .i64 id, .int .u64 stamp] 33) = V := ⟨_, rfl⟩
  have hVo : V.heap[W.heap.size]? = some (.cells #[.int .i64 kind, .int .i64 id, .int .u64 stamp] 33 (0, 0)) := by rw [← hV]; exact heap_alloc_new W _
  have tV : TwoV n0 V C g h os fl os fl V := by rw [← hV]; exact t.alloc _
  have hbV : Below n0 W V := by rw [← hV]; exact (Below.refl _ _).alloc hn _
  have hsV : n0 ≤ V.heap.size := Nat.le_trans hn hbV.size
  have HEND : Hid (∀ os1 fl1 w', TwoV n0 V C g h os1 fl1 os1 fl1 w' → os1.length ≤ os.length + 1 → StepPost n0 g h os W (.returned (.bool true)) w') := fun os1 fl1 w' q hl => by
    obtain ⟨q1, q2⟩ := q.same hsV fun k hk => (hC k hk).1
    exact ⟨rfl, os1, fl1, q1, hbV.trans q2, hl⟩
  obtain ⟨N, hN⟩ : ∃ N, W.heap.size = N := ⟨_, rfl⟩
  rw [hN] at hVo
  have hNC : ¬ C N := fun hc => by have := (hC N hc).2; omega
  have c0 : V.cell? ⟨N, 0, none⟩ = some (.int .i64 kind) := by rw [Lib.cell_of_heap hVo]; rfl
  have c1 : V.cell? ⟨N, 1, none⟩ = some (.int .i64 id) := by rw [Lib.cell_of_heap hVo]; rfl
  have c2 : V.cell? ⟨N, 2, none⟩ = some (.int .u64 stamp) := by rw [Lib.cell_of_heap hVo]; rfl
  have HCC : Hid (∀ os1 fl1 os2 fl2 w', TwoV n0 V C g h os1 fl1 os2 fl2 w' → w'.cell? ⟨N, 0, none⟩ = some (.int .i64 kind) ∧ w'.cell? ⟨N, 1, none⟩ = some (.int .i64 id) ∧ w'.cell? ⟨N, 2, none⟩ = some (.int .u64 stamp) ∧ n0 ≤ w'.heap.size) := fun os1 fl1 os2 fl2 w' q =>
    ⟨q.cell c0 hNC, q.cell c1 hNC, q.cell c2 hNC, Nat.le_trans hsV (q.below (N := n0) hsV fun k hk => (hC k hk).1).size⟩
  have HTV : Hid (TwoV n0 V C g h os fl os fl V) := tV
  have HFT : Hid (MU.fit id) := hft
  clear t hC hVo tV hbV hsV hNC hft hn
  have h17 : os.length ≤ 17000000000000 := by omega
  have h40 : os.length < 40000000000000 := by omega
  go_enter Try.func9, Try.ntmps9
  by_cases e1 : kind = 1
  · subst e1
    have H1 := hid (two_open HTV.out stamp h40)
    go_wp2_with fail
    refine H1.out.mono ?_
    rintro e w1 ⟨rfl, q1⟩
    obtain ⟨d0, d1, d2, dn⟩ := HCC.out _ _ _ _ w1 q1
    have H2 := hid (two_ropen q1 stamp hf dn)
    have HL : Hid ((openQ os fl stamp).2.length ≤ os.length + 1) := by
      show _ ≤ _
      unfold openQ
      split
      · exact Nat.le_succ _
      · simp
    clear q1 H1 dn
    generalize openQ os fl stamp = R at *
    obtain ⟨⟨ra, rb⟩, ros⟩ := R
    go_wp2_with fail
    refine H2.out.mono ?_
    rintro e w2 ⟨rfl, q2⟩
    have HE := hid (HEND.out _ _ w2 q2 HL.out)
    clear q2 H2
    go_wp2_with fail
    go_ret
    exact HE.out
  by_cases e2 : kind = 2
  · subst e2
    have H1 := hid (two_close HTV.out.drew id HFT.out)
    go_wp2_with fail
    refine wp_region_held_drew (S := fun w' => w'.cell? ⟨N, 1, none⟩ = some (.int .i64 id)) (by kernel_rfl) c1 (fun hHeld => ?_)
    refine take_val (i := 0) (.pointer (some ⟨g, 0, none⟩)) rfl (by kernel_rfl) (by kernel_rfl) (by kernel_rfl) (fun _ _ _ h => h) (by rfl) (fun w hSw => by go_simp) hHeld ?_
    simp only [Act.put, List.setIfInBounds_toArray, List.set_cons_zero, List.set_cons_succ]
    refine take_val (i := 1) (.pointer (some ⟨N, 1, none⟩)) rfl (by kernel_rfl) (by kernel_rfl) (by kernel_rfl) (fun _ _ _ h => h) (by rfl) (fun w hSw => by go_simp) hHeld ?_
    simp only [Act.put, List.setIfInBounds_toArray, List.set_cons_zero, List.set_cons_succ]
    refine take_val (i := 2) (.int .i64 id) rfl (by kernel_rfl) (by kernel_rfl) (by kernel_rfl) (fun _ _ _ h => h) (by rfl) (fun w hSw => by go_simp) hHeld ?_
    simp only [Act.put, List.setIfInBounds_toArray, List.set_cons_zero, List.set_cons_succ]
    refine take_val (i := 4) (.pointer (some ⟨h, 0, none⟩)) rfl (by kernel_rfl) (by kernel_rfl) (by kernel_rfl) (fun _ _ _ h => h) (by rfl) (fun w hSw => by go_simp) hHeld ?_
    simp only [Act.put, List.setIfInBounds_toArray, List.set_cons_zero, List.set_cons_succ]
    refine take_val (i := 5) (.pointer (some ⟨N, 1, none⟩)) rfl (by kernel_rfl) (by kernel_rfl) (by kernel_rfl) (fun _ _ _ h => h) (by rfl) (fun w hSw => by go_simp) hHeld ?_
    simp only [Act.put, List.setIfInBounds_toArray, List.set_cons_zero, List.set_cons_succ]
    refine take_val (i := 6) (.int .i64 id) rfl (by kernel_rfl) (by kernel_rfl) (by kernel_rfl) (fun _ _ _ h => h) (by rfl) (fun w hSw => by go_simp) hHeld ?_
    simp only [Act.put, List.setIfInBounds_toArray, List.set_cons_zero, List.set_cons_succ]
    refine wpAnyH_ready (rs := [3]) (by kernel_rfl) (by simp) ?_
    refine AllReadyH.cons (at_drop0 rfl) (fun K hK => ?_) AllReadyH.nil
    rw [if_pos (by rfl)]
    go_simp
    refine H1.out.mono ?_
    rintro e w1 ⟨rfl, q1⟩
    obtain ⟨_, d1, _, _⟩ := HCC.out _ _ _ _ w1 q1
    have H2 := hid (two_rclose q1 id h17)
    clear q1 H1 hHeld
    generalize (atQ os id).isSome = R at *
    go_wp2_with fail
    refine hK.out _ _ d1 (fun hHeld => ?_)
    clear hK K
    try simp only [Act.put, List.setIfInBounds_toArray, List.set_cons_zero, List.set_cons_succ]
    refine wpAnyH_ready (rs := [7]) (by kernel_rfl) (by simp) ?_
    refine AllReadyH.cons (at_drop0 rfl) (fun K hK => ?_) AllReadyH.nil
    rw [if_pos (by rfl)]
    go_simp
    refine H2.out.mono ?_
    rintro e w2 ⟨rfl, q2⟩
    obtain ⟨_, d2, _, _⟩ := HCC.out _ _ _ _ w2 q2
    have HE := hid (HEND.out _ _ w2 q2 (by rw [closeQ_len]; omega))
    clear q2 H2 hHeld
    go_wp2_with fail
    refine hK.out _ _ d2 (fun hHeld => ?_)
    clear hK K
    try simp only [Act.put, List.setIfInBounds_toArray, List.set_cons_zero, List.set_cons_succ]
    refine take_val (i := 8) (.bool true) rfl (by kernel_rfl) (by kernel_rfl) (by kernel_rfl) (fun _ _ _ h => h) (by rfl) (fun w hSw => by go_simp) hHeld ?_
    simp only [Act.put, List.setIfInBounds_toArray, List.set_cons_zero, List.set_cons_succ]
    refine take_val (i := 9) (.bool true) rfl (by kernel_rfl) (by kernel_rfl) (by kernel_rfl) (fun _ _ _ h => h) (by rfl) (fun w hSw => by go_simp) hHeld ?_
    simp only [Act.put, List.setIfInBounds_toArray, List.set_cons_zero, List.set_cons_succ]
    refine wpAnyH_done (by kernel_rfl) ?_ _
    go_wp2_with fail
    go_ret
    exact HE.out
  by_cases e3 : kind = 3
  · subst e3
    have H1 := hid (two_stamp HTV.out id HFT.out)
    go_wp2_with fail
    refine H1.out.mono ?_
    rintro e w1 ⟨rfl, q1⟩
    obtain ⟨d0, d1, d2, dn⟩ := HCC.out _ _ _ _ w1 q1
    have H2 := hid (two_rstamp q1 id h17)
    clear q1 H1 dn
    generalize (atQ os id).getD 0 = R1 at *
    generalize (atQ os id).isSome = R2 at *
    go_wp2_with fail
    refine H2.out.mono ?_
    rintro e w2 ⟨rfl, q2⟩
    have HE := hid (HEND.out _ _ w2 q2 (Nat.le_succ _))
    clear q2 H2
    go_wp2_with fail
    go_ret
    exact HE.out
  by_cases e4 : kind = 4
  · subst e4
    have H1 := hid (two_count HTV.out)
    go_wp2_with fail
    refine H1.out.mono ?_
    rintro e w1 ⟨rfl, q1⟩
    have H2 := hid (two_rcount q1 h17)
    clear q1 H1
    generalize ((countQ os : Nat) : Int) = R at *
    go_wp2_with fail
    refine H2.out.mono ?_
    rintro e w2 ⟨rfl, q2⟩
    have HE := hid (HEND.out _ _ w2 q2 (Nat.le_succ _))
    clear q2 H2
    go_wp2_with fail
    go_ret
    exact HE.out
  by_cases e5 : kind = 5
  · subst e5
    have H1 := hid (two_least HTV.out.drew stamp h40)
    go_wp2_with fail
    refine wp_region_held_drew (S := fun w' => w'.cell? ⟨N, 2, none⟩ = some (.int .u64 stamp)) (by kernel_rfl) c2 (fun hHeld => ?_)
    refine take_val (i := 0) (.pointer (some ⟨g, 0, none⟩)) rfl (by kernel_rfl) (by kernel_rfl) (by kernel_rfl) (fun _ _ _ h => h) (by rfl) (fun w hSw => by go_simp) hHeld ?_
    simp only [Act.put, List.setIfInBounds_toArray, List.set_cons_zero, List.set_cons_succ]
    refine take_val (i := 1) (.pointer (some ⟨N, 2, none⟩)) rfl (by kernel_rfl) (by kernel_rfl) (by kernel_rfl) (fun _ _ _ h => h) (by rfl) (fun w hSw => by go_simp) hHeld ?_
    simp only [Act.put, List.setIfInBounds_toArray, List.set_cons_zero, List.set_cons_succ]
    refine take_val (i := 2) (.int .u64 stamp) rfl (by kernel_rfl) (by kernel_rfl) (by kernel_rfl) (fun _ _ _ h => h) (by rfl) (fun w hSw => by go_simp) hHeld ?_
    simp only [Act.put, List.setIfInBounds_toArray, List.set_cons_zero, List.set_cons_succ]
    refine take_val (i := 4) (.pointer (some ⟨h, 0, none⟩)) rfl (by kernel_rfl) (by kernel_rfl) (by kernel_rfl) (fun _ _ _ h => h) (by rfl) (fun w hSw => by go_simp) hHeld ?_
    simp only [Act.put, List.setIfInBounds_toArray, List.set_cons_zero, List.set_cons_succ]
    refine take_val (i := 5) (.pointer (some ⟨N, 2, none⟩)) rfl (by kernel_rfl) (by kernel_rfl) (by kernel_rfl) (fun _ _ _ h => h) (by rfl) (fun w hSw => by go_simp) hHeld ?_
    simp only [Act.put, List.setIfInBounds_toArray, List.set_cons_zero, List.set_cons_succ]
    refine take_val (i := 6) (.int .u64 stamp) rfl (by kernel_rfl) (by kernel_rfl) (by kernel_rfl) (fun _ _ _ h => h) (by rfl) (fun w hSw => by go_simp) hHeld ?_
    simp only [Act.put, List.setIfInBounds_toArray, List.set_cons_zero, List.set_cons_succ]
    refine wpAnyH_ready (rs := [3]) (by kernel_rfl) (by simp) ?_
    refine AllReadyH.cons (at_drop0 rfl) (fun K hK => ?_) AllReadyH.nil
    rw [if_pos (by rfl)]
    go_simp
    refine H1.out.mono ?_
    rintro e w1 ⟨rfl, q1⟩
    obtain ⟨_, _, d1, _⟩ := HCC.out _ _ _ _ w1 q1
    have H2 := hid (two_rleast q1 stamp h17)
    clear q1 H1 hHeld
    generalize leastQ os stamp = R at *
    go_wp2_with fail
    refine hK.out _ _ d1 (fun hHeld => ?_)
    clear hK K
    try simp only [Act.put, List.setIfInBounds_toArray, List.set_cons_zero, List.set_cons_succ]
    refine wpAnyH_ready (rs := [7]) (by kernel_rfl) (by simp) ?_
    refine AllReadyH.cons (at_drop0 rfl) (fun K hK => ?_) AllReadyH.nil
    rw [if_pos (by rfl)]
    go_simp
    refine H2.out.mono ?_
    rintro e w2 ⟨rfl, q2⟩
    obtain ⟨_, _, d2, _⟩ := HCC.out _ _ _ _ w2 q2
    have HE := hid (HEND.out _ _ w2 q2 (Nat.le_succ _))
    clear q2 H2 hHeld
    go_wp2_with fail
    refine hK.out _ _ d2 (fun hHeld => ?_)
    clear hK K
    try simp only [Act.put, List.setIfInBounds_toArray, List.set_cons_zero, List.set_cons_succ]
    refine take_val (i := 8) (.bool true) rfl (by kernel_rfl) (by kernel_rfl) (by kernel_rfl) (fun _ _ _ h => h) (by rfl) (fun w hSw => by go_simp) hHeld ?_
    simp only [Act.put, List.setIfInBounds_toArray, List.set_cons_zero, List.set_cons_succ]
    refine take_val (i := 9) (.bool true) rfl (by kernel_rfl) (by kernel_rfl) (by kernel_rfl) (fun _ _ _ h => h) (by rfl) (fun w hSw => by go_simp) hHeld ?_
    simp only [Act.put, List.setIfInBounds_toArray, List.set_cons_zero, List.set_cons_succ]
    refine wpAnyH_done (by kernel_rfl) ?_ _
    go_wp2_with fail
    go_ret
    exact HE.out
  by_cases e6 : kind = 6
  · subst e6
    have H1 := hid (two_raise HTV.out.drew stamp h40)
    go_wp2_with fail
    refine wp_region_held_drew (S := fun w' => w'.cell? ⟨N, 2, none⟩ = some (.int .u64 stamp)) (by kernel_rfl) c2 (fun hHeld => ?_)
    refine take_val (i := 0) (.pointer (some ⟨g, 0, none⟩)) rfl (by kernel_rfl) (by kernel_rfl) (by kernel_rfl) (fun _ _ _ h => h) (by rfl) (fun w hSw => by go_simp) hHeld ?_
    simp only [Act.put, List.setIfInBounds_toArray, List.set_cons_zero, List.set_cons_succ]
    refine take_val (i := 1) (.pointer (some ⟨N, 2, none⟩)) rfl (by kernel_rfl) (by kernel_rfl) (by kernel_rfl) (fun _ _ _ h => h) (by rfl) (fun w hSw => by go_simp) hHeld ?_
    simp only [Act.put, List.setIfInBounds_toArray, List.set_cons_zero, List.set_cons_succ]
    refine take_val (i := 2) (.int .u64 stamp) rfl (by kernel_rfl) (by kernel_rfl) (by kernel_rfl) (fun _ _ _ h => h) (by rfl) (fun w hSw => by go_simp) hHeld ?_
    simp only [Act.put, List.setIfInBounds_toArray, List.set_cons_zero, List.set_cons_succ]
    refine take_val (i := 4) (.pointer (some ⟨h, 0, none⟩)) rfl (by kernel_rfl) (by kernel_rfl) (by kernel_rfl) (fun _ _ _ h => h) (by rfl) (fun w hSw => by go_simp) hHeld ?_
    simp only [Act.put, List.setIfInBounds_toArray, List.set_cons_zero, List.set_cons_succ]
    refine take_val (i := 5) (.pointer (some ⟨N, 2, none⟩)) rfl (by kernel_rfl) (by kernel_rfl) (by kernel_rfl) (fun _ _ _ h => h) (by rfl) (fun w hSw => by go_simp) hHeld ?_
    simp only [Act.put, List.setIfInBounds_toArray, List.set_cons_zero, List.set_cons_succ]
    refine take_val (i := 6) (.int .u64 stamp) rfl (by kernel_rfl) (by kernel_rfl) (by kernel_rfl) (fun _ _ _ h => h) (by rfl) (fun w hSw => by go_simp) hHeld ?_
    simp only [Act.put, List.setIfInBounds_toArray, List.set_cons_zero, List.set_cons_succ]
    refine wpAnyH_ready (rs := [3]) (by kernel_rfl) (by simp) ?_
    refine AllReadyH.cons (at_drop0 rfl) (fun K hK => ?_) AllReadyH.nil
    rw [if_pos (by rfl)]
    go_simp
    refine H1.out.mono ?_
    rintro e w1 ⟨rfl, q1⟩
    obtain ⟨_, _, d1, _⟩ := HCC.out _ _ _ _ w1 q1
    have H2 := hid (two_rraise q1 stamp h17)
    clear q1 H1 hHeld
    generalize raiseQ os fl stamp = R at *
    obtain ⟨ra, rb⟩ := R
    go_wp2_with fail
    refine hK.out _ _ d1 (fun hHeld => ?_)
    clear hK K
    try simp only [Act.put, List.setIfInBounds_toArray, List.set_cons_zero, List.set_cons_succ]
    refine wpAnyH_ready (rs := [7]) (by kernel_rfl) (by simp) ?_
    refine AllReadyH.cons (at_drop0 rfl) (fun K hK => ?_) AllReadyH.nil
    rw [if_pos (by rfl)]
    go_simp
    refine H2.out.mono ?_
    rintro e w2 ⟨rfl, q2⟩
    obtain ⟨_, _, d2, _⟩ := HCC.out _ _ _ _ w2 q2
    have HE := hid (HEND.out _ _ w2 q2 (Nat.le_succ _))
    clear q2 H2 hHeld
    go_wp2_with fail
    refine hK.out _ _ d2 (fun hHeld => ?_)
    clear hK K
    try simp only [Act.put, List.setIfInBounds_toArray, List.set_cons_zero, List.set_cons_succ]
    refine take_val (i := 8) (.bool true) rfl (by kernel_rfl) (by kernel_rfl) (by kernel_rfl) (fun _ _ _ h => h) (by rfl) (fun w hSw => by go_simp) hHeld ?_
    simp only [Act.put, List.setIfInBounds_toArray, List.set_cons_zero, List.set_cons_succ]
    refine take_val (i := 9) (.bool true) rfl (by kernel_rfl) (by kernel_rfl) (by kernel_rfl) (fun _ _ _ h => h) (by rfl) (fun w hSw => by go_simp) hHeld ?_
    simp only [Act.put, List.setIfInBounds_toArray, List.set_cons_zero, List.set_cons_succ]
    refine wpAnyH_done (by kernel_rfl) ?_ _
    go_wp2_with fail
    go_ret
    exact HE.out
  by_cases e7 : kind = 7
  · subst e7
    have H1 := hid (two_floor HTV.out.drew)
    have f0 := HTV.out.flr
    go_wp2_with fail
    refine wp_region_held_drew (S := fun w' => w'.cell? ⟨h, 2, none⟩ = some (.int .u64 fl)) (by kernel_rfl) f0 (fun hHeld => ?_)
    refine take_val (i := 0) (.pointer (some ⟨g, 0, none⟩)) rfl (by kernel_rfl) (by kernel_rfl) (by kernel_rfl) (fun _ _ _ h => h) (by rfl) (fun w hSw => by go_simp) hHeld ?_
    simp only [Act.put, List.setIfInBounds_toArray, List.set_cons_zero, List.set_cons_succ]
    refine take_val (i := 2) (.pointer (some ⟨h, 0, none⟩)) rfl (by kernel_rfl) (by kernel_rfl) (by kernel_rfl) (fun _ _ _ h => h) (by rfl) (fun w hSw => by go_simp) hHeld ?_
    simp only [Act.put, List.setIfInBounds_toArray, List.set_cons_zero, List.set_cons_succ]
    refine take_val (i := 3) (.pointer (some ⟨h, 0, none⟩)) rfl (by kernel_rfl) (by kernel_rfl) (by kernel_rfl) (fun _ _ _ h => h) (by rfl) (fun w hSw => by go_simp) hHeld ?_
    simp only [Act.put, List.setIfInBounds_toArray, List.set_cons_zero, List.set_cons_succ]
    refine take_val (i := 4) (.pointer (some ⟨h, 2, none⟩)) rfl (by kernel_rfl) (by kernel_rfl) (by kernel_rfl) (fun _ _ _ h => h) (by rfl) (fun w hSw => by go_simp) hHeld ?_
    simp only [Act.put, List.setIfInBounds_toArray, List.set_cons_zero, List.set_cons_succ]
    refine take_val (i := 5) (.int .u64 fl) rfl (by kernel_rfl) (by kernel_rfl) (by kernel_rfl) (fun _ _ _ h => h) (by rfl) (fun w hSw => by go_simp) hHeld ?_
    simp only [Act.put, List.setIfInBounds_toArray, List.set_cons_zero, List.set_cons_succ]
    refine wpAnyH_ready (rs := [1]) (by kernel_rfl) (by simp) ?_
    refine AllReadyH.cons (at_drop0 rfl) (fun K hK => ?_) AllReadyH.nil
    rw [if_pos (by rfl)]
    go_simp
    refine H1.out.mono ?_
    rintro e w1 ⟨rfl, q1⟩
    have f1 := q1.flr
    have HE := hid (HEND.out _ _ w1 q1 (Nat.le_succ _))
    clear q1 H1 hHeld
    go_wp2_with fail
    refine hK.out _ _ f1 (fun hHeld => ?_)
    clear hK K
    try simp only [Act.put, List.setIfInBounds_toArray, List.set_cons_zero, List.set_cons_succ]
    refine take_val (i := 6) (.bool true) rfl (by kernel_rfl) (by kernel_rfl) (by kernel_rfl) (fun _ _ _ h => h) (by rfl) (fun w hSw => by go_simp) hHeld ?_
    simp only [Act.put, List.setIfInBounds_toArray, List.set_cons_zero, List.set_cons_succ]
    refine take_val (i := 7) (.bool true) rfl (by kernel_rfl) (by kernel_rfl) (by kernel_rfl) (fun _ _ _ h => h) (by rfl) (fun w hSw => by go_simp) hHeld ?_
    simp only [Act.put, List.setIfInBounds_toArray, List.set_cons_zero, List.set_cons_succ]
    refine wpAnyH_done (by kernel_rfl) ?_ _
    go_wp2_with fail
    go_ret
    exact HE.out
  have HE := hid (HEND.out _ _ V HTV.out (Nat.le_succ _))
  go_wp2_with fail
  go_ret
  exact HE.out

end Go.Proofs.Ytkiandchgbldbaa
