/-
  The program's registry of snapshots in memory (stage 10).
-/
import Derived.Test.YtkiandchgbldbaaQm0
import Derived.Test.YtkiandchgbldbaaGmp
import Derived.Test.YtkiandchgbldbaaAq0
import Derived.Test.YtkiandchgbldbaaTkm
import Derived.DataShut
namespace Go.Proofs.Ytkiandchgbldbaa
open Go.RowKit

/-- A map from int to uint64. -/
def MU : MKind Int Int where
  K := 3
  E := 29
  M := 51
  key x := .int .i64 x
  lit x := .int .i64 x
  fit x := (Lit.int .i64 x).wf = true
  val x := .int .u64 x
  enc x := .lit (.int .u64 x)
  read v := match v with
    | .int .u64 x => some (.lit (.int .u64 x), [])
    | _ => none
  zero := 0
  und := Try.underlying51
  keyed := Maps.int_keyed Try.underlying3
  key_is x h := Maps.keyOf_int_mk Try.underlying3 h
  key_fit x l h := by
    rw [keyOf_int Try.underlying3] at h
    simp [mapKey, Try.underlying3] at h
    exact ⟨h.1, h.2.symm⟩
  key_inv v l h := by
    rw [keyOf_int Try.underlying3] at h
    cases v <;> simp [mapKey, Try.underlying3] at h
    obtain ⟨⟨rfl, _⟩, _⟩ := h
    exact ⟨_, rfl⟩
  lit_inj x y _ _ h := by injection h
  read_mk e := rfl
  read_inv v y h := by
    split at h
    · exact ⟨_, rfl⟩
    · cases h
  enc_inj a b h := by
    injection h with h
    injection h
  zeroV w := by kernel_rfl

theorem fit_q {x : Int} (h0 : -9223372036854775808 ≤ x) (h1 : x ≤ 9223372036854775807) : MU.fit x := (Lit.wf_int_iff .i64 x).2 ⟨h0, h1⟩

/-- A registry of the program in block g, its map in block m; its blocks are B's. -/
structure PrgQ (n0 : Nat) (W : World) (B : Nat → Prop) (g : Nat) (os : Sn) (fl : Int) : Prop where
  is : ∃ m, W.heap[g]? = some (.cells #[.int .u64 fl, .map (some m), .int .i64 (os.length : Int)] 58 (0, 0)) ∧ MapG MU W m os.length (atQ os) (countQ os) ∧ n0 ≤ g ∧ n0 ≤ m ∧ ∀ k, B k ↔ k = g ∨ k = m

theorem PrgQ.blk {n0 : Nat} {W : World} {B : Nat → Prop} {g : Nat} {os : Sn} {fl : Int} (h : PrgQ n0 W B g os fl) (k : Nat) (hk : B k) : n0 ≤ k ∧ k < W.heap.size := by
  obtain ⟨m, ho, hm, h1, h2, hB⟩ := h.is
  rcases (hB k).1 hk with rfl | rfl
  · exact ⟨h1, (Array.getElem?_eq_some_iff.1 ho).1⟩
  · exact ⟨h2, hm.lt⟩
theorem PrgQ.own {n0 : Nat} {W : World} {B : Nat → Prop} {g : Nat} {os : Sn} {fl : Int} (h : PrgQ n0 W B g os fl) : B g := by
  obtain ⟨m, _, _, _, _, hB⟩ := h.is
  exact (hB g).2 (Or.inl rfl)
theorem PrgQ.fr {n0 : Nat} {W W' : World} {B : Nat → Prop} {g : Nat} {os : Sn} {fl : Int} {P : Nat → Prop} (h : PrgQ n0 W B g os fl) (f : Fr P W W') (hP : ∀ k, B k → ¬ P k) : PrgQ n0 W' B g os fl := by
  obtain ⟨m, ho, hm, h1, h2, hB⟩ := h.is
  exact ⟨m, (f.block g (Array.getElem?_eq_some_iff.1 ho).1 (hP g ((hB g).2 (Or.inl rfl)))).trans ho, hm.on (f.block m hm.lt (hP m ((hB m).2 (Or.inr rfl)))), h1, h2, hB⟩
theorem PrgQ.on {n0 : Nat} {W W' : World} {B : Nat → Prop} {g : Nat} {os : Sn} {fl : Int} (h : PrgQ n0 W B g os fl) (hb : Below W.heap.size W W') : PrgQ n0 W' B g os fl :=
  h.fr (P := fun _ => False) (Fr.of_below hb) fun _ _ k => k

/-- What a call leaves of a registry of the program. -/
def PTurn (n0 : Nat) (W : World) (B : Nat → Prop) (g : Nat) (os : Sn) (fl : Int) (w' : World) : Prop := ∃ B', PrgQ n0 w' B' g os fl ∧ Fr B W w' ∧ ∀ k, B' k → B k ∨ W.heap.size ≤ k

theorem PTurn.same {n0 : Nat} {W : World} {B : Nat → Prop} {g : Nat} {os : Sn} {fl : Int} (h : PrgQ n0 W B g os fl) : PTurn n0 W B g os fl W := ⟨B, h, Fr.refl _ _, fun _ hk => Or.inl hk⟩
theorem PTurn.below {n0 : Nat} {W w' : World} {B : Nat → Prop} {g : Nat} {os : Sn} {fl : Int} (h : PrgQ n0 W B g os fl) (hb : Below W.heap.size W w') : PTurn n0 W B g os fl w' := ⟨B, h.on hb, Fr.of_below hb, fun _ hk => Or.inl hk⟩

set_option maxHeartbeats 4000000 in
set_option maxRecDepth 100000 in
theorem pnewQ_any (n0 : Nat) (W : World) (hn : n0 ≤ W.heap.size) : Calls Try.prog 8 #[] W fun e w' => ∃ B g, e = .returned (.pointer (some ⟨g, 0, none⟩)) ∧ PrgQ n0 w' B g [] 0 ∧ Below W.heap.size W w' ∧ ∀ k, B k → W.heap.size ≤ k := by
  have hmm := @run_makeMap Try.prog
  have hb : Below W.heap.size W ((W.alloc (.map #[] 0)).alloc (.cells #[.int .u64 0, .map (some W.heap.size), .int .i64 0] 58)) := ((Below.refl _ _).alloc (Nat.le_refl _) _).alloc (by simp) _
  have HM : Hid (PrgQ n0 ((W.alloc (.map #[] 0)).alloc (.cells #[.int .u64 0, .map (some W.heap.size), .int .i64 0] 58)) (fun k => k = W.heap.size + 1 ∨ k = W.heap.size) (W.heap.size + 1) [] 0) := by
    have h1 := heap_alloc_new (W.alloc (.map #[] 0)) (.cells #[.int .u64 0, .map (some W.heap.size), .int .i64 0] 58)
    rw [World.size_alloc] at h1
    refine ⟨W.heap.size, h1, ?_, by omega, hn, fun k => Iff.rfl⟩
    refine ((mapG_made MU W).on (Below.heap_alloc _ _ _ (by simp))).congr fun k _ => ?_
    unfold atQ
    split <;> simp
  have HB := hid hb
  clear hb
  go_enter Try.func8, Try.ntmps8
  go_wp2_with fail
  go_ret
  exact ⟨_, _, rfl, HM.out, HB.out, fun k hk => by rcases hk with rfl | rfl <;> omega⟩

set_option maxHeartbeats 4000000 in
set_option maxRecDepth 100000 in
theorem popenQ_any (n0 g : Nat) (os : Sn) (fl x : Int) (B : Nat → Prop) (W : World) (h : PrgQ n0 W B g os fl) (hf : os.length < 40000000000000) :
    Calls Try.prog 15 #[.pointer (some ⟨g, 0, none⟩), .int .u64 x] W fun e w' => e = .returned (.tuple #[.int .i64 (openQ os fl x).1.1, .int .i64 (openQ os fl x).1.2]) ∧ PTurn n0 W B g (openQ os fl x).2 fl w' := by
  have HP := hid h
  obtain ⟨m, ho, hm, h1, h2, hB⟩ := h.is
  have c0 : W.cell? ⟨g, 1, none⟩ = some (.map (some m)) := by rw [Lib.cell_of_heap ho]; rfl
  have c1 : W.cell? ⟨g, 2, none⟩ = some (.int .i64 (os.length : Int)) := by rw [Lib.cell_of_heap ho]; rfl
  have c2 : W.cell? ⟨g, 0, none⟩ = some (.int .u64 fl) := by rw [Lib.cell_of_heap ho]; rfl
  have z1 : W.frozen? ⟨g, 2, none⟩ = false := Lib.frozen_of_heap ho 2
  have HL := hid (aload64 g 0 fl W c2)
  by_cases hlt : x < fl
  · have HQ : Hid (openQ os fl x = ((0, 8), os)) := by show _ = _; unfold openQ; rw [if_pos hlt]
    clear h ho hm
    go_enter Try.func15, Try.ntmps15
    go_wp2_with fail
    refine HL.out.mono ?_
    rintro e w1 ⟨rfl, rfl⟩
    go_wp2_with fail
    go_ret2
    rw [HQ.out]
    exact ⟨rfl, PTurn.same HP.out⟩
  · have HQ : Hid (openQ os fl x = (((os.length : Int) + 1, 0), os ++ [some x])) := by show _ = _; unfold openQ; rw [if_neg hlt]
    have hne : g ≠ m := hm.off ho
    obtain ⟨W1, hW1⟩ : ∃ W1, W.setCell ⟨g, 2, none⟩ (.int .i64 ((os.length : Int) + 1)) = W1 := ⟨_, rfl⟩
    have ho1 : W1.heap[g]? = some (.cells #[.int .u64 fl, .map (some m), .int .i64 ((os.length : Int) + 1)] 58 (0, 0)) := by rw [← hW1]; exact heap_setCell_same W g 2 _ _ _ ho
    have hm1 : W1.heap[m]? = W.heap[m]? := by rw [← hW1]; exact heap_setCell_other W _ m _ (fun e => hne e.symm)
    have e0 : W1.cell? ⟨g, 1, none⟩ = some (.map (some m)) := by rw [Lib.cell_of_heap ho1]; rfl
    have e1 : W1.cell? ⟨g, 2, none⟩ = some (.int .i64 ((os.length : Int) + 1)) := by rw [Lib.cell_of_heap ho1]; rfl
    have hfit : MU.fit ((os.length : Int) + 1) := fit_q (by omega) (by omega)
    obtain ⟨w2, hput, hM2, hg2⟩ := mapG_put (W := W1.drew) (hm.on hm1) hfit (by unfold maxLen; omega) x
    have ho2 : w2.heap[g]? = some (.cells #[.int .u64 fl, .map (some m), .int .i64 ((os.length : Int) + 1)] 58 (0, 0)) := (hg2.block g (Array.getElem?_eq_some_iff.1 ho1).1 (fun e => hne (by injection e))).trans ho1
    have HT : Hid (PTurn n0 W B g (os ++ [some x]) fl w2) := by
      refine ⟨B, ⟨m, ?_, ?_, h1, h2, hB⟩, ?_, fun _ hk => Or.inl hk⟩
      · rw [List.length_append]
        exact ho2
      · rw [List.length_append, count_open]
        have hnone : atQ os ((os.length : Int) + 1) = none := atQ_le (by omega)
        rw [hnone] at hM2
        exact hM2.congr fun k _ => (atQ_open os x k).symm
      · refine ⟨hg2.os.trans (by rw [← hW1]; rfl), hg2.tape.trans (by rw [← hW1]; rfl), hg2.output.trans (by rw [← hW1]; rfl), ?_, fun k hk hn => ?_⟩
        · have hs : W1.heap.size = W.heap.size := by rw [← hW1]; simp
          have := hg2.size
          have hd : W1.drew.heap.size = W1.heap.size := rfl
          omega
        · have hk1 : W1.heap[k]? = W.heap[k]? := by rw [← hW1]; exact heap_setCell_other W _ k _ (fun e => hn ((hB k).2 (Or.inl e)))
          have hs : W1.heap.size = W.heap.size := by rw [← hW1]; simp
          exact (hg2.block k (by show k < W1.heap.size; omega) (fun e => hn ((hB k).2 (Or.inr (by injection e))))).trans hk1
    have d0 : w2.cell? ⟨g, 1, none⟩ = some (.map (some m)) := by rw [Lib.cell_of_heap ho2]; rfl
    have d1 : w2.cell? ⟨g, 2, none⟩ = some (.int .i64 ((os.length : Int) + 1)) := by rw [Lib.cell_of_heap ho2]; rfl
    have hput' : (Instr.mapUpdate 51 (.map (some m)) (.int .i64 ((os.length : Int) + 1)) (.int .u64 x)).run Try.prog W1.drew = .ok () w2 := hput
    clear h ho hm ho1 hm1 hM2 hg2 ho2 hput hB hfit hne h1 h2
    go_enter Try.func15, Try.ntmps15
    go_wp2_with fail
    refine HL.out.mono ?_
    rintro e w1 ⟨rfl, rfl⟩
    go_wp2_with fail
    refine wp_region_held_drew (S := fun w' => w'.cell? ⟨g, 1, none⟩ = some (.map (some m)) ∧ w'.cell? ⟨g, 2, none⟩ = some (.int .i64 ((os.length : Int) + 1))) (by kernel_rfl) ⟨e0, e1⟩ (fun hHeld => ?_)
    refine take_val (i := 0) (.pointer (some ⟨g, 0, none⟩)) rfl (by kernel_rfl) (by kernel_rfl) (by kernel_rfl) (fun _ _ _ h => h) (by rfl) (fun w hSw => by go_simp) hHeld ?_
    simp only [Act.put, List.setIfInBounds_toArray, List.set_cons_zero, List.set_cons_succ]
    refine take_val (i := 1) (.pointer (some ⟨g, 0, none⟩)) rfl (by kernel_rfl) (by kernel_rfl) (by kernel_rfl) (fun _ _ _ h => h) (by rfl) (fun w hSw => by go_simp) hHeld ?_
    simp only [Act.put, List.setIfInBounds_toArray, List.set_cons_zero, List.set_cons_succ]
    refine take_val (i := 2) (.pointer (some ⟨g, 1, none⟩)) rfl (by kernel_rfl) (by kernel_rfl) (by kernel_rfl) (fun _ _ _ h => h) (by rfl) (fun w hSw => by go_simp) hHeld ?_
    simp only [Act.put, List.setIfInBounds_toArray, List.set_cons_zero, List.set_cons_succ]
    refine take_val (i := 3) (.map (some m)) rfl (by kernel_rfl) (by kernel_rfl) (by kernel_rfl) (fun _ _ _ h => h) (by rfl) (fun w hSw => by go_simp) hHeld ?_
    simp only [Act.put, List.setIfInBounds_toArray, List.set_cons_zero, List.set_cons_succ]
    refine take_val (i := 4) (.pointer (some ⟨g, 0, none⟩)) rfl (by kernel_rfl) (by kernel_rfl) (by kernel_rfl) (fun _ _ _ h => h) (by rfl) (fun w hSw => by go_simp) hHeld ?_
    simp only [Act.put, List.setIfInBounds_toArray, List.set_cons_zero, List.set_cons_succ]
    refine take_val (i := 5) (.pointer (some ⟨g, 0, none⟩)) rfl (by kernel_rfl) (by kernel_rfl) (by kernel_rfl) (fun _ _ _ h => h) (by rfl) (fun w hSw => by go_simp) hHeld ?_
    simp only [Act.put, List.setIfInBounds_toArray, List.set_cons_zero, List.set_cons_succ]
    refine take_val (i := 6) (.pointer (some ⟨g, 2, none⟩)) rfl (by kernel_rfl) (by kernel_rfl) (by kernel_rfl) (fun _ _ _ h => h) (by rfl) (fun w hSw => by go_simp) hHeld ?_
    simp only [Act.put, List.setIfInBounds_toArray, List.set_cons_zero, List.set_cons_succ]
    refine take_val (i := 7) (.int .i64 ((os.length : Int) + 1)) rfl (by kernel_rfl) (by kernel_rfl) (by kernel_rfl) (fun _ _ _ h => h) (by rfl) (fun w hSw => by go_simp) hHeld ?_
    simp only [Act.put, List.setIfInBounds_toArray, List.set_cons_zero, List.set_cons_succ]
    refine take_val (i := 8) (.int .u64 x) rfl (by kernel_rfl) (by kernel_rfl) (by kernel_rfl) (fun _ _ _ h => h) (by rfl) (fun w hSw => by go_simp) hHeld ?_
    simp only [Act.put, List.setIfInBounds_toArray, List.set_cons_zero, List.set_cons_succ]
    refine wpAnyH_ready (rs := [9]) (by kernel_rfl) (by simp) ?_
    refine AllReadyH.cons (at_drop0 rfl) (fun K hK => ?_) AllReadyH.nil
    rw [if_pos (by rfl)]
    go_simp
    refine hK.out _ _ (⟨d0, d1⟩) (fun hHeld => ?_)
    clear hK K
    try simp only [Act.put, List.setIfInBounds_toArray, List.set_cons_zero, List.set_cons_succ]
    refine wpAnyH_done (by kernel_rfl) ?_ _
    go_wp2_with fail
    go_ret2
    rw [HQ.out]
    exact ⟨rfl, HT.out⟩

end Go.Proofs.Ytkiandchgbldbaa
