/-
  The walk of NameOrder.
-/
import Derived.Test.YtgpeaepmkincaaaSortz
import Derived.Test.YtgpeaepmkincaaaLess
import Derived.Deep.RegionHeld3
import Derived.Deep.DrawnRows
namespace Go.Proofs.Ytgpeaepmkincaaa
open Go.RowKit

theorem fixed_any (w : World) : Calls Try.prog 9 #[] w fun e w' => e = .returned (.bool true) ∧ Below w.heap.size w w' := fixed_of fix_sort w

/-- Three keys lie in three blocks, one behind another, and nothing older has turned. -/
def Three (w : World) (a b c d e f : ByteArray) (w' : World) : Prop :=
  (w.heap.size + 3 ≤ w'.heap.size ∧ Below w.heap.size w w') ∧ w'.cell? ⟨w.heap.size, 0, none⟩ = some (.string a) ∧ w'.cell? ⟨w.heap.size, 1, none⟩ = some (.string b) ∧ w'.cell? ⟨w.heap.size + 1, 0, none⟩ = some (.string c) ∧ w'.cell? ⟨w.heap.size + 1, 1, none⟩ = some (.string d) ∧ w'.cell? ⟨w.heap.size + 1 + 1, 0, none⟩ = some (.string e) ∧ w'.cell? ⟨w.heap.size + 1 + 1, 1, none⟩ = some (.string f)

theorem Three.on {w : World} {a b c d e f : ByteArray} {W w' : World} (hq : Below W.heap.size W w') (h : Three w a b c d e f W) : Three w a b c d e f w' := by
  obtain ⟨⟨h0, hb⟩, h1, h2, h3, h4, h5, h6⟩ := h
  obtain ⟨hc, _⟩ := bcell hq
  have := hq.size
  exact ⟨⟨by omega, hb.trans (hq.mono (by omega))⟩, by rw [hc _ _ (by omega)]; exact h1, by rw [hc _ _ (by omega)]; exact h2, by rw [hc _ _ (by omega)]; exact h3, by rw [hc _ _ (by omega)]; exact h4, by rw [hc _ _ (by omega)]; exact h5, by rw [hc _ _ (by omega)]; exact h6⟩

theorem Three.drew {w : World} {a b c d e f : ByteArray} {W : World} (h : Three w a b c d e f W) : Three w a b c d e f W.drew := ⟨⟨h.1.1, h.1.2.drew⟩, h.2⟩

theorem eqK_cmp (a b c d : ByteArray) : eqK a b c d = decide (cmpI a b c d = 0) := by
  unfold eqK
  rw [Lib.toList_data, Lib.toList_data, Lib.toList_data, Lib.toList_data, Bool.eq_iff_iff, decide_eq_true_iff, cmpI_eq, cmpL_zero]
  simp

theorem le_trans_cmp (a b c d e f : ByteArray) (h1 : cmpI a b c d ≤ 0) (h2 : cmpI c d e f ≤ 0) : cmpI a b e f ≤ 0 := cmpL_le_trans _ _ _ _ _ _ h1 h2
theorem neg_cmp (a b c d : ByteArray) : cmpI c d a b = - cmpI a b c d := cmpL_neg _ _ _ _
theorem ge_trans_cmp (a b c d e f : ByteArray) (h1 : 0 ≤ cmpI a b c d) (h2 : 0 ≤ cmpI c d e f) : 0 ≤ cmpI a b e f := by
  have n1 := neg_cmp a b c d
  have n2 := neg_cmp c d e f
  have n3 := neg_cmp a b e f
  have := le_trans_cmp e f c d a b (by omega) (by omega)
  omega
theorem range_cmp (a b c d : ByteArray) : cmpI a b c d = -1 ∨ cmpI a b c d = 0 ∨ cmpI a b c d = 1 := cmpL_range _ _ _ _

attribute [local go_sem ↓] Go.wp_at_zero Go.wp_at_succ

set_option maxHeartbeats 1000000 in
theorem order_any (a b c d e f : ByteArray) (w : World) :
    Calls Try.prog 6 #[.agg #[.string a, .string b], .agg #[.string c, .string d], .agg #[.string e, .string f]] w fun o w' => o = .returned (.bool true) ∧ Below w.heap.size w w' := by
  have t1 := le_trans_cmp a b c d e f
  have t2 := ge_trans_cmp a b c d e f
  have n1 := neg_cmp a b c d
  have rx := range_cmp a b c d
  have ry := range_cmp c d e f
  have rz := range_cmp a b e f
  have q1 := eqK_cmp a b c d
  have k1 := fun W => compare_any a b c d W
  have k2 := fun W => compare_any c d e f W
  have k3 := fun W => compare_any a b e f W
  have k4 := fun W => compare_any c d a b W
  have k5 := fun W => less_any a b c d W
  rw [n1] at k4
  clear n1
  generalize cmpI a b c d = x at *
  generalize cmpI c d e f = y at *
  generalize cmpI a b e f = z at *
  have K1 := hid k1
  have K2 := hid k2
  have K3 := hid k3
  have K4 := hid k4
  have K5 := hid k5
  clear k1 k2 k3 k4 k5
  have heq := fun w => eql_key a b c d w
  rcases rx with rfl | rfl | rfl
  all_goals
    go_enter Try.func6, Try.ntmps6
    go_wp2_with (go_at_call 9; refine (fixed_any _).mono ?_; rintro o w1 ⟨rfl, hq1⟩)
    have h3 : Three w a b c d e f (((w.alloc (.cells #[.string a, .string b] 26)).alloc (.cells #[.string c, .string d] 26)).alloc (.cells #[.string e, .string f] 26)) := by
      refine ⟨⟨by simp, (((Below.refl _ _).alloc (Nat.le_refl _) _).alloc (by simp) _).alloc (by simp; omega) _⟩, ?_, ?_, ?_, ?_, ?_, ?_⟩ <;> simp [go_sem]
    have h4 := Three.on hq1 h3
    clear h3 hq1
    go_region_held3 (fun w' => (w.heap.size + 3 ≤ w'.heap.size ∧ Below w.heap.size w w') ∧ w'.cell? ⟨w.heap.size, 0, none⟩ = some (.string a) ∧ w'.cell? ⟨w.heap.size, 1, none⟩ = some (.string b) ∧ w'.cell? ⟨w.heap.size + 1, 0, none⟩ = some (.string c) ∧ w'.cell? ⟨w.heap.size + 1, 1, none⟩ = some (.string d) ∧ w'.cell? ⟨w.heap.size + 1 + 1, 0, none⟩ = some (.string e) ∧ w'.cell? ⟨w.heap.size + 1 + 1, 1, none⟩ = some (.string f)) (first | exact Three.drew h4 | (refine Three.on (by assumption) (by assumption)) | go_keep) (first | (go_at_call_of 23 (Value.agg #[Value.string a, Value.string b]); go_at_call_of 23 (Value.agg #[Value.string c, Value.string d]); refine (K1.out _).mono ?_; rintro o w' ⟨rfl, hq⟩) | (go_at_call_of 23 (Value.agg #[Value.string c, Value.string d]); refine (K2.out _).mono ?_; rintro o w' ⟨rfl, hq⟩) | (go_at_call_of 23 (Value.agg #[Value.string a, Value.string b]); refine (K3.out _).mono ?_; rintro o w' ⟨rfl, hq⟩))
    have hT : Three w a b c d e f w' := by assumption
    obtain ⟨_, d0, d1, d2, d3, _, _⟩ := id hT
    go_wp2_with fail
    refine (K4.out _).mono ?_
    rintro o w2 ⟨rfl, hq2⟩
    have hT2 := Three.on hq2 hT
    clear d0 d1 d2 d3
    obtain ⟨⟨s0, hb2⟩, d0, d1, d2, d3, _, _⟩ := id hT2
    simp only [decide_true, decide_false, Int.reduceEq, Int.reduceNeg] at q1
    go_wp2_with (go_at_call 24; refine (K5.out _).mono ?_; rintro o w3 ⟨rfl, hq3⟩)
    all_goals go_ret
    all_goals exact ⟨ret_bool (by decide), hb2.trans (hq3.mono (by omega))⟩

end Go.Proofs.Ytgpeaepmkincaaa
