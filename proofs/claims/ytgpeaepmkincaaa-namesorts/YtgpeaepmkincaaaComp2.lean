/-
  slices.Compact at two keys that are one.
-/
import Derived.Test.YtgpeaepmkincaaaEq
import Derived.Deep.QuietTactic
import Derived.BigQuiet
import Derived.LoopN
import Derived.Lib.SliceRun
namespace Go.Proofs.Ytgpeaepmkincaaa
open Go.RowKit

theorem zero_cells (e : Value) (n : Nat) : (Builtin.zeroCells #[e, e] n).toList = List.replicate (n * 2) e := by
  apply List.ext_getElem
  · simp [Builtin.zeroCells]
  · intro i h1 h2
    simp [Builtin.zeroCells]
    rcases Nat.mod_two_eq_zero_or_one i with h | h <;> simp [h]

theorem run_clear_key (w : World) (ty : TypeId) (b o n c : Nat) (hn : 0 < n)
    (hc : ∀ j, j < n * 2 → (w.cell? ⟨b, o + j, none⟩).isSome = true) (hf : ∀ j, j < n * 2 → w.frozen? ⟨b, o + j, none⟩ = false) :
    (Builtin.clear_ #[31] ty #[.slice (some ⟨b, o, none⟩) n c]).run Try.prog w = .ok (.tuple #[]) (w.setCells b o (List.replicate (n * 2) (.string ⟨#[]⟩))) := by
  have hst := run_storeCells_cells (P := Try.prog) b o (List.replicate (n * 2) (.string ⟨#[]⟩)) 0 w (by simpa using hc) (by simpa using hf) (by intro v hv'; rw [List.eq_of_mem_replicate hv']; rfl)
  simp only [Nat.add_zero] at hst
  have hz := zero_cells (.string ⟨#[]⟩) n
  obtain ⟨m, rfl⟩ : ∃ m, n = m + 1 := ⟨n - 1, by omega⟩
  simp [Builtin.clear_, run_underlying Try.underlying31, Try.zeroValue26, Value.cells, hz, hst]

theorem below_setCells {B : Nat} {w w' : World} (b : Nat) (hb : B ≤ b) : ∀ (vs : List Value) (o : Nat), Below B w w' → Below B w (w'.setCells b o vs)
  | [], _, h => h
  | v :: vs, o, h => by
    unfold World.setCells
    exact below_setCells (w' := w'.setCell ⟨b, o, none⟩ v) b hb vs (o + 1) (h.setCell hb v)

theorem eqK_self (a b : ByteArray) : eqK a b a b = true := by simp [eqK]

set_option maxHeartbeats 1000000 in
theorem compact_two (a b : ByteArray) (g c : Nat) (w : World) (hc : 2 ≤ c) (hc' : c ≤ maxLen)
    (h0 : w.cell? ⟨g, 0, none⟩ = some (.string a)) (h1 : w.cell? ⟨g, 1, none⟩ = some (.string b)) (h2 : w.cell? ⟨g, 2, none⟩ = some (.string a)) (h3 : w.cell? ⟨g, 3, none⟩ = some (.string b))
    (f2 : w.frozen? ⟨g, 2, none⟩ = false) (f3 : w.frozen? ⟨g, 3, none⟩ = false) :
    Calls Try.prog 43 #[.slice (some ⟨g, 0, none⟩) 2 c] w fun e w' => e = .returned (.slice (some ⟨g, 0, none⟩) 1 c) ∧ Below g w w' := by
  unfold maxLen at hc'
  have heq := fun a b c d w => eql_key a b c d w
  have hk := eqK_self a b
  have hcl : ∀ nq ty, (Builtin.clear_ #[31] ty #[.slice (some ⟨g, 2, none⟩) 1 (c - 1)]).run Try.prog (w.drewN nq) = .ok (.tuple #[]) ((w.drewN nq).setCells g 2 (List.replicate (1 * 2) (.string ⟨#[]⟩))) := by
    intro nq ty
    refine run_clear_key (w.drewN nq) ty g 2 1 (c - 1) (by omega) ?_ ?_
    · intro j hj
      rcases (show j = 0 ∨ j = 1 by omega) with rfl | rfl
      · show (w.cell? ⟨g, 2, none⟩).isSome = true; rw [h2]; rfl
      · show (w.cell? ⟨g, 3, none⟩).isSome = true; rw [h3]; rfl
    · intro j hj
      rcases (show j = 0 ∨ j = 1 by omega) with rfl | rfl
      · exact f2
      · exact f3
  generalize List.replicate (1 * 2) (Value.string ⟨#[]⟩) = zs at hcl
  go_enter Try.func43, Try.ntmps43
  go_wp2_with fail
  refine wp_loop_rounds 1 ?_
  rw [rounds_succ]
  go_wp2_with fail
  go_quiet (fail)
  go_wp2_with fail
  refine wp_loop_rounds 1 ?_
  rw [rounds_succ]
  go_wp2_with fail
  go_ret
  exact ⟨rfl, below_setCells g (Nat.le_refl _) _ _ (below_drewN (Below.refl _ _) _)⟩

end Go.Proofs.Ytgpeaepmkincaaa
