/-
  A key more in a rising list, in plain lists; and a row of keys under small changes.
-/
import Derived.Test.YtgpeaepmkincaaaSorta
import Derived.Test.YtgpeaepmkincaaaLess
namespace Go.Proofs.Ytgpeaepmkincaaa
open Go.RowKit

theorem rises_lt {d : List (ByteArray × ByteArray)} (h : Rises d) (i j : Nat) (hij : i < j) (hj : j < d.length) : ahead (d[i]'(by omega)) d[j] :=
  List.pairwise_iff_getElem.1 h i j (by omega) hj hij

theorem insert_rises (d : List (ByteArray × ByteArray)) (x : ByteArray × ByteArray) (p : Nat) (hp : p ≤ d.length) (hd : Rises d)
    (hlo : ∀ j, (hj : j < d.length) → j < p → ahead d[j] x) (hhi : ∀ j, (hj : j < d.length) → p ≤ j → ahead x d[j]) :
    Rises (d.take p ++ x :: d.drop p) ∧ ∀ y, y ∈ d.take p ++ x :: d.drop p ↔ y = x ∨ y ∈ d := by
  refine ⟨?_, fun y => ?_⟩
  · refine List.pairwise_append.2 ⟨hd.sublist (List.take_sublist _ _), List.pairwise_cons.2 ⟨fun y hy => ?_, hd.sublist (List.drop_sublist _ _)⟩, fun a ha b hb => ?_⟩
    · obtain ⟨j, hj, rfl⟩ := List.mem_iff_getElem.1 hy
      rw [List.getElem_drop]
      exact hhi _ _ (by omega)
    · obtain ⟨i, hi, rfl⟩ := List.mem_iff_getElem.1 ha
      rw [List.length_take] at hi
      rw [List.getElem_take]
      have hax := hlo i (by omega) (by omega)
      rcases List.mem_cons.1 hb with rfl | hb
      · exact hax
      · obtain ⟨j, hj, rfl⟩ := List.mem_iff_getElem.1 hb
        rw [List.getElem_drop]
        exact ahead_trans hax (hhi _ (by simp at hj; omega) (by omega))
  · have := List.take_append_drop p d
    constructor
    · intro h
      rcases List.mem_append.1 h with h | h
      · exact .inr (List.mem_of_mem_take h)
      · rcases List.mem_cons.1 h with h | h
        · exact .inl h
        · exact .inr (List.mem_of_mem_drop h)
    · rintro (rfl | h)
      · exact List.mem_append_right _ (List.mem_cons_self ..)
      · rw [← this] at h
        rcases List.mem_append.1 h with h | h
        · exact List.mem_append_left _ h
        · exact List.mem_append_right _ (List.mem_cons_of_mem _ h)

theorem own_storeL {w : World} {base g n cap : Nat} {d : List (ByteArray × ByteArray)} (h : Own w base (.slice (some ⟨g, 0, none⟩) n cap) d) (i : Nat) (hi : i < d.length) (a b : ByteArray) :
    Own ((w.setCell ⟨g, i * 2, none⟩ (.string a)).setCell ⟨g, i * 2 + 1, none⟩ (.string b)) base (.slice (some ⟨g, 0, none⟩) n cap) (d.set i (a, b)) := by
  obtain ⟨rfl, _⟩ := h.keysAt
  have h1 := (World.ownsRow.stored h (i * 2) (.string a)).1
  have h2 := (World.ownsRow.stored h1 (i * 2 + 1) (.string b)).1
  rw [cellsL_set _ _ _ _ hi] at h2
  unfold Own
  rw [List.length_set]
  exact h2

theorem own_atL {w : World} {base g n cap : Nat} {d : List (ByteArray × ByteArray)} (h : Own w base (.slice (some ⟨g, 0, none⟩) n cap) d) (i : Nat) (hi : i < d.length) :
    w.cell? ⟨g, i * 2, none⟩ = some (.string d[i].1) ∧ w.cell? ⟨g, i * 2 + 1, none⟩ = some (.string d[i].2) ∧ w.frozen? ⟨g, i * 2, none⟩ = false ∧ w.frozen? ⟨g, i * 2 + 1, none⟩ = false := by
  have := h.keysAt.2 i hi
  rw [Nat.zero_add] at this
  exact ⟨this.1, this.2, own_frozen h _, own_frozen h _⟩

theorem Own.on {W w' : World} {base : Nat} {v : Value} {d : List (ByteArray × ByteArray)} (h : Own W base v d) (hq : Below W.heap.size W w') : Own w' base v d := by
  obtain ⟨hl, h' | ⟨g, cap, cur, h', hb, hg, hnc, hcm, hcs, ht⟩⟩ := h
  · exact ⟨hl, .inl h'⟩
  · have lt : g < W.heap.size := (Array.getElem?_eq_some_iff.1 hg).1
    exact ⟨hl, .inr ⟨g, cap, cur, h', hb, by rw [hq.block g lt]; exact hg, hnc, hcm, hcs, ht⟩⟩

theorem ahead_cmp (x y : ByteArray × ByteArray) : decide (cmpI x.1 x.2 y.1 y.2 < 0) = true ↔ ahead x y := by
  rw [decide_eq_true_iff]; rfl

end Go.Proofs.Ytgpeaepmkincaaa
