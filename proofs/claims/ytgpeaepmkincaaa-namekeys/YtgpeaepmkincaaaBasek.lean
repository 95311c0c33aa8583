/-
  A slice of keys that came in.
-/
import Derived.Test.YtgpeaepmkincaaaBase
import Derived.Deep.SlicePairs
namespace Go.Proofs.Ytgpeaepmkincaaa
open Go.ChangeShapes Go.WideShapes Go.ChangeAt Go.RowKit Go.Joins Go.Deep


/-- A slice of keys that came in: empty, or a row of keys in one block, two cells a key, up to its capacity. -/
theorem open_keys {H : Type} {enc : TypeId × Value → H} {W : World} {b0 : Nat} {v : Value} {d : DataW H} {p : List MemPlace}
    (hv : Value.okWide Try.prog W .any b0 31 v) (h : DataW.Trod enc Try.prog W 0 (fun _ => true) true 31 v d p) :
    (∃ a cap, v = .slice a 0 cap) ∨ ∃ (b off len cap : Nat) (f g : Nat → ByteArray), v = .slice (some ⟨b, off, none⟩) len cap ∧ 0 < len ∧ len ≤ cap ∧ cap ≤ maxLen ∧
      (∀ i, i < len → W.cell? ⟨b, off + i * 2, none⟩ = some (.string (f i)) ∧ W.cell? ⟨b, off + i * 2 + 1, none⟩ = some (.string (g i))) ∧ ∀ i, i < len → (f i).size ≤ maxLen ∧ (g i).size ≤ maxLen := by
  obtain ⟨a0, len, cap, rfl⟩ := okWide_slice Try.underlying31 hv
  obtain ⟨fuel, hf⟩ := h
  rcases open_slice_pairs Try.underlying31 Try.underlying26 Try.cells26 rfl rfl Try.cells9 Try.cells9 hf with ⟨hcs, _⟩ | ⟨x, l, c, m, n, V0, V1, D0, D1, P0, P1, hcs, _, hl, hm, hmm, _, hall⟩
  · simp [Value.cells] at hcs
    obtain ⟨rfl, rfl, rfl⟩ := hcs
    exact .inl ⟨_, _, rfl⟩
  · simp [Value.cells] at hcs
    obtain ⟨rfl, rfl, rfl⟩ := hcs
    have hm' : m = cap := by simpa using hmm
    subst hm'
    by_cases h0 : len = 0
    · subst h0; exact .inl ⟨_, _, rfl⟩
    · right
      have each : ∀ i, i < m → ∃ s t : ByteArray, V0 i = .string s ∧ V1 i = .string t ∧ s.size ≤ maxLen ∧ t.size ≤ maxLen := by
        intro i hi
        obtain ⟨_, _, h3, h4⟩ := hall i hi
        obtain ⟨s, e0, _, hs⟩ := DataW.trod_string Try.underlying9 h3
        obtain ⟨t, e1, _, ht⟩ := DataW.trod_string Try.underlying9 h4
        simp only [List.cons.injEq, and_true] at e0 e1
        exact ⟨s, t, e0, e1, hs, ht⟩
      have hc0 := (hall 0 (by omega)).1
      obtain ⟨b, off, spot⟩ := x
      have hspot : spot = none := by simpa [Addr.add] using World.cell?_spot hc0
      subst hspot
      refine ⟨b, off, len, m, fun i => if h : i < m then (each i h).choose else ⟨#[]⟩, fun i => if h : i < m then (each i h).choose_spec.choose else ⟨#[]⟩, rfl, by omega, hl, hm, fun i hi => ?_, fun i hi => ?_⟩
      · have hi' : i < m := by omega
        have sp := (each i hi').choose_spec.choose_spec
        obtain ⟨h1, h2, _, _⟩ := hall i hi'
        rw [addr_add] at h1 h2
        rw [sp.1] at h1
        rw [sp.2.1, ← Nat.add_assoc] at h2
        exact ⟨by rw [h1]; simp [hi'], by rw [h2]; simp [hi']⟩
      · have hi' : i < m := by omega
        have sp := (each i hi').choose_spec.choose_spec
        exact ⟨by simpa [hi'] using sp.2.2.1, by simpa [hi'] using sp.2.2.2⟩

end Go.Proofs.Ytgpeaepmkincaaa
