/-
  A slice that came in, of whatever plain elements: its elements, each well, and what the row's size says.
-/
import Derived.Test.YtkiandchgbldbaaGen
import Derived.MakeChecks
import Derived.ProofKit
import Derived.OpenShut
import Derived.Lay
import Derived.Stop.Joined
import Derived.SliceStrings
import Derived.Deep.SlicePairs
import Derived.SizedLaws
import Derived.ChangeSlices
import Derived.JoinedCond
import Derived.Lib.SmallJoins
import Derived.Below
import Derived.Deep.DeepHandedRow
namespace Go.Proofs.Ytkiandchgbldbaa
open Go.ChangeShapes Go.WideShapes Go.ChangeAt Go.RowKit Go.Lib Go.Deep Go.Joins

set_option maxRecDepth 100000 in
theorem open_rowK {α : Type} [Inhabited α] (K : Kind α) {S : TypeId} {bytes : Nat} (hS : Try.prog.underlying S = some (.slice K.T)) (hk : Try.prog.cellsOf K.T = K.k) (hby : Try.prog.bytesOf K.T = bytes) (Ok : α → Prop)
    {H : Type} {enc : TypeId × Value → H} {W : World} {b0 : Nat} {v : Value} {dd : DataW H} {p : List MemPlace}
    (each1 : ∀ (n : Nat) (cs : List Value) (x : DataW H × List MemPlace), DataW.trod enc Try.prog W 0 (fun _ => true) true n K.T cs = some x → ∃ b : α, cs = K.enc b ∧ Ok b)
    (hv : Value.okWide Try.prog W .any b0 S v) (h : DataW.Trod enc Try.prog W 0 (fun _ => true) true S v dd p) (hZ : ∀ n ∈ dd.weights Try.prog S, n ≤ reachBytes) :
    ∃ q : List α, K.Is W v q ∧ (∀ x ∈ q, Ok x) ∧ q.length * bytes ≤ reachBytes := by
  obtain ⟨a0, len, cap, rfl⟩ := okWide_slice hS hv
  obtain ⟨fuel, hf⟩ := h
  rcases open_slice hS hf with ⟨hcs, _⟩ | ⟨a, l, c, m, n, D, Pl, hcs, _, hl, hm, hmm, hdat, hall⟩
  · simp [Value.cells] at hcs
    obtain ⟨rfl, rfl, rfl⟩ := hcs
    exact ⟨[], K.is_nil W, fun x hx => by simp at hx, by simp⟩
  · simp [Value.cells] at hcs
    obtain ⟨rfl, rfl, rfl⟩ := hcs
    have hm' : m = cap := by simpa using hmm
    subst hm'
    rw [hk] at hall
    have hdd : dd = .slice ((List.range len).map D) ((List.range (m - len)).map fun j => D (len + j)) := congrArg Prod.fst hdat
    have hlb : len * bytes ≤ reachBytes := by
      have := hZ ((((List.range len).map D).length + ((List.range (m - len)).map fun j => D (len + j)).length) * Try.prog.bytesOf K.T) (by
        rw [hdd]
        simp only [DataW.weights, hS]
        exact List.mem_cons_self)
      rw [hby] at this
      simp only [List.length_map, List.length_range] at this
      exact Nat.le_trans (Nat.mul_le_mul_right _ (Nat.le_add_right _ _)) this
    have each : ∀ i, i < len → ∃ t : α, (∀ j u, (K.enc t)[j]? = some u → W.cell? (a.add (i * K.k + j)) = some u) ∧ Ok t := by
      intro i hi
      obtain ⟨cs', h1, h2⟩ := hall i (by omega)
      obtain ⟨_, hlen, hcell⟩ := World.cells?_some h1
      obtain ⟨t, rfl, hok⟩ := each1 _ _ _ h2
      refine ⟨t, fun j u hu => ?_, hok⟩
      have hj : j < K.k := by
        have := (List.getElem?_eq_some_iff.1 hu).1
        rwa [K.len] at this
      have := hcell j hj
      rw [add_add] at this
      rw [this]; exact hu
    by_cases h0 : len = 0
    · subst h0
      exact ⟨[], ⟨_, _, rfl, Or.inl rfl⟩, fun x hx => by simp at hx, by simp⟩
    · obtain ⟨f, hff⟩ := choose_lt each
      have h1 : 0 < (K.enc (f 0)).length := by rw [K.len]; exact K.pos
      have hc0 := (hff 0 (by omega)).1 0 _ (List.getElem?_eq_getElem h1)
      obtain ⟨b, off, spot⟩ := a
      have hspot : spot = none := by simpa [Addr.add] using World.cell?_spot hc0
      subst hspot
      have hlen : ((List.range len).map f).length = len := by simp
      refine ⟨(List.range len).map f, ⟨_, m, by rw [hlen], Or.inr ⟨b, off, rfl, fun i hi j u hu => ?_⟩⟩, fun x hx => ?_, by rw [hlen]; exact hlb⟩
      · have hi0 : i < len := by simpa using hi
        have ef : ((List.range len).map f)[i]'hi = f i := by simp
        rw [ef] at hu
        have := (hff i hi0).1 j u hu
        rw [_root_.Go.Proofs.Ytkiandchgbldbaa.addr_add] at this
        rw [Nat.add_assoc]
        exact this
      · obtain ⟨i, hi, rfl⟩ := List.mem_map.1 hx
        exact (hff i (List.mem_range.1 hi)).2

end Go.Proofs.Ytkiandchgbldbaa
