/-
  Rows of plain elements, whatever their kind: how they lie in memory, and who owns them.
-/
import Derived.Test.YtkiandchgbldbaaDec2
namespace Go.Proofs.Ytkiandchgbldbaa
open Go.RowKit

/-- A kind of element: its type, how many cells it has, and which. -/
structure Kind (α : Type) where
  T : TypeId
  k : Nat
  enc : α → List Value
  len : ∀ x, (enc x).length = k
  pos : 0 < k
  one : ∀ x, ∀ u ∈ enc x, u.oneCell' = true

def Kind.cells {α : Type} (K : Kind α) (d : List α) : List Value := d.flatMap K.enc

theorem Kind.cells_nil {α : Type} (K : Kind α) : K.cells [] = [] := rfl
theorem Kind.cells_one {α : Type} (K : Kind α) (x : α) : K.cells [x] = K.enc x := by simp [Kind.cells]
theorem Kind.cells_append {α : Type} (K : Kind α) (a b : List α) : K.cells (a ++ b) = K.cells a ++ K.cells b := List.flatMap_append
theorem Kind.cells_len {α : Type} (K : Kind α) (d : List α) : (K.cells d).length = d.length * K.k := by
  induction d with
  | nil => simp [Kind.cells]
  | cons x d ih =>
    have e : K.cells (x :: d) = K.enc x ++ K.cells d := rfl
    rw [e, List.length_append, K.len, ih, List.length_cons, Nat.add_mul, Nat.one_mul, Nat.add_comm]

theorem Kind.cells_get {α : Type} (K : Kind α) (d : List α) (i : Nat) (h : i < d.length) (j : Nat) (hj : j < K.k) : (K.cells d)[i * K.k + j]? = (K.enc d[i])[j]? := by
  induction d generalizing i with
  | nil => simp at h
  | cons x d ih =>
    have e : K.cells (x :: d) = K.enc x ++ K.cells d := rfl
    rw [e]
    cases i with
    | zero => rw [Nat.zero_mul, Nat.zero_add, List.getElem?_append_left (by rw [K.len]; exact hj)]; rfl
    | succ i =>
      have hl : (K.enc x).length ≤ (i + 1) * K.k + j := by rw [K.len, Nat.add_mul, Nat.one_mul]; omega
      rw [List.getElem?_append_right hl, K.len]
      have e2 : (i + 1) * K.k + j - K.k = i * K.k + j := by rw [Nat.add_mul, Nat.one_mul]; omega
      rw [e2]
      exact ih i (by simpa using h)

theorem Kind.cells_ones {α : Type} (K : Kind α) (d : List α) : ∀ u ∈ K.cells d, u.oneCell' = true := by
  intro u hu
  obtain ⟨x, _, hx⟩ := List.mem_flatMap.1 hu
  exact K.one x u hx

/-- The elements d lie from off on in block b. -/
def Kind.At {α : Type} (K : Kind α) (w : World) (b off : Nat) (d : List α) : Prop :=
  ∀ i, (h : i < d.length) → ∀ j u, (K.enc d[i])[j]? = some u → w.cell? ⟨b, off + i * K.k + j, none⟩ = some u

/-- v is a slice that holds the elements d. -/
def Kind.Is {α : Type} (K : Kind α) (w : World) (v : Value) (d : List α) : Prop :=
  ∃ p cap, v = .slice p d.length cap ∧ (d = [] ∨ ∃ b off, p = some ⟨b, off, none⟩ ∧ K.At w b off d)

/-- v owns a row of the elements d, in a block at or behind n0. -/
def Kind.Own {α : Type} (K : Kind α) (n0 : Nat) (w : World) (v : Value) (d : List α) : Prop := w.ownsRow n0 K.T K.k v d.length (K.cells d)

theorem Kind.at_kept {α : Type} {K : Kind α} {w w' : World} {b off : Nat} {d : List α} (h : K.At w b off d) (hb : Below w.heap.size w w') : K.At w' b off d :=
  fun i hi j u hu => (hb.cell (p := ⟨b, off + i * K.k + j, none⟩) (cell_block (h i hi j u hu))).trans (h i hi j u hu)

theorem Kind.is_kept {α : Type} {K : Kind α} {w w' : World} {v : Value} {d : List α} (h : K.Is w v d) (hb : Below w.heap.size w w') : K.Is w' v d := by
  obtain ⟨p, cap, rfl, h⟩ := h
  refine ⟨p, cap, rfl, ?_⟩
  rcases h with h | ⟨b, off, hp, h⟩
  · exact Or.inl h
  · exact Or.inr ⟨b, off, hp, K.at_kept h hb⟩

theorem Kind.is_nil {α : Type} (K : Kind α) (w : World) : K.Is w (.slice none 0 0) [] := ⟨none, 0, rfl, Or.inl rfl⟩
theorem Kind.own_nil {α : Type} (K : Kind α) (n0 : Nat) (w : World) : K.Own n0 w (.slice none 0 0) [] := World.ownsRow_nil _ _ _ _

theorem Kind.own_on {α : Type} {K : Kind α} {n0 : Nat} {w w' : World} {v : Value} {d : List α} (h : K.Own n0 w v d) (hb : Below w.heap.size w w') : K.Own n0 w' v d := _root_.Go.Proofs.Ytkiandchgbldbaa.own_on h hb
theorem Kind.own_weak {α : Type} {K : Kind α} {n0 n1 : Nat} {w : World} {v : Value} {d : List α} (h : K.Own n0 w v d) (hn : n1 ≤ n0) : K.Own n1 w v d := _root_.Go.Proofs.Ytkiandchgbldbaa.own_weak h hn

theorem Kind.own_shape {α : Type} {K : Kind α} {n0 : Nat} {w : World} {v : Value} {d : List α} (h : K.Own n0 w v d) : ∃ p cap, v = .slice p d.length cap := by
  rcases h.2 with ⟨hv, h0⟩ | ⟨g, cap, cur, hv, _⟩
  · exact ⟨none, 0, by rw [hv, h0]⟩
  · exact ⟨_, _, hv⟩

theorem Kind.own_is {α : Type} {K : Kind α} {n0 : Nat} {w : World} {v : Value} {d : List α} (h : K.Own n0 w v d) : K.Is w v d := by
  rcases h.2 with ⟨rfl, h0⟩ | ⟨g, c, cur, rfl, _, hg, _, _, hsz, htk⟩
  · obtain rfl := List.length_eq_zero_iff.1 h0
    exact K.is_nil w
  · refine ⟨_, c, rfl, Or.inr ⟨g, 0, rfl, fun i hi j u hu => ?_⟩⟩
    have hj : j < K.k := by
      have := (List.getElem?_eq_some_iff.1 hu).1
      rwa [K.len] at this
    have hlt : i * K.k + j < d.length * K.k := by
      have h1 : (i + 1) * K.k ≤ d.length * K.k := Nat.mul_le_mul_right _ hi
      rw [Nat.add_mul, Nat.one_mul] at h1
      omega
    rw [Nat.zero_add, cell_of_row w g _ cur _ _ hg, ← Array.getElem?_toList]
    have : (K.cells d)[i * K.k + j]? = cur.toList[i * K.k + j]? := by rw [← htk, List.getElem?_take, if_pos hlt]
    rw [← this, K.cells_get d i hi j hj, hu]

/-- What a slice of elements gives an append. -/
theorem Kind.src {α : Type} {K : Kind α} {w : World} {p : Option Addr} {d : List α} (h : d = [] ∨ ∃ b off, p = some ⟨b, off, none⟩ ∧ K.At w b off d) :
    d.length = 0 ∨ ∃ ad, p = some ad ∧ ∀ j u, (K.cells d)[j]? = some u → w.cell? (ad.add j) = some u := by
  rcases h with rfl | ⟨b, off, rfl, hx⟩
  · exact Or.inl rfl
  · refine Or.inr ⟨_, rfl, fun j u hu => ?_⟩
    have hj : j < d.length * K.k := by
      have := (List.getElem?_eq_some_iff.1 hu).1
      rwa [K.cells_len] at this
    have hk : j / K.k < d.length := (Nat.div_lt_iff_lt_mul K.pos).2 hj
    have hm : j % K.k < K.k := Nat.mod_lt _ K.pos
    have e : j / K.k * K.k + j % K.k = j := by rw [Nat.mul_comm]; exact Nat.div_add_mod j K.k
    have hg := K.cells_get d (j / K.k) hk (j % K.k) hm
    rw [e, hu] at hg
    have := hx (j / K.k) hk (j % K.k) u hg.symm
    rw [addr_add]
    rw [Nat.add_assoc, e] at this
    exact this

/-- A literal row of one element. -/
theorem Kind.news {α : Type} (K : Kind α) (w : World) (x : α) : ∀ j u, (K.cells [x])[j]? = some u → (w.alloc (.cells (K.enc x).toArray K.T)).cell? ((⟨w.heap.size, 0, none⟩ : Addr).add j) = some u := by
  intro j u hu
  rw [K.cells_one] at hu
  rw [addr_add, Nat.zero_add, cell_of_row _ _ _ _ _ _ (heap_alloc_new w _)]
  simpa using hu

theorem Kind.own_snoc {α : Type} {K : Kind α} {n0 : Nat} {w : World} {v : Value} {d : List α} {x : α} {n : Nat} {xs : List Value} (h : w.ownsRow n0 K.T K.k v n xs) (hn : n = d.length + 1) (hx : xs = K.cells d ++ K.cells [x]) : K.Own n0 w v (d ++ [x]) := by
  subst hn hx
  unfold Kind.Own
  rw [K.cells_append, List.length_append]
  exact h

end Go.Proofs.Ytkiandchgbldbaa
