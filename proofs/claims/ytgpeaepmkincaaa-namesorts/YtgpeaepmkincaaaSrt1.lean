/-
  An append of keys in a statement whose order is open.
-/
import Derived.Test.YtgpeaepmkincaaaSrt0
import Derived.Deep.AppendLies
namespace Go.Proofs.Ytgpeaepmkincaaa
open Go.RowKit

theorem addr_at (b off j : Nat) : (⟨b, off, none⟩ : Addr).add j = ⟨b, off + j, none⟩ := by
  unfold Addr.add
  split
  · rename_i h; simp_all
  · rfl

theorem keys_cells {w : World} {b off : Nat} {d : List (ByteArray × ByteArray)} (hk : KeysAt w b off d) : ∀ j u, (cellsL d)[j]? = some u → w.cell? ((⟨b, off, none⟩ : Addr).add j) = some u := by
  intro j u hu
  rw [addr_at]
  have hj : j < d.length * 2 := by
    rw [← cellsL_length]
    rcases Nat.lt_or_ge j (cellsL d).length with h | h
    · exact h
    · rw [List.getElem?_eq_none h] at hu; cases hu
  obtain ⟨h1, h2⟩ := hk (j / 2) (by omega)
  obtain ⟨e1, e2⟩ := cellsL_get d (j / 2) (by omega)
  rcases Nat.mod_two_eq_zero_or_one j with hm | hm
  · have ej : j / 2 * 2 = j := by omega
    rw [ej] at h1 e1
    rw [e1] at hu
    rw [h1, ← hu]
  · have ej : j / 2 * 2 + 1 = j := by omega
    rw [Nat.add_assoc, ej] at h2
    rw [ej] at e2
    rw [e2] at hu
    rw [h2, ← hu]

theorem keys_lt {w : World} {b off : Nat} {d : List (ByteArray × ByteArray)} (hk : KeysAt w b off d) (hd : 0 < d.length) : b < w.heap.size := by
  have h1 := (hk 0 hd).1
  rcases Nat.lt_or_ge b w.heap.size with h' | h'
  · exact h'
  · simp [World.cell?, Array.getElem?_eq_none h'] at h1

theorem keys_far {w w' : World} {row : Option Nat} {b off : Nat} {d : List (ByteArray × ByteArray)} (hk : KeysAt w b off d) (hg : w.grownBy w' row) (hne : some b ≠ row) : KeysAt w' b off d := by
  intro i hi
  have lt := keys_lt hk (by omega)
  obtain ⟨h1, h2⟩ := hk i hi
  exact ⟨by rw [hg.cell_far _ lt hne]; exact h1, by rw [hg.cell_far _ lt hne]; exact h2⟩

theorem keys_drop {w : World} {b off : Nat} {d : List (ByteArray × ByteArray)} (hk : KeysAt w b off d) (k : Nat) : KeysAt w b (off + k * 2) (d.drop k) := by
  intro i hi
  have := hk (k + i) (by simp at hi; omega)
  rw [List.getElem_drop]
  rw [show off + k * 2 + i * 2 = off + (k + i) * 2 by omega]
  exact this
theorem keys_take {w : World} {b off : Nat} {d : List (ByteArray × ByteArray)} (hk : KeysAt w b off d) (k : Nat) : KeysAt w b off (d.take k) := by
  intro i hi
  have := hk i (by simp at hi; omega)
  rw [List.getElem_take]
  exact this

theorem step_app {ops : Array Oper} {o : Oper} {a : Act} {K : Act → World → Prop} {Q : Exit → Act → World → Prop} {E : Prop} (w : World) (hgd : o.guard = none) (s x : Operand)
    (ho : o.op = .call { callee := .builtin .append, args := #[s, x], argTypes := #[31, 31] }) (w5 : World)
    (v : Value) (xs : List (ByteArray × ByteArray)) (hs : a.eval s = v) (hown : Own w w5.heap.size v xs) (hB : Below w5.heap.size w5 w)
    (b off m c : Nat) (ys : List (ByteArray × ByteArray)) (hx : a.eval x = .slice (some ⟨b, off, none⟩) m c) (hm : ys.length = m) (hk : KeysAt w b off ys) (hpos : 0 < m) (L : Nat) (hL : xs.length + m = L) (hbytes : L * 32 ≤ 140737488355328)
    (h : ∀ g cap w', Own w' w5.heap.size (.slice (some ⟨g, 0, none⟩) L cap) (xs ++ ys) → w.grownBy w' v.ownBlock → (v.ownBlock = some g ∨ g = w.heap.size) → Below w5.heap.size w5 w' → K (a.put o.dst (.slice (some ⟨g, 0, none⟩) L cap)) w') :
    if Region.wanted o (yielded ops a.tmps) = true then Oper.wp Try.prog o a w K Q else E := by
  subst hL
  obtain ⟨i0, hi0, hz0, hz1, hz2⟩ := info_parts Try.info26
  refine step_append_lies w hgd s x 31 ho w5.heap.size 26 i0 (.agg #[.string ⟨#[]⟩, .string ⟨#[]⟩]) 2 32 Try.underlying31 hi0 hz0 hz1 hz2 rfl (by decide) v xs.length (cellsL xs) hs hown ⟨b, off, none⟩ m c (cellsL ys) hx (by rw [cellsL_length, hm]) (keys_cells hk) (cellsL_one ys) hpos (by unfold maxLen; omega) hbytes hB.size w.heap.size rfl ?_
  intro g cap w' h1 h2 h3 _
  refine h g cap w' ?_ h2 h3 (hB.grown h2 hB.size fun k hk => (World.ownsRow.lt hown k hk).1)
  unfold Own
  rw [cellsL_append, List.length_append, hm]
  exact h1

theorem step_app0 {ops : Array Oper} {o : Oper} {a : Act} {K : Act → World → Prop} {Q : Exit → Act → World → Prop} {E : Prop} (w : World) (hgd : o.guard = none) (s x : Operand)
    (ho : o.op = .call { callee := .builtin .append, args := #[s, x], argTypes := #[31, 31] }) (g n cap : Nat) (p : Option Addr) (m c : Nat)
    (hs : a.eval s = .slice (some ⟨g, 0, none⟩) n cap) (hcap : n ≤ cap) (hx : a.eval x = .slice p m c) (hm : m = 0)
    (h : K (a.put o.dst (.slice (some ⟨g, 0, none⟩) n cap)) w) :
    if Region.wanted o (yielded ops a.tmps) = true then Oper.wp Try.prog o a w K Q else E := by
  subst hm
  have hw : Region.wanted o (yielded ops a.tmps) = true := by simp [Region.wanted, hgd]
  rw [if_pos hw]
  obtain ⟨i0, hi0, _, _, _⟩ := info_parts Try.info26
  have hrun : (Builtin.append_ #[31, 31] o.type #[.slice (some ⟨g, 0, none⟩) n cap, .slice p 0 c]).run Try.prog w = .ok (.slice (some ⟨g, 0, none⟩) n cap) w := by
    cases p <;> simp [Builtin.append_, run_underlying Try.underlying31, Builtin.lenOf, Builtin.firstCells, sizeOf, typeInfo, hi0, storeCells, loadCells, loadCellsFrom, hcap]
  unfold Oper.wp
  simp [execOp, ho, resolve, invoke, builtin, hs, hx, hrun, Result.andThen]
  exact h

theorem Own.weak {W : World} {base : Nat} {v : Value} {r : List (ByteArray × ByteArray)} (h : Own W base v r) : Own W 0 v r := by
  obtain ⟨hl, h' | ⟨g, cap, cur, h', _, hg, hnc, hcm, hcs, ht⟩⟩ := h
  · exact ⟨hl, .inl h'⟩
  · exact ⟨hl, .inr ⟨g, cap, cur, h', Nat.zero_le _, hg, hnc, hcm, hcs, ht⟩⟩

theorem own_len {W : World} {base g n cap : Nat} {r : List (ByteArray × ByteArray)} (h : Own W base (.slice (some ⟨g, 0, none⟩) n cap) r) : g < W.heap.size := (World.ownsRow.lt h g rfl).2

theorem stored_two {W : World} {base g n cap : Nat} {r : List (ByteArray × ByteArray)} (h : Own W base (.slice (some ⟨g, 0, none⟩) n cap) r) (i : Nat) (a b : Value) :
    W.grownBy ((W.setCell ⟨g, i, none⟩ a).setCell ⟨g, i + 1, none⟩ b) (some g) := by
  obtain ⟨rfl, _⟩ := h.keysAt
  obtain ⟨h1, g1⟩ := World.ownsRow.stored h i a
  obtain ⟨_, g2⟩ := World.ownsRow.stored h1 (i + 1) b
  exact ⟨g2.os.trans g1.os, g2.tape.trans g1.tape, g2.output.trans g1.output, Nat.le_trans g1.size g2.size, fun k hk hne => (g2.block k (Nat.lt_of_lt_of_le hk g1.size) hne).trans (g1.block k hk hne)⟩

end Go.Proofs.Ytgpeaepmkincaaa
