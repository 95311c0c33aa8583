/-
  Texts of this claim, one behind the other: Kp0 Gen Trm Rp0 Rp1 Rp2 Pc0 Kst Rfm Ris Kro Xsp Krf Krk Kba Krp Rna Rnt Kss Ksc Rkt Rch Rcw Rpt Rfo Rmp.
-/
import Derived.Test.YtinmagodckkedabPb
import Derived.Laws.CopyOwn
import Derived.Maps.AppendAt
import Derived.Deep.CutRange
import Derived.Laws.StructEq
import Derived.Shelf.SlSortCmp.SmallK
import Derived.Lib.SlicesCompact
import Derived.Lib.SliceRun
import Derived.Test.YtinmagodckkedabPa
import Derived.BigRegion
import Derived.Shelf.Sort.Plain
import Derived.Shelf.Slices.CompactS
import Derived.Shelf.Slices.In.SortNone
import Derived.Sort.OwnSorted
import Derived.Lib.OwnBridge
import Derived.Laws.MakeOwn
import Derived.Deep.RegionHeld3
import Derived.Shelf.SlicesQ.IndexFunc
import Derived.Maps.OwnSet
import Derived.Maps.OwnOps
import Derived.Maps.Views
/-
  What ValueKeeps makes and writes: rows with spare room, and fields that are written over.
-/
namespace Go.Proofs.Ytinmagodckkedab
open Go.RowKit Go.Lib

theorem Try.infoTs : (Try.prog.info? 30).map (fun i => (i.zero, i.size, i.bytes)) = some (some (.slice none 0 0), 1, 24) := by kernel_rfl

def markA : ByteArray := ⟨#[109, 97, 114, 107]⟩

/-- The texts of x lie in a block of their own at or behind N, with two cells of spare room: the mark, and nothing. -/
def RoomAt (N : Nat) (W : World) (x : Fx) : Prop :=
  ∃ g, x.p = some ⟨g, 0, none⟩ ∧ x.cap = x.txt.length + 2 ∧ N ≤ g ∧ W.heap[g]? = some (.cells (x.txt.map Value.string ++ [Value.string markA, Value.string ⟨#[]⟩]).toArray 9 (0, 0))

theorem RoomAt.on {N : Nat} {W W' : World} {x : Fx} (h : RoomAt N W x) (hb : Below W.heap.size W W') : RoomAt N W' x := by
  obtain ⟨g, h1, h2, h3, h4⟩ := h
  exact ⟨g, h1, h2, h3, (hb.block g (Array.getElem?_eq_some_iff.1 h4).1).trans h4⟩

theorem RoomAt.else {N m0 : Nat} {W W' : World} {x : Fx} {e : TypeId} {size : Nat} {u : Value} {m : Nat} {ys : List Value} (h : RoomAt N W x) (hu : W.ownsRow m0 e size u m ys) (hne : e ≠ 9) (hg : W.grownBy W' u.ownBlock) : RoomAt N W' x := by
  obtain ⟨g, h1, h2, h3, h4⟩ := h
  refine ⟨g, h1, h2, h3, (hg.block g (Array.getElem?_eq_some_iff.1 h4).1 fun e2 => ?_).trans h4⟩
  obtain ⟨cs', h5⟩ := own_type hu e2.symm
  rw [h4] at h5
  injection h5 with h5
  injection h5 with _ h5
  exact hne h5.symm

theorem RoomAt.at {N : Nat} {W : World} {x : Fx} (h : RoomAt N W x) : x.at W := by
  obtain ⟨g, h1, _, _, h4⟩ := h
  refine Or.inr ⟨g, 0, h1, fun i hi => ?_⟩
  rw [Nat.zero_add, cell_of_row W g i _ _ _ h4]
  simp [List.getElem?_append, hi]

theorem RoomAt.mark {N : Nat} {W : World} {x : Fx} (h : RoomAt N W x) : ∃ g, x.p = some ⟨g, 0, none⟩ ∧ x.cap = x.txt.length + 2 ∧ W.cell? ⟨g, x.txt.length, none⟩ = some (.string markA) := by
  obtain ⟨g, h1, h2, _, h4⟩ := h
  refine ⟨g, h1, h2, ?_⟩
  rw [cell_of_row W g _ _ _ _ h4]
  simp

/-- What the first loop has made. -/
structure Ins (w : World) (e : List Fx) (vi vr : Value) (W : World) : Prop where
  row : RowX w.heap.size W vi e
  rooms : W.ownsRow w.heap.size 30 1 vr e.length (e.map Fx.sl)
  each : ∀ x ∈ e, RoomAt w.heap.size W x
  bel : Below w.heap.size w W

theorem Ins.on {w W W' : World} {e : List Fx} {vi vr : Value} (h : Ins w e vi vr W) (hb : Below W.heap.size W W') : Ins w e vi vr W' :=
  ⟨own_on h.row hb, own_on h.rooms hb, fun x hx => (h.each x hx).on hb, h.bel.trans (hb.mono h.bel.size)⟩

theorem Ins.is {w W : World} {e : List Fx} {vi vr : Value} (h : Ins w e vi vr W) : IsXs W vi e := h.row.is fun x hx => (h.each x hx).at

/-- The cells of a new room, the texts copied and the mark set. -/
theorem room_cells (ts : List ByteArray) : ((splice (List.replicate (ts.length + 2) (Value.string ⟨#[]⟩)) 0 (ts.map Value.string)).toArray.setIfInBounds ts.length (.string markA)) = (ts.map Value.string ++ [Value.string markA, Value.string ⟨#[]⟩]).toArray := by
  apply Array.toList_inj.1
  rw [Array.toList_setIfInBounds]
  simp only [splice, List.take_zero, List.nil_append, List.length_map, Nat.zero_add, List.drop_replicate]
  rw [show ts.length + 2 - ts.length = 2 by omega, List.set_append_right _ _ (by simp)]
  simp

theorem made_strs (n : Nat) : madeCells (Value.string ⟨#[]⟩).cells ((n + 2) * 1) = (List.replicate (n + 2) (Value.string ⟨#[]⟩)).toArray := by
  apply Array.toList_inj.1
  apply List.ext_getElem
  · simp [madeCells]
  · intro i h1 h2
    simp [madeCells, Value.cells]
    rw [Nat.mod_one]
    rfl

theorem own_same {w w' : World} {n0 : Nat} {e : TypeId} {size : Nat} {v : Value} {n : Nat} {xs : List Value} (h : w.ownsRow n0 e size v n xs) (hk : ∀ k, v.ownBlock = some k → w'.heap[k]? = w.heap[k]?) : w'.ownsRow n0 e size v n xs := by
  refine ⟨h.1, ?_⟩
  rcases h.2 with h2 | ⟨g, cap, cur, hv, h3, h4, h5⟩
  · exact Or.inl h2
  · exact Or.inr ⟨g, cap, cur, hv, h3, (hk g (by rw [hv]; rfl)).trans h4, h5⟩

/-- Blocks ahead of A, and from B up to C, are as they were. -/
structure KeptZ (A B C : Nat) (we W : World) : Prop where
  os : W.os = we.os
  tape : W.tape = we.tape
  output : W.output = we.output
  size : C ≤ W.heap.size
  block : ∀ k, k < C → (k < A ∨ B ≤ k) → W.heap[k]? = we.heap[k]?

def ZoneV (B C : Nat) (v : Value) : Prop := ∀ k, v.ownBlock = some k → k < B ∨ C ≤ k

theorem KeptZ.grown {A B C : Nat} {we W W' : World} {ob : Option Nat} (h : KeptZ A B C we W) (hg : W.grownBy W' ob) (hz : ∀ k, ob = some k → A ≤ k ∧ (k < B ∨ C ≤ k)) : KeptZ A B C we W' :=
  ⟨hg.os.trans h.os, hg.tape.trans h.tape, hg.output.trans h.output, Nat.le_trans h.size hg.size, fun k hk hz2 => (hg.block k (Nat.lt_of_lt_of_le hk h.size) fun e => by
    have := hz k e.symm
    omega).trans (h.block k hk hz2)⟩

theorem grown_alloc (w : World) (o : Obj) : w.grownBy (w.alloc o) none := by
  have := (Below.refl w.heap.size w).alloc (Nat.le_refl _) o
  exact ⟨this.os, this.tape, this.output, this.size, fun k hk _ => this.block k hk⟩

theorem KeptZ.below {A B C : Nat} {we W : World} (h : KeptZ A B C we W) (hAC : A ≤ C) (hC : we.heap.size ≤ C) : Below A we W :=
  ⟨h.os, h.tape, h.output, Nat.le_trans hC h.size, fun k hk => h.block k (by omega) (Or.inl hk)⟩

/-- The fields o, written over in place. -/
structure XSt (A B C : Nat) (we : World) (u : Value) (o : List Fx) (W : World) : Prop where
  own : OwnJ A W u o
  zu : ZoneV B C u
  zo : ∀ x ∈ o, ZoneV B C x.sl
  kept : KeptZ A B C we W

theorem cellsX_set (o : List Fx) (i : Nat) (h : i < o.length) (x : Fx) : cellsX (o.set i x) = ((cellsX o).set (i * 2) (.string x.name)).set (i * 2 + 1) x.sl := by
  induction o generalizing i with
  | nil => simp at h
  | cons y o ih =>
    have e : ∀ z l, cellsX (z :: l) = .string z.name :: z.sl :: cellsX l := fun _ _ => rfl
    cases i with
    | zero => rw [List.set_cons_zero, e, e]; rfl
    | succ i =>
      rw [List.set_cons_succ, e, e, ih i (by simpa using h), show (i + 1) * 2 = i * 2 + 1 + 1 by omega]
      rfl

theorem apart_ne {o : List Fx} (h : Apart o) {i j : Nat} (hi : i < o.length) (hj : j < o.length) (hne : i ≠ j) : (o[i]).sl.ownBlock = none ∨ (o[i]).sl.ownBlock ≠ (o[j]).sl.ownBlock := by
  have hp := List.pairwise_iff_getElem.1 h
  rcases Nat.lt_or_gt_of_ne hne with hl | hl
  · exact hp i j hi hj hl
  · rcases hp j i hj hi hl with h1 | h1
    · rcases hb : (o[i]).sl.ownBlock with _ | k
      · exact Or.inl rfl
      · right; rw [h1]; simp
    · exact Or.inr (Ne.symm h1)

theorem apart_set {o : List Fx} (h : Apart o) {i : Nat} (_hi : i < o.length) {x : Fx} (hx : ∀ j, (hj : j < o.length) → j ≠ i → (o[j]).sl.ownBlock = none ∨ (o[j]).sl.ownBlock ≠ x.sl.ownBlock) : Apart (o.set i x) := by
  have hp := List.pairwise_iff_getElem.1 h
  refine List.pairwise_iff_getElem.2 fun a b ha hb hab => ?_
  rw [List.length_set] at ha hb
  rw [List.getElem_set, List.getElem_set]
  by_cases h1 : i = a
  · subst h1
    rw [if_pos rfl, if_neg (by omega)]
    rcases hx b hb (by omega) with h2 | h2
    · rcases hq : x.sl.ownBlock with _ | k
      · exact Or.inl rfl
      · right; rw [h2]; simp
    · exact Or.inr (Ne.symm h2)
  · rw [if_neg h1]
    by_cases h2 : i = b
    · subst h2
      rw [if_pos rfl]
      exact hx a ha (by omega)
    · rw [if_neg h2]
      exact hp a b ha hb hab

/-- The row of fields u has its block. -/
theorem XSt.shape {A B C : Nat} {we W : World} {u : Value} {o : List Fx} (h : XSt A B C we u o W) (hpos : 0 < o.length) : ∃ g c, u = .slice (some ⟨g, 0, none⟩) o.length c := by
  rcases h.own.1.1.2 with ⟨_, h0⟩ | ⟨g, c, cur, hv, _⟩
  · omega
  · exact ⟨g, c, hv⟩

/-- What can be read of the field i, and that it can be written. -/
theorem XSt.cells {A B C : Nat} {we W : World} {g c n : Nat} {o : List Fx} (h : XSt A B C we (.slice (some ⟨g, 0, none⟩) n c) o W) (hn : o.length = n) {i : Nat} (hi : i < o.length) :
    W.cell? ⟨g, i * 2, none⟩ = some (.string (o[i]).name) ∧ W.cell? ⟨g, i * 2 + 1, none⟩ = some (o[i]).sl ∧ W.frozen? ⟨g, i * 2, none⟩ = false ∧ W.frozen? ⟨g, i * 2 + 1, none⟩ = false := by
  subst hn
  have hrow := h.own.1.1
  obtain ⟨h1, h2⟩ := cellsX_get o i hi
  exact ⟨by rw [hrow.cellAt _ (by omega)]; exact h1, by rw [hrow.cellAt _ (by omega)]; exact h2, hrow.frozenAt _, hrow.frozenAt _⟩

theorem sl_lt {A : Nat} {W : World} {x : Fx} (h : OwnT A W x.sl x.txt) : ∀ k, x.sl.ownBlock = some k → A ≤ k := fun k hk => (World.ownsRow.lt h k hk).1

/-- One text is written over. -/
theorem XSt.wipe {A B C : Nat} {we W : World} {u : Value} {o : List Fx} (h : XSt A B C we u o W) {i : Nat} (hi : i < o.length) {j gt : Nat} (hp : (o[i]).p = some ⟨gt, 0, none⟩) (t : ByteArray) :
    XSt A B C we u (o.set i ⟨(o[i]).name, (o[i]).p, (o[i]).cap, (o[i]).txt.set j t⟩) (W.setCell ⟨gt, j, none⟩ (.string t)) := by
  have hti := h.own.1.2 _ (List.getElem_mem hi)
  have hbi : (o[i]).sl.ownBlock = some gt := by unfold Fx.sl; rw [hp]; rfl
  have hg : W.grownBy (W.setCell ⟨gt, j, none⟩ (.string t)) (o[i]).sl.ownBlock := by rw [hbi]; exact grown_set W gt j _
  have hsl : (⟨(o[i]).name, (o[i]).p, (o[i]).cap, (o[i]).txt.set j t⟩ : Fx).sl = (o[i]).sl := by unfold Fx.sl; simp
  have hnew : OwnT A (W.setCell ⟨gt, j, none⟩ (.string t)) (o[i]).sl ((o[i]).txt.set j t) := by
    have e : (o[i]).sl = .slice (some ⟨gt, 0, none⟩) (o[i]).txt.length (o[i]).cap := by unfold Fx.sl; rw [hp]
    have h1 : W.ownsRow A 9 1 (.slice (some ⟨gt, 0, none⟩) (o[i]).txt.length (o[i]).cap) (o[i]).txt.length ((o[i]).txt.map Value.string) := by rw [← e]; exact hti
    have h2 := (h1.stored j (.string t)).1
    unfold OwnT
    rw [e, List.length_set, List.map_set]
    exact h2
  refine ⟨⟨⟨?_, fun x hx => ?_⟩, ?_⟩, h.zu, fun x hx => ?_, h.kept.grown hg fun k hk => ⟨sl_lt hti k hk, h.zo _ (List.getElem_mem hi) k hk⟩⟩
  · rw [List.length_set, cellsX_set _ _ hi, hsl]
    obtain ⟨c0, c1⟩ := cellsX_get o i hi
    have e1 : ((cellsX o).set (i * 2) (.string (o[i]).name)).set (i * 2 + 1) (o[i]).sl = cellsX o := by
      apply List.ext_getElem?
      intro q
      rw [List.getElem?_set, List.getElem?_set]
      simp only [List.length_set]
      have hl := cellsX_len o
      split
      · rename_i hq; subst hq; rw [if_pos (by omega)]; exact c1.symm
      · split
        · rename_i hq; subst hq; rw [if_pos (by omega)]; exact c0.symm
        · rfl
    rw [e1]
    exact own_else h.own.1.1 hti (by decide) hg
  · obtain ⟨q, hq, rfl⟩ := List.mem_iff_getElem.1 hx
    rw [List.length_set] at hq
    rw [List.getElem_set]
    by_cases e : i = q
    · rw [if_pos e, hsl]; exact hnew
    · rw [if_neg e]
      exact World.ownsRow.kept (h.own.1.2 _ (List.getElem_mem hq)) hg (apart_ne h.own.2 hq hi (by omega))
  · refine apart_set h.own.2 hi fun q hq hne => ?_
    rw [hsl]
    exact apart_ne h.own.2 hq hi hne
  · obtain ⟨q, hq, rfl⟩ := List.mem_iff_getElem.1 hx
    rw [List.length_set] at hq
    rw [List.getElem_set]
    by_cases e : i = q
    · rw [if_pos e, hsl]; exact h.zo _ (List.getElem_mem hi)
    · rw [if_neg e]; exact h.zo _ (List.getElem_mem hq)

/-- The name is written over. -/
theorem XSt.rename {A B C : Nat} {we W : World} {g c n : Nat} {o : List Fx} (h : XSt A B C we (.slice (some ⟨g, 0, none⟩) n c) o W) (hn : o.length = n) {i : Nat} (hi : i < o.length) (nm : ByteArray) :
    XSt A B C we (.slice (some ⟨g, 0, none⟩) n c) (o.set i ⟨nm, (o[i]).p, (o[i]).cap, (o[i]).txt⟩) (W.setCell ⟨g, i * 2, none⟩ (.string nm)) := by
  subst hn
  have hrow := h.own.1.1
  have hg : W.grownBy (W.setCell ⟨g, i * 2, none⟩ (.string nm)) (Value.slice (some ⟨g, 0, none⟩) o.length c).ownBlock := grown_set W g _ _
  have hsl : (⟨nm, (o[i]).p, (o[i]).cap, (o[i]).txt⟩ : Fx).sl = (o[i]).sl := rfl
  refine ⟨⟨⟨?_, fun x hx => ?_⟩, ?_⟩, h.zu, fun x hx => ?_, h.kept.grown hg fun k hk => ⟨(World.ownsRow.lt hrow k hk).1, h.zu k hk⟩⟩
  · have hst := (hrow.stored (i * 2) (.string nm)).1
    rw [List.length_set, cellsX_set _ _ hi, hsl]
    have e1 : ((cellsX o).set (i * 2) (.string nm)).set (i * 2 + 1) (o[i]).sl = (cellsX o).set (i * 2) (.string nm) := by
      apply List.ext_getElem?
      intro q
      rw [List.getElem?_set]
      split
      · rename_i hq
        subst hq
        rw [if_pos (by rw [List.length_set, cellsX_len]; omega), List.getElem?_set_ne (by omega)]
        exact ((cellsX_get o i hi).2).symm
      · rfl
    rw [e1]
    exact hst
  · obtain ⟨q, hq, rfl⟩ := List.mem_iff_getElem.1 hx
    rw [List.length_set] at hq
    rw [List.getElem_set]
    by_cases e : i = q
    · rw [if_pos e]; exact own_else (show W.ownsRow A 9 1 (o[i]).sl (o[i]).txt.length ((o[i]).txt.map Value.string) from h.own.1.2 _ (List.getElem_mem hi)) hrow (by decide) hg
    · rw [if_neg e]; exact own_else (h.own.1.2 _ (List.getElem_mem hq)) hrow (by decide) hg
  · refine apart_set h.own.2 hi fun q hq hne => ?_
    rw [hsl]
    exact apart_ne h.own.2 hq hi hne
  · obtain ⟨q, hq, rfl⟩ := List.mem_iff_getElem.1 hx
    rw [List.length_set] at hq
    rw [List.getElem_set]
    by_cases e : i = q
    · rw [if_pos e, hsl]; exact h.zo _ (List.getElem_mem hi)
    · rw [if_neg e]; exact h.zo _ (List.getElem_mem hq)

/-- A block more, that nobody owns. -/
theorem XSt.alloc {A B C : Nat} {we W : World} {u : Value} {o : List Fx} (h : XSt A B C we u o W) (ob : Obj) : XSt A B C we u o (W.alloc ob) :=
  ⟨h.own.on ((Below.refl _ _).alloc (Nat.le_refl _) _), h.zu, h.zo, h.kept.grown (grown_alloc W ob) fun k hk => by cases hk⟩

/-- The texts have grown by one, and are stored back. -/
theorem XSt.grow {A B C : Nat} {we W W4 : World} {g c n : Nat} {o : List Fx} (h : XSt A B C we (.slice (some ⟨g, 0, none⟩) n c) o W) (hn : o.length = n) {i : Nat} (hi : i < o.length) {p : Option Addr} {m cap : Nat} {ts : List ByteArray}
    (hm : ts.length = m) (hown : W4.ownsRow A 9 1 (.slice p m cap) m (ts.map Value.string)) (hg : W.grownBy W4 (o[i]).sl.ownBlock) (hat : (Value.slice p m cap).ownBlock = (o[i]).sl.ownBlock ∨ (Value.slice p m cap).ownBlock = some W.heap.size) :
    W4.cell? ⟨g, i * 2 + 1, none⟩ = some (o[i]).sl ∧ W4.frozen? ⟨g, i * 2 + 1, none⟩ = false ∧
      XSt A B C we (.slice (some ⟨g, 0, none⟩) n c) (o.set i ⟨(o[i]).name, p, cap, ts⟩) (W4.setCell ⟨g, i * 2 + 1, none⟩ (.slice p m cap)) := by
  subst hn
  subst hm
  have hrow := h.own.1.1
  have hti := h.own.1.2 _ (List.getElem_mem hi)
  have hrow4 : W4.ownsRow A 41 2 (.slice (some ⟨g, 0, none⟩) o.length c) o.length (cellsX o) := own_else hrow hti (by decide) hg
  have hset : W4.grownBy (W4.setCell ⟨g, i * 2 + 1, none⟩ (.slice p ts.length cap)) (Value.slice (some ⟨g, 0, none⟩) o.length c).ownBlock := grown_set W4 g _ _
  have hk4 : KeptZ A B C we W4 := h.kept.grown hg fun k hk => ⟨sl_lt hti k hk, h.zo _ (List.getElem_mem hi) k hk⟩
  have hzn : ZoneV B C (.slice p ts.length cap) := fun k hk => by
    rcases hat with e | e
    · exact h.zo _ (List.getElem_mem hi) k (by rw [← e]; exact hk)
    · have := h.kept.size
      rw [e] at hk
      have : W.heap.size = k := by simpa using hk
      omega
  refine ⟨by rw [hrow4.cellAt _ (by omega)]; exact (cellsX_get o i hi).2, hrow4.frozenAt _, ⟨⟨⟨?_, fun x hx => ?_⟩, ?_⟩, h.zu, fun x hx => ?_, hk4.grown hset fun k hk => ⟨(World.ownsRow.lt hrow k hk).1, h.zu k hk⟩⟩⟩
  · have hst := (hrow4.stored (i * 2 + 1) (.slice p ts.length cap)).1
    rw [List.length_set, cellsX_set _ _ hi]
    have e1 : (cellsX o).set (i * 2) (.string (o[i]).name) = cellsX o := by
      apply List.ext_getElem?
      intro q
      rw [List.getElem?_set]
      split
      · rename_i hq
        subst hq
        rw [if_pos (by rw [cellsX_len]; omega)]
        exact ((cellsX_get o i hi).1).symm
      · rfl
    rw [e1]
    exact hst
  · obtain ⟨q, hq, rfl⟩ := List.mem_iff_getElem.1 hx
    rw [List.length_set] at hq
    rw [List.getElem_set]
    by_cases e : i = q
    · rw [if_pos e]; exact own_else (show W4.ownsRow A 9 1 (.slice p ts.length cap) ts.length (ts.map Value.string) from hown) hrow4 (by decide) hset
    · rw [if_neg e]
      have hy4 : W4.ownsRow A 9 1 (o[q]).sl (o[q]).txt.length ((o[q]).txt.map Value.string) := World.ownsRow.kept (h.own.1.2 _ (List.getElem_mem hq)) hg (apart_ne h.own.2 hq hi (by omega))
      exact own_else hy4 hrow4 (by decide) hset
  · refine apart_set h.own.2 hi fun q hq hne => ?_
    show (o[q]).sl.ownBlock = none ∨ (o[q]).sl.ownBlock ≠ (Value.slice p ts.length cap).ownBlock
    rcases hat with e | e
    · rw [e]; exact apart_ne h.own.2 hq hi hne
    · rcases hb : (o[q]).sl.ownBlock with _ | k
      · exact Or.inl rfl
      · right
        have := (World.ownsRow.lt (h.own.1.2 _ (List.getElem_mem hq)) k hb).2
        rw [e]
        intro e2
        simp at e2; omega
  · obtain ⟨q, hq, rfl⟩ := List.mem_iff_getElem.1 hx
    rw [List.length_set] at hq
    rw [List.getElem_set]
    by_cases e : i = q
    · rw [if_pos e]; exact hzn
    · rw [if_neg e]; exact h.zo _ (List.getElem_mem hq)

/-- What Norm answers, its rows apart. -/
def NJPost (w : World) (fs : List Fld) (e : Ending) (w' : World) : Prop :=
  (∃ u o, e = .returned (.tuple #[u, .int .i64 (codeF fs)]) ∧ OwnJ w.heap.size w' u o ∧ o.map Fx.fld = ansF fs) ∧ Below w.heap.size w w'

theorem own_noneJ (N : Nat) (w : World) : OwnJ N w (.slice none 0 0) [] := ⟨own_none _ _, List.Pairwise.nil⟩

theorem ans_small {fs : List Fld} : ∀ f ∈ ansF fs, f.2.length ≤ 8 := by
  unfold ansF
  split
  · rename_i h
    exact fun f hf => (fits_parts (may_fits (codeF_zero h).2.2 f hf)).2.2.1
  · intro f hf; simp at hf

end Go.Proofs.Ytinmagodckkedab

/-
  Rows of plain elements, whatever their kind: how they lie in memory, and who owns them.
-/
namespace Go.Proofs.Ytinmagodckkedab
open Go.RowKit

/-- A kind of element: its type, how many cells it has, and which. -/
structure Kind (α : Type) where
  T : TypeId
  k : Nat
  enc : α → List Value
  len : ∀ x, (enc x).length = k
  pos : 0 < k
  one : ∀ x, ∀ u ∈ enc x, u.oneCell' = true

def Kind.cells {α : Type} (K : Kind α) (d : List α) : List Value := d.flatMap K.enc

theorem Kind.cells_nil {α : Type} (K : Kind α) : K.cells [] = [] := rfl
theorem Kind.cells_one {α : Type} (K : Kind α) (x : α) : K.cells [x] = K.enc x := by simp [Kind.cells]
theorem Kind.cells_append {α : Type} (K : Kind α) (a b : List α) : K.cells (a ++ b) = K.cells a ++ K.cells b := List.flatMap_append
theorem Kind.cells_len {α : Type} (K : Kind α) (d : List α) : (K.cells d).length = d.length * K.k := by
  induction d with
  | nil => simp [Kind.cells]
  | cons x d ih =>
    have e : K.cells (x :: d) = K.enc x ++ K.cells d := rfl
    rw [e, List.length_append, K.len, ih, List.length_cons, Nat.add_mul, Nat.one_mul, Nat.add_comm]

theorem Kind.cells_get {α : Type} (K : Kind α) (d : List α) (i : Nat) (h : i < d.length) (j : Nat) (hj : j < K.k) : (K.cells d)[i * K.k + j]? = (K.enc d[i])[j]? := by
  induction d generalizing i with
  | nil => simp at h
  | cons x d ih =>
    have e : K.cells (x :: d) = K.enc x ++ K.cells d := rfl
    rw [e]
    cases i with
    | zero => rw [Nat.zero_mul, Nat.zero_add, List.getElem?_append_left (by rw [K.len]; exact hj)]; rfl
    | succ i =>
      have hl : (K.enc x).length ≤ (i + 1) * K.k + j := by rw [K.len, Nat.add_mul, Nat.one_mul]; omega
      rw [List.getElem?_append_right hl, K.len]
      have e2 : (i + 1) * K.k + j - K.k = i * K.k + j := by rw [Nat.add_mul, Nat.one_mul]; omega
      rw [e2]
      exact ih i (by simpa using h)

theorem Kind.cells_ones {α : Type} (K : Kind α) (d : List α) : ∀ u ∈ K.cells d, u.oneCell' = true := by
  intro u hu
  obtain ⟨x, _, hx⟩ := List.mem_flatMap.1 hu
  exact K.one x u hx

/-- The elements d lie from off on in block b. -/
def Kind.At {α : Type} (K : Kind α) (w : World) (b off : Nat) (d : List α) : Prop :=
  ∀ i, (h : i < d.length) → ∀ j u, (K.enc d[i])[j]? = some u → w.cell? ⟨b, off + i * K.k + j, none⟩ = some u

/-- v is a slice that holds the elements d. -/
def Kind.Is {α : Type} (K : Kind α) (w : World) (v : Value) (d : List α) : Prop :=
  ∃ p cap, v = .slice p d.length cap ∧ (d = [] ∨ ∃ b off, p = some ⟨b, off, none⟩ ∧ K.At w b off d)

/-- v owns a row of the elements d, in a block at or behind n0. -/
def Kind.Own {α : Type} (K : Kind α) (n0 : Nat) (w : World) (v : Value) (d : List α) : Prop := w.ownsRow n0 K.T K.k v d.length (K.cells d)

theorem Kind.at_kept {α : Type} {K : Kind α} {w w' : World} {b off : Nat} {d : List α} (h : K.At w b off d) (hb : Below w.heap.size w w') : K.At w' b off d :=
  fun i hi j u hu => (hb.cell (p := ⟨b, off + i * K.k + j, none⟩) (cell_block (h i hi j u hu))).trans (h i hi j u hu)

theorem Kind.is_kept {α : Type} {K : Kind α} {w w' : World} {v : Value} {d : List α} (h : K.Is w v d) (hb : Below w.heap.size w w') : K.Is w' v d := by
  obtain ⟨p, cap, rfl, h⟩ := h
  refine ⟨p, cap, rfl, ?_⟩
  rcases h with h | ⟨b, off, hp, h⟩
  · exact Or.inl h
  · exact Or.inr ⟨b, off, hp, K.at_kept h hb⟩

theorem Kind.is_nil {α : Type} (K : Kind α) (w : World) : K.Is w (.slice none 0 0) [] := ⟨none, 0, rfl, Or.inl rfl⟩
theorem Kind.own_nil {α : Type} (K : Kind α) (n0 : Nat) (w : World) : K.Own n0 w (.slice none 0 0) [] := World.ownsRow_nil _ _ _ _

theorem Kind.own_on {α : Type} {K : Kind α} {n0 : Nat} {w w' : World} {v : Value} {d : List α} (h : K.Own n0 w v d) (hb : Below w.heap.size w w') : K.Own n0 w' v d := _root_.Go.Proofs.Ytinmagodckkedab.own_on h hb
theorem Kind.own_weak {α : Type} {K : Kind α} {n0 n1 : Nat} {w : World} {v : Value} {d : List α} (h : K.Own n0 w v d) (hn : n1 ≤ n0) : K.Own n1 w v d := _root_.Go.Proofs.Ytinmagodckkedab.own_weak h hn

theorem Kind.own_shape {α : Type} {K : Kind α} {n0 : Nat} {w : World} {v : Value} {d : List α} (h : K.Own n0 w v d) : ∃ p cap, v = .slice p d.length cap := by
  rcases h.2 with ⟨hv, h0⟩ | ⟨g, cap, cur, hv, _⟩
  · exact ⟨none, 0, by rw [hv, h0]⟩
  · exact ⟨_, _, hv⟩

theorem Kind.own_is {α : Type} {K : Kind α} {n0 : Nat} {w : World} {v : Value} {d : List α} (h : K.Own n0 w v d) : K.Is w v d := by
  rcases h.2 with ⟨rfl, h0⟩ | ⟨g, c, cur, rfl, _, hg, _, _, hsz, htk⟩
  · obtain rfl := List.length_eq_zero_iff.1 h0
    exact K.is_nil w
  · refine ⟨_, c, rfl, Or.inr ⟨g, 0, rfl, fun i hi j u hu => ?_⟩⟩
    have hj : j < K.k := by
      have := (List.getElem?_eq_some_iff.1 hu).1
      rwa [K.len] at this
    have hlt : i * K.k + j < d.length * K.k := by
      have h1 : (i + 1) * K.k ≤ d.length * K.k := Nat.mul_le_mul_right _ hi
      rw [Nat.add_mul, Nat.one_mul] at h1
      omega
    rw [Nat.zero_add, cell_of_row w g _ cur _ _ hg, ← Array.getElem?_toList]
    have : (K.cells d)[i * K.k + j]? = cur.toList[i * K.k + j]? := by rw [← htk, List.getElem?_take, if_pos hlt]
    rw [← this, K.cells_get d i hi j hj, hu]

/-- What a slice of elements gives an append. -/
theorem Kind.src {α : Type} {K : Kind α} {w : World} {p : Option Addr} {d : List α} (h : d = [] ∨ ∃ b off, p = some ⟨b, off, none⟩ ∧ K.At w b off d) :
    d.length = 0 ∨ ∃ ad, p = some ad ∧ ∀ j u, (K.cells d)[j]? = some u → w.cell? (ad.add j) = some u := by
  rcases h with rfl | ⟨b, off, rfl, hx⟩
  · exact Or.inl rfl
  · refine Or.inr ⟨_, rfl, fun j u hu => ?_⟩
    have hj : j < d.length * K.k := by
      have := (List.getElem?_eq_some_iff.1 hu).1
      rwa [K.cells_len] at this
    have hk : j / K.k < d.length := (Nat.div_lt_iff_lt_mul K.pos).2 hj
    have hm : j % K.k < K.k := Nat.mod_lt _ K.pos
    have e : j / K.k * K.k + j % K.k = j := by rw [Nat.mul_comm]; exact Nat.div_add_mod j K.k
    have hg := K.cells_get d (j / K.k) hk (j % K.k) hm
    rw [e, hu] at hg
    have := hx (j / K.k) hk (j % K.k) u hg.symm
    rw [addr_add]
    rw [Nat.add_assoc, e] at this
    exact this

/-- A literal row of one element. -/
theorem Kind.news {α : Type} (K : Kind α) (w : World) (x : α) : ∀ j u, (K.cells [x])[j]? = some u → (w.alloc (.cells (K.enc x).toArray K.T)).cell? ((⟨w.heap.size, 0, none⟩ : Addr).add j) = some u := by
  intro j u hu
  rw [K.cells_one] at hu
  rw [addr_add, Nat.zero_add, cell_of_row _ _ _ _ _ _ (heap_alloc_new w _)]
  simpa using hu

theorem Kind.own_snoc {α : Type} {K : Kind α} {n0 : Nat} {w : World} {v : Value} {d : List α} {x : α} {n : Nat} {xs : List Value} (h : w.ownsRow n0 K.T K.k v n xs) (hn : n = d.length + 1) (hx : xs = K.cells d ++ K.cells [x]) : K.Own n0 w v (d ++ [x]) := by
  subst hn hx
  unfold Kind.Own
  rw [K.cells_append, List.length_append]
  exact h

end Go.Proofs.Ytinmagodckkedab

/-
  The plain mathematics of terms: which may be, their order, and what is normal.
-/
namespace Go.Proofs.Ytinmagodckkedab
open Go.RowKit

/-- A term: its field's name, its operator, its text. -/
abbrev Tm := ByteArray × Int × ByteArray

def encM (x : Tm) : List Value := [.string x.1, .int .i64 x.2.1, .string x.2.2]

/-- Terms that a machine can hold. -/
def FitM (p : List Tm) : Prop := p.length ≤ maxLen ∧ ∀ x ∈ p, x.1.size ≤ maxLen ∧ x.2.2.size ≤ maxLen ∧ -9223372036854775808 ≤ x.2.1 ∧ x.2.1 ≤ 9223372036854775807

def rightM (x : Tm) : Bool := decide (1 ≤ x.2.1) && decide (x.2.1 ≤ 7) && (decide (x.2.1 < 6) || decide (x.2.2.size = 0))
def namedM (x : Tm) : Bool := fieldB x.1.data.toList
def shortM (x : Tm) : Bool := decide (x.2.2.size ≤ 128)
/-- What May answers. -/
def mayM (p : List Tm) : Int := if 8 < p.length then 5 else if p.all namedM = false then 2 else if p.all rightM = false then 1 else if p.all shortM = false then 5 else 0

/-- The order of terms. -/
def ltM (a b : Tm) : Bool := if a.1 ≠ b.1 then ltB a.1 b.1 else if a.2.1 ≠ b.2.1 then decide (a.2.1 < b.2.1) else ltB a.2.2 b.2.2

theorem ltM_irrefl (a : Tm) : ltM a a = false := by simp [ltM, ltB_irrefl]

theorem ltB_eq_false {a b : ByteArray} (h : ltB a b = true) : a ≠ b := by
  rintro rfl
  rw [ltB_irrefl] at h
  cases h

theorem ltM_cases (a b : Tm) : ltM a b = true ∨ a = b ∨ ltM b a = true := by
  obtain ⟨a1, a2, a3⟩ := a
  obtain ⟨b1, b2, b3⟩ := b
  unfold ltM
  simp only
  by_cases h1 : a1 = b1
  · subst h1
    by_cases h2 : a2 = b2
    · subst h2
      rcases ltB_cases a3 b3 with h | h | h
      · left; simpa using h
      · right; left; rw [h]
      · right; right; simpa using h
    · have h2' : b2 ≠ a2 := fun e => h2 e.symm
      rcases Int.lt_or_gt_of_ne h2 with h | h
      · left; simp [h2, h]
      · right; right; simp [h2', h]
  · have h1' : b1 ≠ a1 := fun e => h1 e.symm
    rcases ltB_cases a1 b1 with h | h | h
    · left; simp [h1, h]
    · exact absurd h h1
    · right; right; simp [h1', h]

theorem ltM_trans {a b c : Tm} (h : ltM a b = true) (k : ltM b c = true) : ltM a c = true := by
  obtain ⟨a1, a2, a3⟩ := a
  obtain ⟨b1, b2, b3⟩ := b
  obtain ⟨c1, c2, c3⟩ := c
  unfold ltM at *
  simp only at *
  by_cases h1 : a1 = b1
  · subst h1
    by_cases k1 : a1 = c1
    · subst k1
      simp only [ne_eq, not_true_eq_false, if_false] at *
      by_cases h2 : a2 = b2
      · subst h2
        by_cases k2 : a2 = c2
        · subst k2
          simp only [not_true_eq_false, if_false] at *
          exact ltB_trans h k
        · simp only [not_true_eq_false, if_false, k2, not_false_eq_true, if_true] at *
          exact k
      · by_cases k2 : b2 = c2
        · subst k2
          simp only [h2, not_false_eq_true, if_true] at *
          exact h
        · simp only [h2, k2, not_false_eq_true, if_true, decide_eq_true_eq] at h k
          have h3 : a2 ≠ c2 := by omega
          simp only [h3, not_false_eq_true, if_true, decide_eq_true_eq]
          omega
    · simp only [ne_eq, k1, not_false_eq_true, if_true] at *
      exact k
  · by_cases k1 : b1 = c1
    · subst k1
      simp only [ne_eq, h1, not_false_eq_true, if_true] at *
      exact h
    · simp only [ne_eq, h1, k1, not_false_eq_true, if_true] at h k
      have h3 : ltB a1 c1 = true := ltB_trans h k
      have h4 : a1 ≠ c1 := ltB_eq_false h3
      simp only [ne_eq, h4, not_false_eq_true, if_true]
      exact h3

theorem ltM_asymm {a b : Tm} (h : ltM a b = true) : ltM b a = false := by
  cases k : ltM b a with
  | false => rfl
  | true =>
    have := ltM_trans h k
    rw [ltM_irrefl] at this
    cases this

theorem ltM_ne {a b : Tm} (h : ltM a b = true) : a ≠ b := by
  rintro rfl
  rw [ltM_irrefl] at h
  cases h

def RisingM (l : List Tm) : Prop := l.Pairwise fun x y => ltM x y = true

/-- Rising lists of the same terms are one. -/
theorem rising_unique : ∀ (a b : List Tm), RisingM a → RisingM b → (∀ x, x ∈ a ↔ x ∈ b) → a = b
  | [], [], _, _, _ => rfl
  | [], y :: b, _, _, h => by have := (h y).2 (by simp); simp at this
  | x :: a, [], _, _, h => by have := (h x).1 (by simp); simp at this
  | x :: a, y :: b, ha, hb, h => by
    have ha' := List.pairwise_cons.1 ha
    have hb' := List.pairwise_cons.1 hb
    have hxy : x = y := by
      rcases List.mem_cons.1 ((h x).1 (by simp)) with e | e
      · exact e
      · rcases List.mem_cons.1 ((h y).2 (by simp)) with e2 | e2
        · exact e2.symm
        · have h1 := hb'.1 x e
          have h2 := ha'.1 y e2
          rw [ltM_asymm h1] at h2
          cases h2
    subst hxy
    congr 1
    refine rising_unique a b ha'.2 hb'.2 fun z => ⟨fun hz => ?_, fun hz => ?_⟩
    · rcases List.mem_cons.1 ((h z).1 (by simp [hz])) with e | e
      · exact absurd e.symm (ltM_ne (ha'.1 z hz))
      · exact e
    · rcases List.mem_cons.1 ((h z).2 (by simp [hz])) with e | e
      · exact absurd e.symm (ltM_ne (hb'.1 z hz))
      · exact e

/-- x put where it belongs, if it isn't there. -/
def insM (x : Tm) : List Tm → List Tm
  | [] => [x]
  | y :: l => if ltM x y then x :: y :: l else if x = y then y :: l else y :: insM x l

/-- The terms, rising, each once. -/
def sortM (p : List Tm) : List Tm := p.foldl (fun acc x => insM x acc) []

theorem mem_insM (x z : Tm) (l : List Tm) : z ∈ insM x l ↔ z = x ∨ z ∈ l := by
  induction l with
  | nil => simp [insM]
  | cons y l ih =>
    unfold insM
    split
    · simp
    · split
      · rename_i h; subst h; simp
      · simp [ih, or_left_comm]

theorem insM_rising (x : Tm) (l : List Tm) (h : RisingM l) : RisingM (insM x l) := by
  induction l with
  | nil => exact List.pairwise_singleton _ _
  | cons y l ih =>
    have h' := List.pairwise_cons.1 h
    unfold insM
    split
    · rename_i hlt
      refine List.pairwise_cons.2 ⟨fun z hz => ?_, h⟩
      rcases List.mem_cons.1 hz with rfl | hz
      · exact hlt
      · exact ltM_trans hlt (h'.1 z hz)
    · rename_i hlt
      split
      · exact h
      · rename_i hne
        refine List.pairwise_cons.2 ⟨fun z hz => ?_, ih h'.2⟩
        rcases (mem_insM x z l).1 hz with rfl | hz
        · rcases ltM_cases z y with h1 | h1 | h1
          · exact absurd h1 hlt
          · exact absurd h1 hne
          · exact h1
        · exact h'.1 z hz

theorem sortM_spec (p : List Tm) : RisingM (sortM p) ∧ ∀ x, x ∈ sortM p ↔ x ∈ p := by
  have : ∀ (l acc : List Tm), RisingM acc → RisingM (l.foldl (fun acc x => insM x acc) acc) ∧ ∀ x, x ∈ l.foldl (fun acc x => insM x acc) acc ↔ x ∈ acc ∨ x ∈ l := by
    intro l
    induction l with
    | nil => intro acc h; exact ⟨h, fun x => by simp⟩
    | cons y l ih =>
      intro acc h
      obtain ⟨h1, h2⟩ := ih (insM y acc) (insM_rising y acc h)
      refine ⟨h1, fun x => ?_⟩
      rw [List.foldl_cons, h2, mem_insM, List.mem_cons]
      constructor
      · rintro ((h | h) | h)
        · exact Or.inr (Or.inl h)
        · exact Or.inl h
        · exact Or.inr (Or.inr h)
      · rintro (h | h | h)
        · exact Or.inl (Or.inr h)
        · exact Or.inl (Or.inl h)
        · exact Or.inr h
  obtain ⟨h1, h2⟩ := this p [] List.Pairwise.nil
  exact ⟨h1, fun x => by rw [sortM, h2]; simp⟩

theorem sortM_unique {p l : List Tm} (h1 : RisingM l) (h2 : ∀ x, x ∈ l ↔ x ∈ p) : l = sortM p :=
  rising_unique _ _ h1 (sortM_spec p).1 fun x => (h2 x).trans ((sortM_spec p).2 x).symm

theorem sortM_len (p : List Tm) : (sortM p).length ≤ p.length := by
  have key : ∀ (x : Tm) (l : List Tm), (insM x l).length ≤ l.length + 1 := by
    intro x l
    induction l with
    | nil => simp [insM]
    | cons y l ih =>
      unfold insM
      split
      · simp
      · split
        · simp
        · simp; omega
  have : ∀ (l acc : List Tm), (l.foldl (fun acc x => insM x acc) acc).length ≤ acc.length + l.length := by
    intro l
    induction l with
    | nil => intro acc; simp
    | cons y l ih =>
      intro acc
      have h1 := ih (insM y acc)
      have h2 := key y acc
      rw [List.foldl_cons, List.length_cons]
      omega
  simpa [sortM] using this p []

theorem mayM_perm {p q : List Tm} (h : ∀ x, x ∈ p ↔ x ∈ q) (hl : p.length ≤ 8) (hm : q.length ≤ 8) : mayM p = mayM q := by
  have key : ∀ f : Tm → Bool, p.all f = q.all f := fun f => by
    rw [Bool.eq_iff_iff, List.all_eq_true, List.all_eq_true]
    exact ⟨fun H x hx => H x ((h x).2 hx), fun H x hx => H x ((h x).1 hx)⟩
  unfold mayM
  rw [if_neg (show ¬ 8 < p.length by omega), key namedM, key rightM, key shortM, if_neg (show ¬ 8 < q.length by omega)]

/-- What Norm answers. -/
def ansM (p : List Tm) : List Tm := if mayM p = 0 then sortM p else []

theorem mayM_zero {p : List Tm} (h : mayM p = 0) : p.length ≤ 8 ∧ p.all namedM = true ∧ p.all rightM = true ∧ p.all shortM = true := by
  unfold mayM at h
  split at h
  · omega
  · rename_i h1
    split at h
    · omega
    · rename_i h2
      split at h
      · omega
      · rename_i h3
        split at h
        · omega
        · rename_i h4
          exact ⟨by omega, by simpa using h2, by simpa using h3, by simpa using h4⟩

end Go.Proofs.Ytinmagodckkedab

/-
  The contracts of the reference's less, May and Same of terms.
-/
namespace Go.Proofs.Ytinmagodckkedab
open Go.RowKit

theorem all_snoc {p : List Tm} {f : Tm → Bool} {i : Nat} (h : i < p.length) : (p.take (i + 1)).all f = ((p.take i).all f && f p[i]) := by
  rw [List.take_succ_eq_append_getElem h, List.all_append]
  simp

end Go.Proofs.Ytinmagodckkedab

/-
  The contracts of the reference's Same and Norm of terms.
-/
namespace Go.Proofs.Ytinmagodckkedab
open Go.RowKit

/-- May x stand behind the first k of G? -/
def eligB (G : List Tm) (k : Nat) (x : Tm) : Bool := decide (k = 0) || ltM (G.getD (k - 1) default) x

/-- What the scan has found among the first i: where it stands, or -1. -/
def ScanM (G p : List Tm) (k i : Nat) (at_ : Int) : Prop :=
  (at_ = -1 ∧ ∀ j, (h : j < p.length) → j < i → eligB G k p[j] = false) ∨
  (∃ m : Nat, at_ = m ∧ m < i ∧ ∃ hm : m < p.length, eligB G k p[m] = true ∧ ∀ j, (h : j < p.length) → j < i → eligB G k p[j] = true → ltM p[j] p[m] = false)

theorem RisingM.get {o : List Tm} (h : RisingM o) {i j : Nat} (hij : i < j) (hj : j < o.length) : ltM (o[i]'(by omega)) (o[j]) = true :=
  List.pairwise_iff_getElem.1 h i j (by omega) hj hij

theorem elig_ge {G : List Tm} (h : RisingM G) {k m : Nat} (hk : k ≤ G.length) (hm : m < G.length) : eligB G k G[m] = true ↔ k ≤ m := by
  unfold eligB
  constructor
  · intro he
    rw [Bool.or_eq_true] at he
    rcases he with he | he
    · have := of_decide_eq_true he; omega
    · refine Nat.le_of_not_lt fun hlt => ?_
      rw [List.getD_eq_getElem?_getD, List.getElem?_eq_getElem (show k - 1 < G.length by omega)] at he
      by_cases e : m = k - 1
      · subst e
        rw [Option.getD_some, ltM_irrefl] at he
        cases he
      · have := h.get (show m < k - 1 by omega) (by omega)
        rw [Option.getD_some] at he
        rw [ltM_asymm this] at he
        cases he
  · intro hkm
    by_cases h0 : k = 0
    · rw [decide_eq_true h0]; rfl
    · rw [Bool.or_eq_true]
      right
      rw [List.getD_eq_getElem?_getD, List.getElem?_eq_getElem (show k - 1 < G.length by omega), Option.getD_some]
      exact h.get (by omega) hm

theorem scan_end {G p : List Tm} (h1 : RisingM G) (h2 : ∀ x, x ∈ G ↔ x ∈ p) {k : Nat} (hk : k ≤ G.length) {at_ : Int} (hs : ScanM G p k p.length at_) :
    (at_ = -1 ∧ k = G.length) ∨ (∃ m : Nat, at_ = m ∧ ∃ hm : m < p.length, ∃ hg : k < G.length, p[m] = G[k]) := by
  rcases hs with ⟨e, hn⟩ | ⟨m, e, _, hm, he, hl⟩
  · left
    refine ⟨e, ?_⟩
    by_cases hkl : k = G.length
    · exact hkl
    · exfalso
      have hlt : k < G.length := by omega
      obtain ⟨j, hj, ej⟩ := List.mem_iff_getElem.1 ((h2 G[k]).1 (List.getElem_mem hlt))
      have := hn j hj hj
      rw [ej, (elig_ge h1 hk hlt).2 (Nat.le_refl _)] at this
      cases this
  · right
    obtain ⟨a, ha, ea⟩ := List.mem_iff_getElem.1 ((h2 p[m]).2 (List.getElem_mem hm))
    have hka : k ≤ a := by
      rw [← ea] at he
      exact (elig_ge h1 hk ha).1 he
    refine ⟨m, e, hm, by omega, ?_⟩
    by_cases hlt : k < a
    · exfalso
      obtain ⟨j, hj, ej⟩ := List.mem_iff_getElem.1 ((h2 G[k]).1 (List.getElem_mem (by omega)))
      have := hl j hj hj (by rw [ej]; exact (elig_ge h1 hk (by omega)).2 (Nat.le_refl _))
      rw [ej, ← ea, h1.get hlt ha] at this
      cases this
    · obtain rfl : a = k := by omega
      exact ea.symm

theorem scan_zero (G p : List Tm) (k : Nat) : ScanM G p k 0 (-1) := Or.inl ⟨rfl, fun j _ h => by omega⟩

theorem scan_skip {G p : List Tm} {k i : Nat} {a : Int} (h : ScanM G p k i a) (hi : i < p.length) (he : eligB G k p[i] = false) : ScanM G p k (i + 1) a := by
  rcases h with ⟨e, hn⟩ | ⟨m, e, hm1, hm, hme, hl⟩
  · refine Or.inl ⟨e, fun j hj hji => ?_⟩
    by_cases ej : j = i
    · subst ej; exact he
    · exact hn j hj (by omega)
  · refine Or.inr ⟨m, e, by omega, hm, hme, fun j hj hji hje => ?_⟩
    by_cases ej : j = i
    · subst ej; rw [he] at hje; cases hje
    · exact hl j hj (by omega) hje

theorem scan_first {G p : List Tm} {k i : Nat} (h : ScanM G p k i (-1)) (hi : i < p.length) (he : eligB G k p[i] = true) : ScanM G p k (i + 1) (i : Int) := by
  rcases h with ⟨_, hn⟩ | ⟨m, e, _⟩
  · refine Or.inr ⟨i, rfl, by omega, hi, he, fun j hj hji hje => ?_⟩
    by_cases ej : j = i
    · subst ej; exact ltM_irrefl _
    · rw [hn j hj (by omega)] at hje; cases hje
  · omega

theorem scan_less {G p : List Tm} {k i m : Nat} (h : ScanM G p k i (m : Int)) (hi : i < p.length) (hm : m < p.length) (he : eligB G k p[i] = true) (hl : ltM p[i] p[m] = true) : ScanM G p k (i + 1) (i : Int) := by
  rcases h with ⟨e, _⟩ | ⟨m', e, _, _, _, hll⟩
  · omega
  · obtain rfl : m = m' := by omega
    refine Or.inr ⟨i, rfl, by omega, hi, he, fun j hj hji hje => ?_⟩
    by_cases ej : j = i
    · subst ej; exact ltM_irrefl _
    · have := hll j hj (by omega) hje
      cases hc : ltM p[j] p[i] with
      | false => rfl
      | true => rw [ltM_trans hc hl] at this; cases this

theorem scan_keep {G p : List Tm} {k i m : Nat} (h : ScanM G p k i (m : Int)) (hi : i < p.length) (hm : m < p.length) (hl : ltM p[i] p[m] = false) : ScanM G p k (i + 1) (m : Int) := by
  rcases h with ⟨e, _⟩ | ⟨m', e, h1, h2, h3, hll⟩
  · omega
  · obtain rfl : m = m' := by omega
    refine Or.inr ⟨m, rfl, by omega, h2, h3, fun j hj hji hje => ?_⟩
    by_cases ej : j = i
    · subst ej; exact hl
    · exact hll j hj (by omega) hje

theorem scan_is {G p : List Tm} {k i : Nat} {a : Int} (h : ScanM G p k i a) : a = -1 ∨ ∃ m : Nat, a = m ∧ m < p.length := by
  rcases h with ⟨e, _⟩ | ⟨m, e, _, hm, _⟩
  · exact Or.inl e
  · exact Or.inr ⟨m, e, hm⟩

end Go.Proofs.Ytinmagodckkedab

/-
  The contract of the reference's Norm of terms.
-/
namespace Go.Proofs.Ytinmagodckkedab
open Go.RowKit

end Go.Proofs.Ytinmagodckkedab

/-
  Rows of terms: one written over, cut short, sorted; the order as compare has it; what is left of a sorted row without its doubles.
-/
namespace Go.Proofs.Ytinmagodckkedab
open Go.RowKit Go.Sort Go.Lib

theorem Kind.cells_set {α : Type} (K : Kind α) (d : List α) (i : Nat) (h : i < d.length) (x : α) (j : Nat) : (K.cells (d.set i x))[j]? = if i * K.k ≤ j ∧ j < i * K.k + K.k then (K.enc x)[j - i * K.k]? else (K.cells d)[j]? := by
  by_cases hj : j < d.length * K.k
  · have hkp := K.pos
    have hq : j / K.k < d.length := (Nat.div_lt_iff_lt_mul hkp).2 hj
    have hm : j % K.k < K.k := Nat.mod_lt _ hkp
    have e : j / K.k * K.k + j % K.k = j := by rw [Nat.mul_comm]; exact Nat.div_add_mod j K.k
    have h1 := K.cells_get (d.set i x) (j / K.k) (by simpa using hq) (j % K.k) hm
    have h2 := K.cells_get d (j / K.k) hq (j % K.k) hm
    rw [e] at h1 h2
    rw [h1, h2, List.getElem_set]
    by_cases hi : i = j / K.k
    · rw [if_pos hi, if_pos (by rw [hi]; omega), hi]
      congr 1
      omega
    · rw [if_neg hi, if_neg]
      intro hh
      exact hi ((blk_iff K.k i j hkp).1 hh).symm
  · have h3 : (i + 1) * K.k ≤ d.length * K.k := Nat.mul_le_mul_right _ h
    rw [Nat.add_mul, Nat.one_mul] at h3
    rw [if_neg (by omega), List.getElem?_eq_none (by rw [K.cells_len, List.length_set]; omega), List.getElem?_eq_none (by rw [K.cells_len]; omega)]

theorem grown_sets {g : Nat} (vs : List Value) : ∀ (w w0 : World) (o : Nat), w0.grownBy w (some g) → w0.grownBy (w.setCells g o vs) (some g) := by
  induction vs with
  | nil => intro w w0 o h; exact h
  | cons v vs ih => intro w w0 o h; rw [World.setCells]; exact ih _ _ _ (grown_trans h (grown_set w g o v))

theorem below_sortM {B : Nat} {w0 w : World} (h : Below B w0 w) (hB : B ≤ w.heap.size) (blk off n : Nat) (d : Array Tm) (os : Array Obj) (hb : B ≤ blk) : Below B w0 (sortWorldK encM 3 w blk off n d os) := by
  refine h.trans ⟨rfl, rfl, rfl, ?_, ?_⟩
  · simp [sortWorldK, putRowK]
  · intro k hk
    have hks : k < w.heap.size := by omega
    simp only [sortWorldK, Sort.grow, putRowK, putRow, mapBlock, Sort.ahead]
    rw [Array.getElem?_append_left (by simpa using hks), Array.getElem?_modify, if_neg (by omega)]

/-- What compare answers. -/
def cmpM (x y : Tm) : Int := pairI (Lib.compareBytes x.1.data.toList y.1.data.toList) (pairI (Lib.compareInt x.2.1 y.2.1) (Lib.compareBytes x.2.2.data.toList y.2.2.data.toList))

theorem pairI_zero (y : Int) : pairI 0 y = y := rfl
theorem pairI_ne {x : Int} (h : x ≠ 0) (y : Int) : pairI x y = x := by unfold pairI; rw [if_neg h]

theorem cmpM_lt (x y : Tm) : ltOf cmpM x y = ltM x y := by
  obtain ⟨a1, a2, a3⟩ := x
  obtain ⟨b1, b2, b3⟩ := y
  show decide (pairI (Lib.compareBytes a1.data.toList b1.data.toList) (pairI (Lib.compareInt a2 b2) (Lib.compareBytes a3.data.toList b3.data.toList)) < 0) = if a1 ≠ b1 then ltB a1 b1 else if a2 ≠ b2 then decide (a2 < b2) else ltB a3 b3
  by_cases h1 : a1 = b1
  · subst h1
    rw [if_neg (show ¬ (a1 ≠ a1) by simp), cb_self, pairI_zero]
    by_cases h2 : a2 = b2
    · subst h2
      have hc : Lib.compareInt a2 a2 = 0 := by unfold Lib.compareInt; simp
      rw [if_neg (show ¬ (a2 ≠ a2) by simp), hc, pairI_zero]
      rfl
    · rw [if_pos h2]
      rcases Int.lt_or_gt_of_ne h2 with h | h
      · have hc : Lib.compareInt a2 b2 = -1 := by unfold Lib.compareInt; simp [h]
        rw [hc, pairI_ne (by decide)]
        simp [h]
      · have hn : ¬ a2 < b2 := by omega
        have hc : Lib.compareInt a2 b2 = 1 := by unfold Lib.compareInt; simp [hn, h]
        rw [hc, pairI_ne (by decide)]
        simp [hn]
  · have hc : Lib.compareBytes a1.data.toList b1.data.toList ≠ 0 := fun e => h1 (ba_eq ((cb_zero _ _).1 e))
    rw [if_pos h1, pairI_ne hc]
    rfl

theorem swoM : SWO (ltOf cmpM) where
  irrefl x := by rw [cmpM_lt]; exact ltM_irrefl x
  trans x y z h1 h2 := by rw [cmpM_lt] at *; exact ltM_trans h1 h2
  ntrans x y z h1 h2 := by
    rw [cmpM_lt] at *
    cases h : ltM x z with
    | false => rfl
    | true =>
      rcases ltM_cases x y with h3 | h3 | h3
      · rw [h1] at h3; cases h3
      · rw [h3, h2] at h; cases h
      · rw [ltM_trans h3 h] at h2; cases h2

/-- A sorted row without its doubles is rising. -/
theorem compact_sorted {d : Array Tm} (hs : SortedIn (ltOf cmpM) 0 d.size d) : RisingM (compactUpTo d d.size) ∧ ∀ x, x ∈ compactUpTo d d.size ↔ x ∈ d.toList := by
  have hle : ∀ i j, i ≤ j → j < d.size → ltM d[j]! d[i]! = false := by
    intro i j hij hj
    rcases Nat.lt_or_ge i j with h | h
    · have := hs i j (Nat.zero_le _) h hj
      rwa [cmpM_lt] at this
    · obtain rfl : i = j := by omega
      exact ltM_irrefl _
  have key : ∀ m, m ≤ d.size → RisingM (compactUpTo d m) ∧ ∀ x, x ∈ compactUpTo d m ↔ ∃ j, j < m ∧ d[j]! = x := by
    intro m
    induction m with
    | zero => intro _; exact ⟨List.Pairwise.nil, fun x => by simp [compactUpTo]⟩
    | succ m ih =>
      intro hm
      obtain ⟨h1, h2⟩ := ih (by omega)
      rw [compactUpTo_succ]
      cases hk : keeps d m with
      | true =>
        rw [if_pos rfl]
        constructor
        · refine List.pairwise_append.2 ⟨h1, List.pairwise_singleton _ _, fun x hx y hy => ?_⟩
          rw [List.mem_singleton] at hy
          subst hy
          obtain ⟨j, hj, rfl⟩ := (h2 x).1 hx
          have hne : d[m]! ≠ d[m - 1]! := by
            unfold keeps at hk
            rcases of_decide_eq_true hk with h | h
            · omega
            · exact h
          have ha := hle j (m - 1) (by omega) (by omega)
          have hb := hle (m - 1) m (by omega) (by omega)
          rcases ltM_cases d[j]! d[m]! with h | h | h
          · exact h
          · rw [h] at ha
            rcases ltM_cases d[m - 1]! d[m]! with h' | h' | h'
            · rw [ha] at h'; cases h'
            · exact absurd h'.symm hne
            · rw [hb] at h'; cases h'
          · rw [hle j m (by omega) (by omega)] at h; cases h
        · intro x
          rw [List.mem_append, List.mem_singleton, h2]
          constructor
          · rintro (⟨j, hj, e⟩ | e)
            · exact ⟨j, by omega, e⟩
            · exact ⟨m, by omega, e.symm⟩
          · rintro ⟨j, hj, e⟩
            by_cases hjm : j = m
            · subst hjm; exact Or.inr e.symm
            · exact Or.inl ⟨j, by omega, e⟩
      | false =>
        rw [if_neg (by simp), List.append_nil]
        refine ⟨h1, fun x => ?_⟩
        rw [h2]
        constructor
        · rintro ⟨j, hj, e⟩
          exact ⟨j, by omega, e⟩
        · rintro ⟨j, hj, e⟩
          by_cases hjm : j = m
          · subst hjm
            have hh : ¬ (j = 0 ∨ d[j]! ≠ d[j - 1]!) := by unfold keeps at hk; exact of_decide_eq_false hk
            have h0 : j ≠ 0 := fun e => hh (Or.inl e)
            have h3 : d[j]! = d[j - 1]! := Classical.byContradiction fun e => hh (Or.inr e)
            exact ⟨j - 1, by omega, by rw [← h3]; exact e⟩
          · exact ⟨j, by omega, e⟩
  obtain ⟨h1, h2⟩ := key d.size (Nat.le_refl _)
  refine ⟨h1, fun x => (h2 x).trans ?_⟩
  rw [List.mem_iff_getElem]
  constructor
  · rintro ⟨j, hj, e⟩
    exact ⟨j, by simpa using hj, by rw [← e, getElem!_pos d j hj]; simp⟩
  · rintro ⟨j, hj, e⟩
    have hj' : j < d.size := by simpa using hj
    exact ⟨j, hj', by rw [getElem!_pos d j hj', ← e]; simp⟩

end Go.Proofs.Ytinmagodckkedab

/-
  An element written over in a row of its own, for elements of one cell and of two.
-/
namespace Go.Proofs.Ytinmagodckkedab
open Go.RowKit Go.Lib

theorem Kind.set2 {α : Type} {K : Kind α} (hk : K.k = 2) (d : List α) (i : Nat) (h : i < d.length) (x : α) (a b : Value) (he : K.enc x = [a, b]) : K.cells (d.set i x) = ((K.cells d).set (i * 2) a).set (i * 2 + 1) b := by
  apply List.ext_getElem?
  intro j
  rw [K.cells_set d i h x j]
  have hl : (K.cells d).length = d.length * 2 := by rw [K.cells_len, hk]
  rw [hk, he]
  simp only [List.getElem?_set, List.length_set, hl]
  by_cases h0 : j = i * 2
  · subst h0
    simp
    omega
  · by_cases h1 : j = i * 2 + 1
    · subst h1
      simp
      omega
    · rw [if_neg (by omega), if_neg (fun e => h1 e.symm), if_neg (fun e => h0 e.symm)]

theorem Kind.set1 {α : Type} {K : Kind α} (hk : K.k = 1) (d : List α) (i : Nat) (h : i < d.length) (x : α) (a : Value) (he : K.enc x = [a]) : K.cells (d.set i x) = (K.cells d).set i a := by
  apply List.ext_getElem?
  intro j
  rw [K.cells_set d i h x j]
  have hl : (K.cells d).length = d.length := by rw [K.cells_len, hk, Nat.mul_one]
  rw [hk, he]
  simp only [List.getElem?_set, hl, Nat.mul_one]
  by_cases h0 : j = i
  · subst h0
    simp
    omega
  · rw [if_neg (by omega), if_neg (fun e => h0 e.symm)]

/-- An element of two cells written over. -/
theorem Kind.own_put2 {α : Type} {K : Kind α} (hk : K.k = 2) {n0 g n cap : Nat} {w : World} {d : List α} (h : K.Own n0 w (.slice (some ⟨g, 0, none⟩) n cap) d) (hn : d.length = n) (i : Nat) (hi : i < d.length) (x : α) (a b : Value) (he : K.enc x = [a, b]) :
    K.Own n0 ((w.setCell ⟨g, i * 2, none⟩ a).setCell ⟨g, i * 2 + 1, none⟩ b) (.slice (some ⟨g, 0, none⟩) n cap) (d.set i x) := by
  subst hn
  have h1 := World.ownsRow.stored h (i * 2) a
  have h2 := World.ownsRow.stored h1.1 (i * 2 + 1) b
  unfold Kind.Own
  rw [Kind.set2 hk d i hi x a b he, List.length_set]
  exact h2.1

/-- An element of one cell written over. -/
theorem Kind.own_put1 {α : Type} {K : Kind α} (hk : K.k = 1) {n0 g n cap : Nat} {w : World} {d : List α} (h : K.Own n0 w (.slice (some ⟨g, 0, none⟩) n cap) d) (hn : d.length = n) (i : Nat) (hi : i < d.length) (x : α) (a : Value) (he : K.enc x = [a]) :
    K.Own n0 (w.setCell ⟨g, i, none⟩ a) (.slice (some ⟨g, 0, none⟩) n cap) (d.set i x) := by
  subst hn
  have h1 := World.ownsRow.stored h i a
  unfold Kind.Own
  rw [Kind.set1 hk d i hi x a he, List.length_set]
  exact h1.1

/-- A row that is not empty lies in a block of its own, whose cells may be written. -/
theorem Kind.own_form {α : Type} {K : Kind α} {n0 n c : Nat} {w : World} {q : Option Addr} {d : List α} (h : K.Own n0 w (.slice q n c) d) (h0 : 0 < d.length) : ∃ g, q = some ⟨g, 0, none⟩ ∧ n0 ≤ g ∧ d.length = n ∧ K.At w g 0 d ∧ ∀ j, w.frozen? ⟨g, j, none⟩ = false := by
  rcases h.2 with ⟨_, h1⟩ | ⟨g, cap, cur, hv, hb, hg, _⟩
  · omega
  · injection hv with h1 h2 h3
    subst h1
    obtain ⟨p, c', he, hd⟩ := Kind.own_is h
    injection he with e1 e2 e3
    rcases hd with hd | ⟨b, off, hp, hat⟩
    · rw [hd] at h0; simp at h0
    · rw [← e1] at hp
      injection hp with hp
      injection hp with hp1 hp2
      subst hp1 hp2
      exact ⟨g, rfl, hb, h2.symm, hat, fun j => Lib.frozen_of_heap hg _⟩

/-- One more in its place, by shifting: what a list is between two rounds of the shift. -/
theorem shift_step {α : Type} (l : List α) (y : α) (p i : Nat) (hp : p < i) (hi : i ≤ l.length) :
    (l.take i ++ y :: l.drop i).set i (l[i - 1]'(by omega)) = l.take (i - 1) ++ (l[i - 1]'(by omega)) :: l.drop (i - 1) := by
  obtain ⟨k, rfl⟩ : ∃ k, i = k + 1 := ⟨i - 1, by omega⟩
  have hk : k < l.length := by omega
  apply List.ext_getElem?
  intro j
  have h1 : (l.take (k + 1)).length = k + 1 := by rw [List.length_take]; omega
  have h2 : (l.take k).length = k := by rw [List.length_take]; omega
  simp only [Nat.add_sub_cancel]
  rw [List.getElem?_set]
  by_cases hj : k + 1 = j
  · subst hj
    rw [if_pos rfl, if_pos (by rw [List.length_append, h1]; simp), List.getElem?_append_right (by omega), h2]
    simp [List.getElem?_drop, hk]
  · rw [if_neg hj]
    by_cases hlt : j < k
    · rw [List.getElem?_append_left (by omega), List.getElem?_append_left (by omega), List.getElem?_take, List.getElem?_take, if_pos (by omega), if_pos hlt]
    · by_cases he : j = k
      · subst he
        rw [List.getElem?_append_left (by omega), List.getElem?_append_right (by omega), h2, List.getElem?_take, if_pos (by omega)]
        simp [hk]
      · have hgt : k + 1 < j := by omega
        obtain ⟨m, rfl⟩ : ∃ m, j = k + 2 + m := ⟨j - (k + 2), by omega⟩
        rw [List.getElem?_append_right (by omega), List.getElem?_append_right (by omega), h1, h2, show k + 2 + m - (k + 1) = m + 1 by omega, show k + 2 + m - k = m + 1 + 1 by omega, List.getElem?_cons_succ, List.getElem?_cons_succ, List.getElem?_drop, List.getElem?_drop]
        congr 1
        omega

end Go.Proofs.Ytinmagodckkedab

/-
  What references mean (stage 5): the mathematics, without the program.
-/
namespace Go.Proofs.Ytinmagodckkedab
open Go.RowKit Go.Lib

/-- The text up to the first slash, and behind it. -/
def cutS : List UInt8 → Option (List UInt8 × List UInt8)
  | [] => none
  | c :: r => if c = 47 then some ([], r) else (cutS r).map fun x => (c :: x.1, x.2)

theorem cutS_some {l a b : List UInt8} (h : cutS l = some (a, b)) : l = a ++ 47 :: b ∧ (47 : UInt8) ∉ a := by
  induction l generalizing a with
  | nil => simp [cutS] at h
  | cons c r ih =>
    unfold cutS at h
    by_cases hc : c = 47
    · rw [if_pos hc] at h
      simp at h
      obtain ⟨rfl, rfl⟩ := h
      simp [hc]
    · rw [if_neg hc] at h
      cases hr : cutS r with
      | none => rw [hr] at h; simp at h
      | some x =>
        obtain ⟨a1, b1⟩ := x
        rw [hr] at h
        simp at h
        obtain ⟨rfl, rfl⟩ := h
        obtain ⟨e, hn⟩ := ih hr
        rw [e]
        refine ⟨rfl, ?_⟩
        simp only [List.mem_cons, not_or]
        exact ⟨fun h => hc h.symm, hn⟩

theorem cutS_of {a b : List UInt8} (h : (47 : UInt8) ∉ a) : cutS (a ++ 47 :: b) = some (a, b) := by
  induction a with
  | nil => simp [cutS]
  | cons c r ih =>
    simp only [List.mem_cons, not_or] at h
    simp only [List.cons_append, cutS]
    rw [if_neg (fun e => h.1 e.symm), ih h.2]
    rfl

def keyL (k : List UInt8 × List UInt8) : Bool := typeB k.1 && idenB k.2

/-- The key of a text. -/
def parseS (l : List UInt8) : Option (List UInt8 × List UInt8) :=
  match cutS l with
  | some k => if keyL k then some k else none
  | none => none

/-- The key that a text names; the temporary name that it names. -/
def namedS : List UInt8 → Option (List UInt8 × List UInt8)
  | 42 :: r => parseS r
  | _ => none

def tempS : List UInt8 → Option (List UInt8)
  | 42 :: 64 :: r => if tempB r then some r else none
  | _ => none

/-- A key's reference. -/
def refS (k : List UInt8 × List UInt8) : List UInt8 := 42 :: (k.1 ++ 47 :: k.2)

theorem type_slash {l : List UInt8} (h : typeB l = true) : (47 : UInt8) ∉ l := by
  cases l with
  | nil => simp
  | cons c r =>
    simp only [typeB, spell, Bool.and_eq_true, List.all_eq_true] at h
    intro hm
    rcases List.mem_cons.1 hm with rfl | hm
    · exact absurd h (by simp [bigB])
    · have := h.2 _ hm
      revert this
      simp [letB, bigB, smallB]

theorem parseS_some {l : List UInt8} {k : List UInt8 × List UInt8} (h : parseS l = some k) : l = k.1 ++ 47 :: k.2 ∧ keyL k = true := by
  unfold parseS at h
  cases hc : cutS l with
  | none => rw [hc] at h; cases h
  | some x =>
    rw [hc] at h
    simp only at h
    split at h
    · next hk =>
      cases h
      exact ⟨(cutS_some hc).1, hk⟩
    · cases h

theorem parseS_of {k : List UInt8 × List UInt8} (h : keyL k = true) : parseS (k.1 ++ 47 :: k.2) = some k := by
  have ht : typeB k.1 = true := by simp only [keyL, Bool.and_eq_true] at h; exact h.1
  unfold parseS
  rw [cutS_of (type_slash ht)]
  simp [h]

theorem named_ref {k : List UInt8 × List UInt8} (h : keyL k = true) : namedS (refS k) = some k := parseS_of h

theorem named_some {l : List UInt8} {k : List UInt8 × List UInt8} (h : namedS l = some k) : l = refS k ∧ keyL k = true := by
  unfold namedS at h
  split at h
  · obtain ⟨h1, h2⟩ := parseS_some h
    exact ⟨by rw [h1]; rfl, h2⟩
  · cases h

theorem temp_some {l n : List UInt8} (h : tempS l = some n) : l = 42 :: 64 :: n ∧ tempB n = true := by
  unfold tempS at h
  split at h
  · split at h
    · next hk => cases h; exact ⟨rfl, hk⟩
    · cases h
  · cases h

theorem temp_of {n : List UInt8} (h : tempB n = true) : tempS (42 :: 64 :: n) = some n := by simp [tempS, h]

/-- No reference to a key is a temporary one. -/
theorem temp_ref {k : List UInt8 × List UInt8} (h : keyL k = true) : tempS (refS k) = none := by
  cases ht : tempS (refS k) with
  | none => rfl
  | some n =>
    obtain ⟨e, _⟩ := temp_some ht
    exfalso
    simp only [keyL, Bool.and_eq_true] at h
    obtain ⟨a, b⟩ := k
    cases a with
    | nil => simp [typeB, spell] at h
    | cons c r =>
      simp only [refS, List.cons_append, List.cons.injEq, true_and] at e
      obtain ⟨rfl, _⟩ := e
      simp [typeB, spell, bigB] at h

theorem named_temp {l : List UInt8} {k : List UInt8 × List UInt8} (h : namedS l = some k) : tempS l = none := by
  obtain ⟨rfl, hk⟩ := named_some h
  exact temp_ref hk

/-! Names of keys and binds, as the program holds them. -/

abbrev Ky := ByteArray × ByteArray
abbrev Bd := ByteArray × Ky

def Ky.l (k : Ky) : List UInt8 × List UInt8 := (k.1.data.toList, k.2.data.toList)
def bytesL (l : List UInt8) : ByteArray := ⟨l.toArray⟩
theorem bytesL_list (l : List UInt8) : (bytesL l).data.toList = l := rfl
theorem bytesL_of (b : ByteArray) : bytesL b.data.toList = b := rfl

def keyOK (k : Ky) : Bool := keyL k.l
def namedT (t : ByteArray) : Option Ky := (namedS t.data.toList).map fun k => (bytesL k.1, bytesL k.2)
def tempT (t : ByteArray) : Option ByteArray := (tempS t.data.toList).map bytesL
def refT (k : Ky) : ByteArray := bytesL (refS k.l)

theorem namedT_ref {k : Ky} (h : keyOK k = true) : namedT (refT k) = some k := by
  unfold namedT refT
  rw [bytesL_list, named_ref h]
  rfl

theorem namedT_some {t : ByteArray} {k : Ky} (h : namedT t = some k) : t = refT k ∧ keyOK k = true := by
  unfold namedT at h
  cases hn : namedS t.data.toList with
  | none => rw [hn] at h; cases h
  | some x =>
    rw [hn] at h
    simp only [Option.map_some, Option.some.injEq] at h
    subst h
    obtain ⟨h1, h2⟩ := named_some hn
    exact ⟨by rw [← bytesL_of t, h1]; rfl, h2⟩

theorem tempT_ref {k : Ky} (h : keyOK k = true) : tempT (refT k) = none := by
  unfold tempT refT
  rw [bytesL_list, temp_ref h]
  rfl

theorem namedT_temp {t : ByteArray} {k : Ky} (h : namedT t = some k) : tempT t = none := by
  obtain ⟨rfl, hk⟩ := namedT_some h
  exact tempT_ref hk

theorem refT_inj {a b : Ky} (ha : keyOK a = true) (hb : keyOK b = true) (h : refT a = refT b) : a = b := by
  have := namedT_ref ha
  rw [h, namedT_ref hb] at this
  exact (Option.some.inj this).symm

/-! Rename. -/

def renT (a b : Ky) (t : ByteArray) : ByteArray := if namedT t = some a then refT b else t
def mapT (g : ByteArray → ByteArray) (fs : List Fld) : List Fld := fs.map fun f => (f.1, f.2.map g)
def pointsF (fs : List Fld) (k : Ky) : Prop := ∃ f ∈ fs, ∃ t ∈ f.2, namedT t = some k

theorem points_map {g : ByteArray → ByteArray} {fs : List Fld} {k : Ky} : pointsF (mapT g fs) k ↔ ∃ f ∈ fs, ∃ t ∈ f.2, namedT (g t) = some k := by
  unfold pointsF mapT
  constructor
  · rintro ⟨f, hf, t, ht, h⟩
    obtain ⟨f0, h0, rfl⟩ := List.mem_map.1 hf
    obtain ⟨t0, h1, rfl⟩ := List.mem_map.1 ht
    exact ⟨f0, h0, t0, h1, h⟩
  · rintro ⟨f, hf, t, ht, h⟩
    exact ⟨_, List.mem_map.2 ⟨f, hf, rfl⟩, _, List.mem_map.2 ⟨t, ht, rfl⟩, h⟩

theorem ren_named {a b k : Ky} (hb : keyOK b = true) (hab : a ≠ b) (t : ByteArray) : namedT (renT a b t) = some k ↔ (namedT t = some k ∧ k ≠ a) ∨ (k = b ∧ namedT t = some a) := by
  unfold renT
  split
  · next h =>
    rw [namedT_ref hb, h]
    constructor
    · intro e
      exact Or.inr ⟨(Option.some.inj e).symm, rfl⟩
    · rintro (⟨e, hk⟩ | ⟨rfl, _⟩)
      · exact absurd (Option.some.inj e).symm hk
      · rfl
  · next h =>
    constructor
    · intro e
      exact Or.inl ⟨e, fun hk => h (by rw [e, hk])⟩
    · rintro (⟨e, _⟩ | ⟨_, e⟩)
      · exact e
      · exact absurd e h

theorem ren_from {a b : Ky} (hb : keyOK b = true) (hab : a ≠ b) (fs : List Fld) : ¬ pointsF (mapT (renT a b) fs) a := by
  rw [points_map]
  rintro ⟨f, _, t, _, h⟩
  rcases (ren_named hb hab t).1 h with ⟨_, h2⟩ | ⟨h1, _⟩
  · exact h2 rfl
  · exact hab h1

theorem ren_to {a b : Ky} (hb : keyOK b = true) (hab : a ≠ b) (fs : List Fld) : pointsF (mapT (renT a b) fs) b ↔ pointsF fs a ∨ pointsF fs b := by
  rw [points_map]
  constructor
  · rintro ⟨f, hf, t, ht, h⟩
    rcases (ren_named hb hab t).1 h with ⟨h1, _⟩ | ⟨_, h2⟩
    · exact Or.inr ⟨f, hf, t, ht, h1⟩
    · exact Or.inl ⟨f, hf, t, ht, h2⟩
  · rintro (⟨f, hf, t, ht, h⟩ | ⟨f, hf, t, ht, h⟩)
    · exact ⟨f, hf, t, ht, (ren_named hb hab t).2 (Or.inr ⟨rfl, h⟩)⟩
    · exact ⟨f, hf, t, ht, (ren_named hb hab t).2 (Or.inl ⟨h, fun e => hab e.symm⟩)⟩

theorem ren_back_text {a b : Ky} (hb : keyOK b = true) {t : ByteArray} (h : namedT t ≠ some b) : renT b a (renT a b t) = t := by
  unfold renT
  by_cases h1 : namedT t = some a
  · rw [if_pos h1, namedT_ref hb, if_pos rfl]
    exact (namedT_some h1).1.symm
  · rw [if_neg h1, if_neg h]

theorem map_same {fs : List Fld} {g : ByteArray → ByteArray} (h : ∀ f ∈ fs, ∀ t ∈ f.2, g t = t) : mapT g fs = fs := by
  unfold mapT
  conv => rhs; rw [← List.map_id fs]
  apply List.map_congr_left
  intro f hf
  have : f.2.map g = f.2 := by
    conv => rhs; rw [← List.map_id f.2]
    exact List.map_congr_left fun t ht => h f hf t ht
  rw [this]
  rfl

theorem map_map {fs : List Fld} {g h : ByteArray → ByteArray} : mapT g (mapT h fs) = mapT (g ∘ h) fs := by
  unfold mapT
  rw [List.map_map]
  apply List.map_congr_left
  intro f _
  simp

theorem ren_back {a b : Ky} (hb : keyOK b = true) {fs : List Fld} (h : ¬ pointsF fs b) : mapT (renT b a) (mapT (renT a b) fs) = fs := by
  rw [map_map]
  exact map_same fun f hf t ht => ren_back_text hb fun e => h ⟨f, hf, t, ht, e⟩

/-! Resolve. -/

def boundT (bs : List Bd) (n : ByteArray) : Option Ky := (bs.find? fun b => decide (b.1 = n)).map (·.2)

def resT (bs : List Bd) (t : ByteArray) : ByteArray :=
  match tempT t with
  | none => t
  | some n => match boundT bs n with
    | some k => refT k
    | none => t

def allBound (bs : List Bd) (fs : List Fld) : Prop := ∀ f ∈ fs, ∀ t ∈ f.2, ∀ n, tempT t = some n → (boundT bs n).isSome = true

theorem bound_mem {bs : List Bd} {n : ByteArray} {k : Ky} (h : boundT bs n = some k) : (n, k) ∈ bs := by
  unfold boundT at h
  cases hf : bs.find? fun b => decide (b.1 = n) with
  | none => rw [hf] at h; cases h
  | some b =>
    rw [hf] at h
    simp only [Option.map_some, Option.some.injEq] at h
    have h1 := List.find?_some hf
    have h2 := List.mem_of_find?_eq_some hf
    simp only [decide_eq_true_eq] at h1
    obtain ⟨b1, b2⟩ := b
    simp only at h h1
    subst h h1
    exact h2

theorem bound_of {bs : List Bd} (hn : (bs.map (·.1)).Nodup) {n : ByteArray} {k : Ky} (h : (n, k) ∈ bs) : boundT bs n = some k := by
  induction bs with
  | nil => cases h
  | cons b r ih =>
    rw [List.map_cons, List.nodup_cons] at hn
    unfold boundT
    rw [List.find?_cons]
    rcases List.mem_cons.1 h with e | h
    · subst e; simp
    · have hne : b.1 ≠ n := fun e => hn.1 (by rw [e]; exact List.mem_map.2 ⟨_, h, rfl⟩)
      rw [decide_eq_false hne]
      exact ih hn.2 h

/-- The order of binds is no matter. -/
theorem bound_turn {bs cs : List Bd} (h1 : (bs.map (·.1)).Nodup) (h2 : (cs.map (·.1)).Nodup) (hm : ∀ x, x ∈ bs ↔ x ∈ cs) (n : ByteArray) : boundT bs n = boundT cs n := by
  cases hb : boundT bs n with
  | some k => exact (bound_of h2 ((hm _).1 (bound_mem hb))).symm
  | none =>
    cases hc : boundT cs n with
    | none => rfl
    | some k => rw [bound_of h1 ((hm _).2 (bound_mem hc))] at hb; cases hb

theorem res_turn {bs cs : List Bd} (h1 : (bs.map (·.1)).Nodup) (h2 : (cs.map (·.1)).Nodup) (hm : ∀ x, x ∈ bs ↔ x ∈ cs) : resT bs = resT cs := by
  funext t
  unfold resT
  cases tempT t with
  | none => rfl
  | some n => simp only [bound_turn h1 h2 hm n]

/-- Behind Resolve there is no temporary reference. -/
theorem res_temp {bs : List Bd} (hk : ∀ b ∈ bs, keyOK b.2 = true) {t : ByteArray} (h : ∀ n, tempT t = some n → (boundT bs n).isSome = true) : tempT (resT bs t) = none := by
  unfold resT
  cases ht : tempT t with
  | none => exact ht
  | some n =>
    simp only
    cases hb : boundT bs n with
    | none => have := h n ht; rw [hb] at this; cases this
    | some k => exact tempT_ref (hk _ (bound_mem hb))

theorem res_stays {bs : List Bd} {t : ByteArray} (h : tempT t = none) : resT bs t = t := by unfold resT; rw [h]

theorem res_named {bs : List Bd} (hk : ∀ b ∈ bs, keyOK b.2 = true) {t n : ByteArray} (ht : tempT t = some n) (h : (boundT bs n).isSome = true) : ∃ k, boundT bs n = some k ∧ namedT (resT bs t) = some k := by
  cases hb : boundT bs n with
  | none => rw [hb] at h; cases h
  | some k =>
    refine ⟨k, rfl, ?_⟩
    unfold resT
    rw [ht]
    simp only [hb]
    exact namedT_ref (hk _ (bound_mem hb))

/-- Behind Resolve the keys are those that were there, and those of the names that were used. -/
theorem res_points {bs : List Bd} (hk : ∀ b ∈ bs, keyOK b.2 = true) {fs : List Fld} (h : allBound bs fs) (k : Ky) :
    pointsF (mapT (resT bs) fs) k ↔ pointsF fs k ∨ ∃ f ∈ fs, ∃ t ∈ f.2, ∃ n, tempT t = some n ∧ boundT bs n = some k := by
  rw [points_map]
  constructor
  · rintro ⟨f, hf, t, ht, e⟩
    cases hn : tempT t with
    | none => rw [res_stays hn] at e; exact Or.inl ⟨f, hf, t, ht, e⟩
    | some n =>
      obtain ⟨k', hb, hk'⟩ := res_named hk hn (h f hf t ht n hn)
      rw [hk'] at e
      exact Or.inr ⟨f, hf, t, ht, n, hn, by rw [hb]; exact e⟩
  · rintro (⟨f, hf, t, ht, e⟩ | ⟨f, hf, t, ht, n, hn, e⟩)
    · exact ⟨f, hf, t, ht, by rw [res_stays (namedT_temp e)]; exact e⟩
    · obtain ⟨k', hb, hk'⟩ := res_named hk hn (by rw [e]; rfl)
      rw [hb] at e
      exact ⟨f, hf, t, ht, by rw [hk']; exact e⟩

end Go.Proofs.Ytinmagodckkedab

/-
  Rising lists (stage 5): one more in its place; the keys and the temporary names of a value.
-/
namespace Go.Proofs.Ytinmagodckkedab
open Go.RowKit Go.Lib

structure Tot {α : Type} (lt : α → α → Bool) : Prop where
  irr : ∀ a, lt a a = false
  tr : ∀ a b c, lt a b = true → lt b c = true → lt a c = true
  tot : ∀ a b, lt a b = true ∨ a = b ∨ lt b a = true

def RisingR {α : Type} (lt : α → α → Bool) (l : List α) : Prop := l.Pairwise fun x y => lt x y = true

def insR {α : Type} [DecidableEq α] (lt : α → α → Bool) (x : α) : List α → List α
  | [] => [x]
  | y :: r => if lt x y then x :: y :: r else if x = y then y :: r else y :: insR lt x r

theorem mem_insR {α : Type} [DecidableEq α] (lt : α → α → Bool) (x z : α) (l : List α) : z ∈ insR lt x l ↔ z = x ∨ z ∈ l := by
  induction l with
  | nil => simp [insR]
  | cons y r ih =>
    unfold insR
    split
    · simp
    · split
      · next h => subst h; simp
      · rw [List.mem_cons, ih, List.mem_cons]
        constructor
        · rintro (h | h | h)
          · exact Or.inr (Or.inl h)
          · exact Or.inl h
          · exact Or.inr (Or.inr h)
        · rintro (h | h | h)
          · exact Or.inr (Or.inl h)
          · exact Or.inl h
          · exact Or.inr (Or.inr h)

theorem rising_insR {α : Type} [DecidableEq α] {lt : α → α → Bool} (T : Tot lt) (x : α) {l : List α} (h : RisingR lt l) : RisingR lt (insR lt x l) := by
  induction l with
  | nil => exact List.pairwise_cons.2 ⟨fun _ h => by simp at h, List.Pairwise.nil⟩
  | cons y r ih =>
    obtain ⟨h1, h2⟩ := List.pairwise_cons.1 h
    unfold insR
    split
    · next hx =>
      refine List.pairwise_cons.2 ⟨fun z hz => ?_, h⟩
      rcases List.mem_cons.1 hz with rfl | hz
      · exact hx
      · exact T.tr _ _ _ hx (h1 z hz)
    · next hx =>
      split
      · exact h
      · next hne =>
        refine List.pairwise_cons.2 ⟨fun z hz => ?_, ih h2⟩
        rcases (mem_insR lt x z r).1 hz with rfl | hz
        · rcases T.tot y z with h | h | h
          · exact h
          · exact absurd h.symm hne
          · exact absurd h hx
        · exact h1 z hz

theorem rising_uniqR {α : Type} {lt : α → α → Bool} (T : Tot lt) : ∀ {r s : List α}, RisingR lt r → RisingR lt s → (∀ x, x ∈ r ↔ x ∈ s) → r = s
  | [], [], _, _, _ => rfl
  | [], y :: s, _, _, h => by have := (h y).2 (by simp); simp at this
  | x :: r, [], _, _, h => by have := (h x).1 (by simp); simp at this
  | x :: r, y :: s, hr, hs, h => by
    obtain ⟨r1, r2⟩ := List.pairwise_cons.1 hr
    obtain ⟨s1, s2⟩ := List.pairwise_cons.1 hs
    have hxy : x = y := by
      rcases List.mem_cons.1 ((h x).1 (by simp)) with e | hx
      · exact e
      · rcases List.mem_cons.1 ((h y).2 (by simp)) with e | hy
        · exact e.symm
        · have h1 := T.tr _ _ _ (r1 y hy) (s1 x hx)
          rw [T.irr] at h1
          cases h1
    subst hxy
    rw [rising_uniqR T r2 s2 fun z => ?_]
    constructor
    · intro hz
      rcases List.mem_cons.1 ((h z).1 (List.mem_cons_of_mem _ hz)) with e | hz'
      · subst e; have := r1 z hz; rw [T.irr] at this; cases this
      · exact hz'
    · intro hz
      rcases List.mem_cons.1 ((h z).2 (List.mem_cons_of_mem _ hz)) with e | hz'
      · subst e; have := s1 z hz; rw [T.irr] at this; cases this
      · exact hz'

/-- One more, where the search has found its place. -/
theorem insR_at {α : Type} [DecidableEq α] {lt : α → α → Bool} (T : Tot lt) (x : α) : ∀ (l : List α) (p : Nat), p ≤ l.length → (∀ i, (h : i < p) → (h' : i < l.length) → lt l[i] x = true) → (∀ h : p < l.length, lt x l[p] = true) → insR lt x l = l.take p ++ x :: l.drop p
  | [], 0, _, _, _ => rfl
  | [], p + 1, h, _, _ => absurd h (by simp)
  | y :: r, 0, _, _, h2 => by
    have := h2 (by simp)
    simp only [List.getElem_cons_zero] at this
    unfold insR
    rw [if_pos this]
    rfl
  | y :: r, p + 1, h, h1, h2 => by
    have hy := h1 0 (by omega) (by simp)
    simp only [List.getElem_cons_zero] at hy
    have hxy : lt x y = false := by
      cases e : lt x y with
      | false => rfl
      | true => have := T.tr _ _ _ hy e; rw [T.irr] at this; cases this
    have hne : x ≠ y := fun e => by subst e; rw [T.irr] at hy; cases hy
    unfold insR
    rw [if_neg (by rw [hxy]; simp), if_neg hne, insR_at T x r p (by simpa using h) (fun i hi hi' => ?_) (fun hp => ?_)]
    · rfl
    · have := h1 (i + 1) (by omega) (by simpa using hi')
      simpa using this
    · have := h2 (by simpa using hp)
      simpa using this

/-- One that is there already. -/
theorem insR_there {α : Type} [DecidableEq α] {lt : α → α → Bool} (T : Tot lt) {x : α} {l : List α} (h : RisingR lt l) (hx : x ∈ l) : insR lt x l = l :=
  rising_uniqR T (rising_insR T x h) h fun z => by
    rw [mem_insR]
    exact ⟨fun hz => by rcases hz with rfl | hz <;> assumption, Or.inr⟩

/-- What a search by halves finds out at the place m. -/
theorem rising_low {α : Type} {lt : α → α → Bool} (T : Tot lt) {l : List α} (h : RisingR lt l) {x : α} {m : Nat} (hm : m < l.length) (hx : lt l[m] x = true) : ∀ i, (hi : i ≤ m) → lt (l[i]'(by omega)) x = true := by
  intro i hi
  rcases Nat.lt_or_eq_of_le hi with hlt | rfl
  · exact T.tr _ _ _ (List.pairwise_iff_getElem.1 h i m (by omega) hm hlt) hx
  · exact hx

theorem rising_high {α : Type} {lt : α → α → Bool} (T : Tot lt) {l : List α} (h : RisingR lt l) {x : α} {m : Nat} (hm : m < l.length) (hx : lt l[m] x = false) : ∀ i, (hi : m ≤ i) → (h' : i < l.length) → lt l[i] x = false := by
  intro i hi h'
  rcases Nat.lt_or_eq_of_le hi with hlt | rfl
  · cases e : lt l[i] x with
    | false => rfl
    | true =>
      have := T.tr _ _ _ (List.pairwise_iff_getElem.1 h m i hm h' hlt) e
      rw [hx] at this
      cases this
  · exact hx

/-- The place that a search by halves ends at: what is there already, or where it goes. -/
theorem put_there {α : Type} [DecidableEq α] {lt : α → α → Bool} (T : Tot lt) {l : List α} (h : RisingR lt l) {x : α} {p : Nat} (hp : p < l.length) (he : l[p] = x) : insR lt x l = l :=
  insR_there T h (by rw [← he]; exact List.getElem_mem hp)

theorem put_new {α : Type} [DecidableEq α] {lt : α → α → Bool} (T : Tot lt) {l : List α} {x : α} {p : Nat} (hp : p ≤ l.length) (h1 : ∀ i, (h : i < p) → (h' : i < l.length) → lt l[i] x = true) (h2 : ∀ h : p < l.length, lt l[p] x = false) (hne : ∀ h : p < l.length, l[p] ≠ x) :
    insR lt x l = l.take p ++ x :: l.drop p :=
  insR_at T x l p hp h1 fun h => by
    rcases T.tot x l[p] with e | e | e
    · exact e
    · exact absurd e.symm (hne h)
    · rw [h2 h] at e; cases e

theorem totB : Tot ltB := ⟨ltB_irrefl, fun _ _ _ => ltB_trans, ltB_cases⟩

def ltKy (a b : Ky) : Bool := ltB a.1 b.1 || (decide (a.1 = b.1) && ltB a.2 b.2)

theorem ltKy_true {a b : Ky} : ltKy a b = true ↔ ltB a.1 b.1 = true ∨ a.1 = b.1 ∧ ltB a.2 b.2 = true := by simp [ltKy]

theorem totK : Tot ltKy where
  irr a := by
    cases h : ltKy a a with
    | false => rfl
    | true =>
      rcases ltKy_true.1 h with h | ⟨_, h⟩
      · rw [ltB_irrefl] at h; cases h
      · rw [ltB_irrefl] at h; cases h
  tr a b c h k := by
    rw [ltKy_true] at *
    rcases h with h | ⟨h, h'⟩ <;> rcases k with k | ⟨k, k'⟩
    · exact Or.inl (ltB_trans h k)
    · exact Or.inl (by rw [← k]; exact h)
    · exact Or.inl (by rw [h]; exact k)
    · exact Or.inr ⟨h.trans k, ltB_trans h' k'⟩
  tot a b := by
    rw [ltKy_true, ltKy_true]
    rcases ltB_cases a.1 b.1 with h | h | h
    · exact Or.inl (Or.inl h)
    · rcases ltB_cases a.2 b.2 with k | k | k
      · exact Or.inl (Or.inr ⟨h, k⟩)
      · exact Or.inr (Or.inl (Prod.ext h k))
      · exact Or.inr (Or.inr (Or.inr ⟨h.symm, k⟩))
    · exact Or.inr (Or.inr (Or.inl h))

/-- All that is told by the texts, in order. -/
def toldBy {α : Type} [DecidableEq α] (lt : α → α → Bool) (g : ByteArray → Option α) (ts : List ByteArray) : List α :=
  ts.foldl (fun acc t => match g t with
    | some x => insR lt x acc
    | none => acc) []

theorem told_go {α : Type} [DecidableEq α] {lt : α → α → Bool} (T : Tot lt) (g : ByteArray → Option α) (ts : List ByteArray) : ∀ acc : List α, RisingR lt acc →
    RisingR lt (ts.foldl (fun acc t => match g t with | some x => insR lt x acc | none => acc) acc) ∧ ∀ z, z ∈ ts.foldl (fun acc t => match g t with | some x => insR lt x acc | none => acc) acc ↔ z ∈ acc ∨ ∃ t ∈ ts, g t = some z := by
  induction ts with
  | nil => intro acc h; exact ⟨h, fun z => by simp⟩
  | cons t r ih =>
    intro acc h
    simp only [List.foldl_cons]
    cases hg : g t with
    | none =>
      obtain ⟨h1, h2⟩ := ih acc h
      refine ⟨h1, fun z => ?_⟩
      rw [h2 z]
      constructor
      · rintro (h | ⟨u, hu, e⟩)
        · exact Or.inl h
        · exact Or.inr ⟨u, List.mem_cons_of_mem _ hu, e⟩
      · rintro (h | ⟨u, hu, e⟩)
        · exact Or.inl h
        · rcases List.mem_cons.1 hu with rfl | hu
          · rw [hg] at e; cases e
          · exact Or.inr ⟨u, hu, e⟩
    | some x =>
      obtain ⟨h1, h2⟩ := ih (insR lt x acc) (rising_insR T x h)
      refine ⟨h1, fun z => ?_⟩
      rw [h2 z, mem_insR]
      constructor
      · rintro ((rfl | h) | ⟨u, hu, e⟩)
        · exact Or.inr ⟨t, by simp, hg⟩
        · exact Or.inl h
        · exact Or.inr ⟨u, List.mem_cons_of_mem _ hu, e⟩
      · rintro (h | ⟨u, hu, e⟩)
        · exact Or.inl (Or.inr h)
        · rcases List.mem_cons.1 hu with rfl | hu
          · rw [hg] at e; exact Or.inl (Or.inl (Option.some.inj e).symm)
          · exact Or.inr ⟨u, hu, e⟩

theorem told_rising {α : Type} [DecidableEq α] {lt : α → α → Bool} (T : Tot lt) (g : ByteArray → Option α) (ts : List ByteArray) : RisingR lt (toldBy lt g ts) := (told_go T g ts [] List.Pairwise.nil).1
theorem told_mem {α : Type} [DecidableEq α] {lt : α → α → Bool} (T : Tot lt) (g : ByteArray → Option α) (ts : List ByteArray) (z : α) : z ∈ toldBy lt g ts ↔ ∃ t ∈ ts, g t = some z := by
  have := (told_go T g ts [] List.Pairwise.nil).2 z
  simpa [toldBy] using this

def textsF (fs : List Fld) : List ByteArray := fs.flatMap (·.2)
def keysF (fs : List Fld) : List Ky := toldBy ltKy namedT (textsF fs)
def tempsF (fs : List Fld) : List ByteArray := toldBy ltB tempT (textsF fs)

theorem mem_textsF {fs : List Fld} {t : ByteArray} : t ∈ textsF fs ↔ ∃ f ∈ fs, t ∈ f.2 := by simp [textsF]

/-- The keys of a value are those at which it points. -/
theorem mem_keysF {fs : List Fld} {k : Ky} : k ∈ keysF fs ↔ pointsF fs k := by
  unfold keysF pointsF
  rw [told_mem totK]
  constructor
  · rintro ⟨t, ht, h⟩
    obtain ⟨f, hf, h'⟩ := mem_textsF.1 ht
    exact ⟨f, hf, t, h', h⟩
  · rintro ⟨f, hf, t, ht, h⟩
    exact ⟨t, mem_textsF.2 ⟨f, hf, ht⟩, h⟩

theorem mem_tempsF {fs : List Fld} {n : ByteArray} : n ∈ tempsF fs ↔ ∃ f ∈ fs, ∃ t ∈ f.2, tempT t = some n := by
  unfold tempsF
  rw [told_mem totB]
  constructor
  · rintro ⟨t, ht, h⟩
    obtain ⟨f, hf, h'⟩ := mem_textsF.1 ht
    exact ⟨f, hf, t, h', h⟩
  · rintro ⟨f, hf, t, ht, h⟩
    exact ⟨t, mem_textsF.2 ⟨f, hf, ht⟩, h⟩

/-- Behind Resolve: no temporary name. -/
theorem res_tempsF {bs : List Bd} (hk : ∀ b ∈ bs, keyOK b.2 = true) {fs : List Fld} (h : allBound bs fs) : tempsF (mapT (resT bs) fs) = [] := by
  apply List.eq_nil_iff_forall_not_mem.2
  intro n hn
  obtain ⟨f, hf, t, ht, e⟩ := mem_tempsF.1 hn
  unfold mapT at hf
  obtain ⟨f0, h0, rfl⟩ := List.mem_map.1 hf
  obtain ⟨t0, h1, rfl⟩ := List.mem_map.1 ht
  rw [res_temp hk (h f0 h0 t0 h1)] at e
  cases e

end Go.Proofs.Ytinmagodckkedab

/-
  Rows of texts, keys and binds; rows cut short, sorted, written behind their end, whatever their kind.
-/
namespace Go.Proofs.Ytinmagodckkedab
open Go.RowKit Go.Sort Go.Lib

def encSt (x : ByteArray) : List Value := [.string x]
def KT : Kind ByteArray := ⟨9, 1, encSt, fun _ => rfl, by decide, fun x u hu => by simp [encSt] at hu; subst hu; rfl⟩
def encKy (x : Ky) : List Value := [.string x.1, .string x.2]
def KK : Kind Ky := ⟨33, 2, encKy, fun _ => rfl, by decide, fun x u hu => by simp [encKy] at hu; rcases hu with rfl | rfl <;> rfl⟩
def encBd (x : Bd) : List Value := [.string x.1, .string x.2.1, .string x.2.2]
def KB : Kind Bd := ⟨35, 3, encBd, fun _ => rfl, by decide, fun x u hu => by simp [encBd] at hu; rcases hu with rfl | rfl | rfl <;> rfl⟩

theorem kt_cells (d : List ByteArray) : KT.cells d = d.map Value.string := by
  induction d with
  | nil => rfl
  | cons x d ih =>
    have : KT.cells (x :: d) = Value.string x :: KT.cells d := rfl
    rw [this, ih]; rfl

theorem kt_own {n0 : Nat} {w : World} {v : Value} {d : List ByteArray} : KT.Own n0 w v d ↔ OwnT n0 w v d := by
  unfold Kind.Own OwnT
  rw [kt_cells]
  rfl

theorem kt_at {w : World} {b off : Nat} {d : List ByteArray} : KT.At w b off d ↔ ∀ i, (h : i < d.length) → w.cell? ⟨b, off + i, none⟩ = some (.string d[i]) := by
  constructor
  · intro h i hi
    have := h i hi 0 (.string d[i]) rfl
    have e : off + i * KT.k + 0 = off + i := by show off + i * 1 + 0 = _; omega
    rwa [e] at this
  · intro h i hi j u hu
    have hj : j = 0 := by
      have := (List.getElem?_eq_some_iff.1 hu).1
      have hl : (KT.enc d[i]).length = 1 := rfl
      omega
    subst hj
    have e : off + i * KT.k + 0 = off + i := by show off + i * 1 + 0 = _; omega
    rw [e, h i hi]
    exact hu

theorem kt_txt {w : World} {p : Option Addr} {d : List ByteArray} : TxtAt w p d ↔ (d = [] ∨ ∃ b off, p = some ⟨b, off, none⟩ ∧ KT.At w b off d) := by
  unfold TxtAt
  constructor
  · rintro (h | ⟨b, off, hp, h⟩)
    · exact Or.inl h
    · exact Or.inr ⟨b, off, hp, kt_at.2 h⟩
  · rintro (h | ⟨b, off, hp, h⟩)
    · exact Or.inl h
    · exact Or.inr ⟨b, off, hp, kt_at.1 h⟩

theorem kk_at {w : World} {b off : Nat} {d : List Ky} (h : KK.At w b off d) (i : Nat) (hi : i < d.length) : w.cell? ⟨b, off + i * 2, none⟩ = some (.string d[i].1) ∧ w.cell? ⟨b, off + i * 2 + 1, none⟩ = some (.string d[i].2) :=
  ⟨h i hi 0 _ rfl, h i hi 1 _ rfl⟩

theorem kb_at {w : World} {b off : Nat} {d : List Bd} (h : KB.At w b off d) (i : Nat) (hi : i < d.length) : w.cell? ⟨b, off + i * 3, none⟩ = some (.string d[i].1) ∧ w.cell? ⟨b, off + i * 3 + 1, none⟩ = some (.string d[i].2.1) ∧ w.cell? ⟨b, off + i * 3 + 2, none⟩ = some (.string d[i].2.2) :=
  ⟨h i hi 0 _ rfl, h i hi 1 _ rfl, h i hi 2 _ rfl⟩

theorem Kind.take_cells {α : Type} (K : Kind α) : ∀ (d : List α) (k : Nat), K.cells (d.take k) = (K.cells d).take (k * K.k)
  | [], k => by simp [Kind.cells]
  | x :: d, 0 => by simp [Kind.cells]
  | x :: d, k + 1 => by
    have e1 : K.cells (x :: d) = K.enc x ++ K.cells d := rfl
    have e2 : K.cells ((x :: d).take (k + 1)) = K.enc x ++ K.cells (d.take k) := rfl
    have h1 : (K.enc x).take (k * K.k + K.k) = K.enc x := List.take_of_length_le (by rw [K.len]; omega)
    rw [e1, e2, K.take_cells d k, Nat.add_mul, Nat.one_mul, List.take_append, h1, K.len, Nat.add_sub_cancel]

/-- The row cut short. -/
theorem Kind.own_cut {α : Type} {K : Kind α} {n0 g n cap : Nat} {w : World} {d : List α} (h : K.Own n0 w (.slice (some ⟨g, 0, none⟩) n cap) d) (k : Nat) (hk : k ≤ d.length) :
    K.Own n0 w (.slice (some ⟨g, 0, none⟩) k cap) (d.take k) := by
  have hl : (d.take k).length = k := by rw [List.length_take]; omega
  rcases h.2 with ⟨hv, _⟩ | ⟨g', cap', cur, hv, h1, h2, h3, h4, h5, h6⟩
  · cases hv
  · injection hv with e1 e2 e3
    injection e1 with e1
    injection e1 with e1 _ _
    subst e1 e3
    refine ⟨by rw [K.cells_len], Or.inr ⟨g, cap, cur, by rw [hl], h1, h2, by rw [hl]; omega, h4, h5, ?_⟩⟩
    rw [hl, K.take_cells, ← h6, List.take_take]
    congr 1
    have := Nat.mul_le_mul_right K.k hk
    omega

/-- Cells behind the row's end written over. -/
theorem Kind.own_past {α : Type} {K : Kind α} {n0 g n cap : Nat} {d : List α} (vs : List Value) : ∀ (w : World) (o : Nat), K.Own n0 w (.slice (some ⟨g, 0, none⟩) n cap) d → d.length = n → n * K.k ≤ o → K.Own n0 (w.setCells g o vs) (.slice (some ⟨g, 0, none⟩) n cap) d := by
  induction vs with
  | nil => intro w o h _ _; exact h
  | cons v vs ih =>
    intro w o h hn ho
    rw [World.setCells]
    refine ih _ _ ?_ hn (by omega)
    subst hn
    have h1 := (World.ownsRow.stored h o v).1
    rw [List.set_eq_of_length_le (by rw [K.cells_len]; exact ho)] at h1
    exact h1

theorem Kind.flat {α : Type} [Inhabited α] (K : Kind α) (d : List α) (t : Nat) (h : t < d.length * K.k) : (K.cells d)[t]? = some (K.enc d[t / K.k]!)[t % K.k]! := by
  have hq : t / K.k < d.length := (Nat.div_lt_iff_lt_mul K.pos).2 h
  have hm : t % K.k < K.k := Nat.mod_lt _ K.pos
  have e : t / K.k * K.k + t % K.k = t := by rw [Nat.mul_comm]; exact Nat.div_add_mod t K.k
  have h1 := K.cells_get d (t / K.k) hq (t % K.k) hm
  rw [e] at h1
  rw [h1, getElem!_pos d (t / K.k) hq, List.getElem?_eq_getElem (by rw [K.len]; exact hm), getElem!_pos _ _ (by rw [K.len]; exact hm)]

theorem Kind.own_holds {α : Type} [Inhabited α] {K : Kind α} {n0 g n cap : Nat} {w : World} {d : List α} (h : K.Own n0 w (.slice (some ⟨g, 0, none⟩) n cap) d) : HoldsK K.enc K.k w g 0 d.toArray := by
  rcases h.2 with ⟨hv, _⟩ | ⟨g', cap', cur, hv, h1, h2, h3, h4, h5, h6⟩
  · cases hv
  · injection hv with e1 e2 e3
    injection e1 with e1
    injection e1 with e1 _ _
    subst e1
    intro j hj
    rw [size_flatK] at hj
    have hj' : j < d.length * K.k := by simpa using hj
    have hg := K.flat d j hj'
    rw [← h6, List.getElem?_take_of_lt hj'] at hg
    rw [get_flatK _ _ _ _ hj]
    constructor
    · simp only [World.cell?, h2, Nat.zero_add]
      have hq : j / K.k < d.length := (Nat.div_lt_iff_lt_mul K.pos).2 hj'
      have he : d[j / K.k]! = d.toArray[j / K.k]! := by
        rw [getElem!_pos d (j / K.k) hq, getElem!_pos d.toArray (j / K.k) (by simpa using hq)]; simp
      rw [← Array.getElem?_toList, hg, he]
      rfl
    · simp [World.frozen?, h2]

theorem below_sortK {α : Type} [Inhabited α] (enc : α → List Value) (k : Nat) {B : Nat} {w0 w : World} (h : Below B w0 w) (hB : B ≤ w.heap.size) (blk off n : Nat) (d : Array α) (os : Array Obj) (hb : B ≤ blk) : Below B w0 (sortWorldK enc k w blk off n d os) := by
  refine h.trans ⟨rfl, rfl, rfl, ?_, ?_⟩
  · simp [sortWorldK, putRowK]
  · intro k' hk
    have hks : k' < w.heap.size := by omega
    simp only [sortWorldK, Sort.grow, putRowK, putRow, mapBlock, Sort.ahead]
    rw [Array.getElem?_append_left (by simpa using hks), Array.getElem?_modify, if_neg (by omega)]

/-- A row whose elements have been put in another order. -/
theorem Kind.own_sorted {α : Type} [Inhabited α] {K : Kind α} {n0 g n cap : Nat} {w : World} {d : List α} (h : K.Own n0 w (.slice (some ⟨g, 0, none⟩) n cap) d) (e : Array α) (he : e.size = d.length) (m : Nat) (os : Array Obj) :
    K.Own n0 (sortWorldK K.enc K.k w g 0 m e os) (.slice (some ⟨g, 0, none⟩) n cap) e.toList := by
  have hH := K.own_holds h
  rcases h.2 with ⟨hv, _⟩ | ⟨g', cap', cur, hv, h1, h2, h3, h4, h5, h6⟩
  · cases hv
  · injection hv with e1 e2 e3
    injection e1 with e1
    injection e1 with e1 _ _
    subst e1 e2 e3
    have hgl := (Array.getElem?_eq_some_iff.1 h2).1
    have hl : e.toList.length = d.length := by simpa using he
    have hheap : (sortWorldK K.enc K.k w g 0 m e os).heap[g]? = some (.cells (putCells id 0 (flatK K.enc K.k e) cur) K.T (0, 0)) := by
      simp only [sortWorldK, Sort.grow, putRowK, putRow, mapBlock, Sort.ahead]
      rw [Array.getElem?_append_left (by simpa using hgl), Array.getElem?_modify, if_pos rfl, h2]
      rfl
    have hH2 : HoldsK K.enc K.k (sortWorldK K.enc K.k w g 0 m e os) g 0 e := by
      exact holdsK_grow K.enc K.k _ os g 0 _ (by simpa [putRowK] using hgl) (holdsK_putRowK K.enc K.k (Sort.ahead w m) g 0 _ _ (holdsK_ahead K.enc K.k w m g 0 _ hH) (by simpa using he))
    have hsz : (putCells id 0 (flatK K.enc K.k e) cur).size = cur.size := by simp [putCells]
    refine ⟨by rw [K.cells_len], Or.inr ⟨g, cap, _, by rw [hl], h1, hheap, by rw [hl]; exact h3, h4, by rw [hsz]; exact h5, ?_⟩⟩
    apply List.ext_getElem?
    intro j
    rw [hl, List.getElem?_take]
    by_cases hj : j < d.length * K.k
    · have hje : j < e.size * K.k := by rw [he]; exact hj
      rw [if_pos hj, K.flat e.toList j (by rw [hl]; exact hj)]
      have := (hH2 j (by rw [size_flatK]; exact hje)).1
      rw [get_flatK _ _ _ _ (by first | exact hje | (rw [size_flatK]; exact hje))] at this
      simp only [World.cell?, hheap, Nat.zero_add] at this
      simp only [Option.isSome_none, Bool.false_eq_true, if_false] at this
      rw [Array.getElem?_toList, this]
      have hq : j / K.k < e.size := (Nat.div_lt_iff_lt_mul K.pos).2 hje
      have he2 : e.toList[j / K.k]! = e[j / K.k]! := by
        rw [getElem!_pos e (j / K.k) hq, getElem!_pos e.toList (j / K.k) (by simpa using hq)]; simp
      rw [he2]
      rfl
    · rw [if_neg hj, List.getElem?_eq_none]
      rw [K.cells_len, hl]
      omega

theorem Kind.own_ge {α : Type} {K : Kind α} {n0 g n cap : Nat} {w : World} {d : List α} (h : K.Own n0 w (.slice (some ⟨g, 0, none⟩) n cap) d) : n0 ≤ g ∧ g < w.heap.size ∧ d.length ≤ cap ∧ cap ≤ maxLen := by
  rcases h.2 with ⟨hv, _⟩ | ⟨g', cap', cur, hv, h1, h2, h3, h4, _⟩
  · cases hv
  · injection hv with e1 e2 e3
    injection e1 with e1
    injection e1 with e1 _ _
    subst e1 e3
    exact ⟨h1, (Array.getElem?_eq_some_iff.1 h2).1, h3, h4⟩

theorem Kind.own_drew {α : Type} {K : Kind α} {n0 : Nat} {w : World} {v : Value} {d : List α} (h : K.Own n0 w v d) (q : Nat) : K.Own n0 (w.drewN q) v d := h

theorem Kind.own_some {α : Type} [Inhabited α] {K : Kind α} {n0 g n cap : Nat} {w : World} {d : List α} (h : K.Own n0 w (.slice (some ⟨g, 0, none⟩) n cap) d) (t : Nat) (ht : t < d.length * K.k) :
    (w.cell? ⟨g, t, none⟩).isSome = true ∧ w.frozen? ⟨g, t, none⟩ = false := by
  have := K.own_holds h t (by rw [size_flatK]; simpa using ht)
  rw [Nat.zero_add] at this
  exact ⟨by rw [this.1]; rfl, this.2⟩

/-- An element's cells in a row of its own. -/
theorem Kind.own_at {α : Type} {K : Kind α} {n0 g n cap : Nat} {w : World} {d : List α} (h : K.Own n0 w (.slice (some ⟨g, 0, none⟩) n cap) d) : K.At w g 0 d := by
  by_cases h0 : 0 < d.length
  · obtain ⟨g', e, _, _, hat, _⟩ := Kind.own_form h h0
    cases e
    exact hat
  · intro i hi; omega

theorem Kind.own_free {α : Type} {K : Kind α} {n0 g n cap : Nat} {w : World} {d : List α} (h : K.Own n0 w (.slice (some ⟨g, 0, none⟩) n cap) d) (j : Nat) : w.frozen? ⟨g, j, none⟩ = false := by
  rcases h.2 with ⟨hv, _⟩ | ⟨g', cap', cur, hv, h1, h2, _⟩
  · cases hv
  · injection hv with e1 e2 e3
    injection e1 with e1
    injection e1 with e1 _ _
    subst e1
    exact Lib.frozen_of_heap h2 _

theorem Kind.newsN {α : Type} (K : Kind α) (W : World) (x : α) (N : Nat) (hN : N = W.heap.size) : ∀ j u, (K.cells [x])[j]? = some u → (W.alloc (.cells (K.enc x).toArray K.T)).cell? ((⟨N, 0, none⟩ : Addr).add j) = some u := by
  subst hN
  exact K.news W x

end Go.Proofs.Ytinmagodckkedab

/-
  Fields of one's own: a field put in its place, and what stays when others only add to memory.
-/
namespace Go.Proofs.Ytinmagodckkedab
open Go.RowKit

theorem XSt.on {A B C : Nat} {we W W' : World} {u : Value} {o : List Fx} (h : XSt A B C we u o W) (hb : Below W.heap.size W W') : XSt A B C we u o W' :=
  ⟨h.own.on hb, h.zu, h.zo, ⟨hb.os.trans h.kept.os, hb.tape.trans h.kept.tape, hb.output.trans h.kept.output, Nat.le_trans h.kept.size hb.size, fun k hk hz => (hb.block k (by have := h.kept.size; omega)).trans (h.kept.block k hk hz)⟩⟩

theorem XSt.below {N : Nat} {we W : World} {u : Value} {o : List Fx} (h : XSt N N N we u o W) (hN : N = we.heap.size) : Below N we W := h.kept.below (Nat.le_refl _) (by omega)

theorem XSt.put {A B C : Nat} {we W : World} {g c n : Nat} {o : List Fx} (h : XSt A B C we (.slice (some ⟨g, 0, none⟩) n c) o W) (hn : o.length = n) {i : Nat} (hi : i < o.length) (x : Fx) (hx : OwnT A W x.sl x.txt) (hz : ZoneV B C x.sl)
    (hf : ∀ j, (hj : j < o.length) → j ≠ i → (o[j]).sl.ownBlock = none ∨ (o[j]).sl.ownBlock ≠ x.sl.ownBlock) :
    XSt A B C we (.slice (some ⟨g, 0, none⟩) n c) (o.set i x) ((W.setCell ⟨g, i * 2, none⟩ (.string x.name)).setCell ⟨g, i * 2 + 1, none⟩ x.sl) := by
  subst hn
  have hrow := h.own.1.1
  have hg : W.grownBy ((W.setCell ⟨g, i * 2, none⟩ (.string x.name)).setCell ⟨g, i * 2 + 1, none⟩ x.sl) (Value.slice (some ⟨g, 0, none⟩) o.length c).ownBlock := grown_trans (grown_set W g _ _) (grown_set _ g _ _)
  refine ⟨⟨⟨?_, fun y hy => ?_⟩, ?_⟩, h.zu, fun y hy => ?_, h.kept.grown hg fun k hk => ⟨(World.ownsRow.lt hrow k hk).1, h.zu k hk⟩⟩
  · have h1 := (hrow.stored (i * 2) (.string x.name)).1
    have h2 := (h1.stored (i * 2 + 1) x.sl).1
    rw [List.length_set, cellsX_set _ _ hi]
    exact h2
  · obtain ⟨q, hq, rfl⟩ := List.mem_iff_getElem.1 hy
    rw [List.length_set] at hq
    rw [List.getElem_set]
    by_cases e : i = q
    · rw [if_pos e]; exact own_else (show W.ownsRow A 9 1 x.sl x.txt.length (x.txt.map Value.string) from hx) hrow (by decide) hg
    · rw [if_neg e]; exact own_else (h.own.1.2 _ (List.getElem_mem hq)) hrow (by decide) hg
  · exact apart_set h.own.2 hi hf
  · obtain ⟨q, hq, rfl⟩ := List.mem_iff_getElem.1 hy
    rw [List.length_set] at hq
    rw [List.getElem_set]
    by_cases e : i = q
    · rw [if_pos e]; exact hz
    · rw [if_neg e]; exact h.zo _ (List.getElem_mem hq)

/-- What a zero field is. -/
def zeroX : Fx := ⟨⟨#[]⟩, none, 0, []⟩

theorem cellsX_zeros (n : Nat) : cellsX (List.replicate n zeroX) = (List.replicate n [Value.string ⟨#[]⟩, Value.slice none 0 0]).flatten := by
  unfold cellsX
  rw [List.flatMap_replicate]
  rfl

theorem apart_zeros (n : Nat) : Apart (List.replicate n zeroX) := by
  unfold Apart
  rw [List.pairwise_replicate]
  exact Or.inr (Or.inl rfl)

end Go.Proofs.Ytinmagodckkedab

/-
  The contracts of the reference's class, Type, ID, Field and Temp.
-/
namespace Go.Proofs.Ytinmagodckkedab
open Go.RowKit

end Go.Proofs.Ytinmagodckkedab

/-
  The contracts of the reference's Key and Print.
-/
namespace Go.Proofs.Ytinmagodckkedab
open Go.RowKit

end Go.Proofs.Ytinmagodckkedab

/-
  There and back: Parse of what Print makes, and Print of what Parse gives.
-/
namespace Go.Proofs.Ytinmagodckkedab
open Go.RowKit

theorem ba_ext {a b : ByteArray} (h : a.data.toList = b.data.toList) : a = b := by
  obtain ⟨⟨x⟩⟩ := a
  obtain ⟨⟨y⟩⟩ := b
  simp at h
  rw [h]

theorem ba_append (a b : ByteArray) : (a ++ b).data.toList = a.data.toList ++ b.data.toList := by simp

theorem letB_slash : letB (47 : Int) = false := by decide
theorem bigB_slash : bigB (47 : Int) = false := by decide

theorem typeB_slash {l : List UInt8} (h : typeB l = true) : (47 : UInt8) ∉ l := by
  cases l with
  | nil => simp
  | cons c r =>
    simp only [typeB, spell, Bool.and_eq_true, List.all_eq_true] at h
    obtain ⟨⟨_, h1⟩, h2⟩ := h
    simp only [List.mem_cons, not_or]
    refine ⟨?_, ?_⟩
    · rintro rfl
      rw [show ((47 : UInt8).toNat : Int) = 47 from rfl, bigB_slash] at h1
      cases h1
    · intro hm
      have := h2 _ hm
      rw [show ((47 : UInt8).toNat : Int) = 47 from rfl, letB_slash] at this
      cases this

theorem ix_first (a b : List UInt8) (c : UInt8) (h : c ∉ a) : Lib.indexByte (a ++ c :: b) c = (a.length : Int) := by
  induction a with
  | nil => simp [Lib.indexByte]
  | cons x a ih =>
    simp only [List.mem_cons, not_or] at h
    have hx : (x == c) = false := by rw [beq_eq_false_iff_ne]; exact fun e => h.1 e.symm
    rw [List.cons_append]
    unfold Lib.indexByte
    rw [hx, ih h.2]
    have : ((a.length : Int) == -1) = false := by rw [beq_eq_false_iff_ne]; omega
    simp [this]

theorem keyB_parts {a b : ByteArray} (h : keyB a b = true) : typeB a.data.toList = true ∧ idenB b.data.toList = true := by
  simpa [keyB] using h

theorem keyB_sizes {a b : ByteArray} (h : keyB a b = true) : a.size ≤ 32 ∧ b.size ≤ 32 := by
  obtain ⟨h1, h2⟩ := keyB_parts h
  exact ⟨by simpa using typeB_len h1, by simpa using idenB_len h2⟩

theorem cat_data (a b : ByteArray) : (a ++ ⟨#[47]⟩ ++ b).data.toList = a.data.toList ++ (47 : UInt8) :: b.data.toList := by
  rw [ba_append, ba_append, List.append_assoc]; rfl

theorem parse_back (a b : ByteArray) (w : World) (hk : keyB a b = true) :
    Calls Try.prog 30 #[.string (a ++ ⟨#[47]⟩ ++ b)] w fun e w' => e = .returned (.tuple #[.agg #[.string a, .string b], .int .i64 0]) ∧ Below w.heap.size w w' := by
  obtain ⟨s1, s2⟩ := keyB_sizes hk
  have hd := cat_data a b
  have hix : Lib.indexByte (a ++ ⟨#[47]⟩ ++ b).data.toList 47 = (a.size : Int) := by
    rw [hd, ix_first _ _ _ (typeB_slash (keyB_parts hk).1)]; rfl
  have hsz : (a ++ ⟨#[47]⟩ ++ b).size = a.size + 1 + b.size := by
    simp
    rfl
  have e1 : (a ++ ⟨#[47]⟩ ++ b).extract 0 a.size = a := by
    apply ba_ext
    rw [ext_head, hd]
    have : a.size = a.data.toList.length := rfl
    rw [this, List.take_left]
  have e2 : (a ++ ⟨#[47]⟩ ++ b).extract (a.size + 1) (a ++ ⟨#[47]⟩ ++ b).size = b := by
    apply ba_ext
    rw [ext_tail, hd]
    have : a.size = a.data.toList.length := rfl
    rw [this, ← List.drop_drop, List.drop_left]
    rfl
  have h := parse_yes (a ++ ⟨#[47]⟩ ++ b) w (by rw [hsz]; unfold maxLen; omega) a.size hix (by omega) (by rw [e1, e2]; exact hk)
  rw [e1, e2] at h
  exact h

/-- What Parse gives of s: a key whose text is s, or none. -/
theorem nparse_any (s : ByteArray) (hs : s.size ≤ maxLen) :
    (∃ x y : ByteArray, keyB x y = true ∧ s = x ++ ⟨#[47]⟩ ++ y ∧ ∀ w, Calls Try.prog 30 #[.string s] w fun e w' => e = .returned (.tuple #[.agg #[.string x, .string y], .int .i64 0]) ∧ Below w.heap.size w w') ∨
    (∀ w, Calls Try.prog 30 #[.string s] w fun e w' => e = .returned (.tuple #[.agg #[.string ⟨#[]⟩, .string ⟨#[]⟩], .int .i64 2]) ∧ Below w.heap.size w w') := by
  rcases ix_cases s.data.toList 47 with ⟨h1, _⟩ | ⟨i, h1, h2, h3, _⟩
  · exact .inr fun w => parse_bare s w hs h1
  · have hi : i < s.size := by simpa using h2
    cases hk : keyB (s.extract 0 i) (s.extract (i + 1) s.size) with
    | false => exact .inr fun w => parse_no s w hs i h1 hi hk
    | true =>
      refine .inl ⟨_, _, hk, ?_, fun w => parse_yes s w hs i h1 hi hk⟩
      apply ba_ext
      rw [cat_data, ext_head, ext_tail]
      exact ix_split _ _ _ h2 h3

theorem cell_lt {w : World} {a : Addr} {v : Value} (h : w.cell? a = some v) : a.block < w.heap.size := by
  rcases Nat.lt_or_ge a.block w.heap.size with h' | h'
  · exact h'
  · simp [World.cell?, Array.getElem?_eq_none h'] at h

theorem kept {W w' : World} (hq : Below W.heap.size W w') {b o : Nat} {v : Value} (h : W.cell? ⟨b, o, none⟩ = some v) : w'.cell? ⟨b, o, none⟩ = some v := by
  rw [(bcell hq).1 _ _ (cell_lt h)]; exact h

theorem kept_new {w : World} {b o : Nat} {v : Value} (ob : Obj) (h : w.cell? ⟨b, o, none⟩ = some v) : (w.alloc ob).cell? ⟨b, o, none⟩ = some v := by
  rw [← h]
  have hlt : b < w.heap.size := cell_lt h
  simp only [World.cell?, World.alloc, Array.getElem?_push, Nat.ne_of_lt hlt, if_false]

end Go.Proofs.Ytinmagodckkedab

/-
  The contract of the reference's Parse.
-/
namespace Go.Proofs.Ytinmagodckkedab
open Go.RowKit

/-- The result's own cells, as they were made. -/
def Blank (w wr : World) : Prop :=
  Below w.heap.size w wr ∧ wr.cell? ⟨w.heap.size, 0, none⟩ = some (.string ⟨#[]⟩) ∧ wr.cell? ⟨w.heap.size, 1, none⟩ = some (.string ⟨#[]⟩) ∧ wr.frozen? ⟨w.heap.size, 0, none⟩ = false ∧ wr.frozen? ⟨w.heap.size, 1, none⟩ = false

theorem Blank.on {w W w' : World} (h : Blank w W) (hq : Below W.heap.size W w') : Blank w w' := by
  obtain ⟨h0, h1, h2, h3, h4⟩ := h
  have hlt : w.heap.size < W.heap.size := cell_lt h1
  obtain ⟨_, hf⟩ := bcell hq
  exact ⟨h0.trans (hq.mono h0.size), kept hq h1, kept hq h2, by rw [hf _ _ hlt]; exact h3, by rw [hf _ _ hlt]; exact h4⟩

end Go.Proofs.Ytinmagodckkedab

/-
  The contracts of strings.CutPrefix, and of named, tempOf and Text of package refs; Named and Temp of the reference.
-/
namespace Go.Proofs.Ytinmagodckkedab
open Go.RowKit

set_option maxHeartbeats 1000000 in
theorem hasp_yes (s p : ByteArray) (w : World) (hp : p.size ≤ s.size) (he : s.extract 0 p.size = p) :
    Calls Try.prog 62 #[.string s, .string p] w fun e w' => e = .returned (.bool true) ∧ ∃ n, w' = w.drewN n := by
  have c1 : (p.size : Int) ≤ (s.size : Int) := by omega
  have c2 : (0 : Int) ≤ (p.size : Int) := by omega
  have he2 : ((s.extract 0 p.size).toList == p.toList) = true := by rw [he]; simp
  clear he
  go_enter Try.func62, Try.ntmps62
  go_wp2_with fail
  first
  | (go_ret; exact ⟨rfl, 0, rfl⟩)
  | (go_quiet (fail); go_wp2_with fail; go_ret; exact ⟨rfl, _, rfl⟩)

set_option maxHeartbeats 1000000 in
theorem hasp_no (s p : ByteArray) (w : World) (hps : p.size ≤ maxLen) (h : ¬ (p.size ≤ s.size ∧ s.extract 0 p.size = p)) :
    Calls Try.prog 62 #[.string s, .string p] w fun e w' => e = .returned (.bool false) ∧ ∃ n, w' = w.drewN n := by
  unfold maxLen at hps
  by_cases hp : p.size ≤ s.size
  · have c1 : (p.size : Int) ≤ (s.size : Int) := by omega
    have c2 : (0 : Int) ≤ (p.size : Int) := by omega
    have he2 : ((s.extract 0 p.size).toList == p.toList) = false := by
      rw [Lib.toList_data, Lib.toList_data, beq_eq_false_iff_ne]
      intro e
      exact h ⟨hp, ba_ext e⟩
    clear h
    go_enter Try.func62, Try.ntmps62
    go_wp2_with fail
    first
    | (go_ret; exact ⟨rfl, 0, rfl⟩)
    | (go_quiet (fail); go_wp2_with fail; go_ret; exact ⟨rfl, _, rfl⟩)
  · have c1 : ¬ (p.size : Int) ≤ (s.size : Int) := by omega
    clear h
    go_enter Try.func62, Try.ntmps62
    go_wp2_with fail
    first
    | (go_ret; exact ⟨rfl, 0, rfl⟩)
    | (go_quiet (fail); go_wp2_with fail; go_ret; exact ⟨rfl, _, rfl⟩)

set_option maxHeartbeats 1000000 in
theorem cutp_yes (s p : ByteArray) (w : World) (hp : p.size ≤ s.size) (he : s.extract 0 p.size = p) :
    Calls Try.prog 29 #[.string s, .string p] w fun e w' => e = .returned (.tuple #[.string (s.extract p.size s.size), .bool true]) ∧ ∃ n, w' = w.drewN n := by
  have H := hid (fun W => hasp_yes s p W hp he)
  have c1 : (p.size : Int) ≤ (s.size : Int) := by omega
  have c2 : (0 : Int) ≤ (p.size : Int) := by omega
  clear he
  have hc : ∀ W, Calls Try.prog 43 #[.string s, .string p] W fun e w' => e = .returned (.tuple #[.string (s.extract p.size s.size), .bool true]) ∧ ∃ n, w' = W.drewN n := fun W => by
    go_enter Try.func43, Try.ntmps43
    go_wp2_with (go_at_call 62; refine (H.out _).mono ?_; rintro e w1 ⟨rfl, n1, rfl⟩)
    go_ret2
    exact ⟨rfl, n1, rfl⟩
  have HC := hid hc
  clear hc
  go_enter Try.func29, Try.ntmps29
  go_wp2_with (go_at_call 43; refine (HC.out _).mono ?_; rintro e w1 ⟨rfl, n1, rfl⟩)
  go_ret2
  exact ⟨rfl, n1, rfl⟩

set_option maxHeartbeats 1000000 in
theorem cutp_no (s p : ByteArray) (w : World) (hps : p.size ≤ maxLen) (h : ¬ (p.size ≤ s.size ∧ s.extract 0 p.size = p)) :
    Calls Try.prog 29 #[.string s, .string p] w fun e w' => e = .returned (.tuple #[.string s, .bool false]) ∧ ∃ n, w' = w.drewN n := by
  have H := hid (fun W => hasp_no s p W hps h)
  clear h
  have hc : ∀ W, Calls Try.prog 43 #[.string s, .string p] W fun e w' => e = .returned (.tuple #[.string s, .bool false]) ∧ ∃ n, w' = W.drewN n := fun W => by
    go_enter Try.func43, Try.ntmps43
    go_wp2_with (go_at_call 62; refine (H.out _).mono ?_; rintro e w1 ⟨rfl, n1, rfl⟩)
    go_ret2
    exact ⟨rfl, n1, rfl⟩
  have HC := hid hc
  clear hc
  go_enter Try.func29, Try.ntmps29
  go_wp2_with (go_at_call 43; refine (HC.out _).mono ?_; rintro e w1 ⟨rfl, n1, rfl⟩)
  go_ret2
  exact ⟨rfl, n1, rfl⟩

/-! Parse, by what it means. -/

def parseT (s : ByteArray) : Option Ky := (parseS s.data.toList).map fun k => (bytesL k.1, bytesL k.2)

theorem cutS_none {l : List UInt8} (h : (47 : UInt8) ∉ l) : cutS l = none := by
  induction l with
  | nil => rfl
  | cons c r ih =>
    simp only [List.mem_cons, not_or] at h
    unfold cutS
    rw [if_neg (fun e => h.1 e.symm), ih h.2]
    rfl

theorem cut_at {s : ByteArray} {i : Nat} (hi : i < s.size) (hc : s.data.toList[i]? = some 47) (hn : (47 : UInt8) ∉ s.data.toList.take i) : cutS s.data.toList = some ((s.extract 0 i).data.toList, (s.extract (i + 1) s.size).data.toList) := by
  rw [ext_head, ext_tail]
  have := ix_split s.data.toList 47 i (by simpa using hi) hc
  conv => lhs; rw [this]
  exact cutS_of hn

theorem parseT_at {s : ByteArray} {i : Nat} (hi : i < s.size) (hc : s.data.toList[i]? = some 47) (hn : (47 : UInt8) ∉ s.data.toList.take i) :
    parseT s = if keyB (s.extract 0 i) (s.extract (i + 1) s.size) = true then some (s.extract 0 i, s.extract (i + 1) s.size) else none := by
  unfold parseT parseS
  rw [cut_at hi hc hn]
  show Option.map _ (if keyB (s.extract 0 i) (s.extract (i + 1) s.size) = true then _ else none) = _
  by_cases h : keyB (s.extract 0 i) (s.extract (i + 1) s.size) = true
  · rw [if_pos h, if_pos h]; rfl
  · rw [if_neg h, if_neg h]; rfl

/-- What Parse answers: the key, or none. -/
def PAns (s : ByteArray) (k : Ky) (c : Int) : Prop := (parseT s = some k ∧ c = 0) ∨ (parseT s = none ∧ k = (⟨#[]⟩, ⟨#[]⟩) ∧ c = 2)

theorem parse_is (s : ByteArray) (hs : s.size ≤ maxLen) :
    ∃ (k : Ky) (c : Int), PAns s k c ∧ ∀ w, Calls Try.prog 30 #[.string s] w fun e w' => e = .returned (.tuple #[.agg #[.string k.1, .string k.2], .int .i64 c]) ∧ Below w.heap.size w w' := by
  rcases ix_cases s.data.toList 47 with ⟨h1, h2⟩ | ⟨i, h1, h2, h3, h4⟩
  · refine ⟨(⟨#[]⟩, ⟨#[]⟩), 2, Or.inr ⟨?_, rfl, rfl⟩, fun w => parse_bare s w hs h1⟩
    unfold parseT parseS
    rw [cutS_none h2]
    rfl
  · have hi : i < s.size := by simpa using h2
    have hp := parseT_at hi h3 h4
    cases hk : keyB (s.extract 0 i) (s.extract (i + 1) s.size) with
    | false =>
      rw [hk, if_neg (by simp)] at hp
      exact ⟨_, _, Or.inr ⟨hp, rfl, rfl⟩, fun w => parse_no s w hs i h1 hi hk⟩
    | true =>
      rw [hk, if_pos rfl] at hp
      exact ⟨_, _, Or.inl ⟨hp, rfl⟩, fun w => parse_yes s w hs i h1 hi hk⟩

theorem parse_pos {s : ByteArray} {i : Nat} (hi : i < s.size) (hc : s[i] = 47) (hk : keyB (s.extract 0 i) (s.extract (i + 1) s.size) = true) : parseT s = some (s.extract 0 i, s.extract (i + 1) s.size) := by
  have hn : (47 : UInt8) ∉ s.data.toList.take i := by
    rw [← ext_head]
    exact type_slash (keyB_parts hk).1
  have hc' : s.data.toList[i]? = some 47 := by
    rw [List.getElem?_eq_getElem (by simpa using hi)]
    exact congrArg some hc
  rw [parseT_at hi hc' hn, if_pos hk]

theorem parse_neg {s : ByteArray} {k : Ky} (h : parseT s = some k) : ∃ i, ∃ hi : i < s.size, s[i] = 47 ∧ keyB (s.extract 0 i) (s.extract (i + 1) s.size) = true := by
  unfold parseT at h
  cases hp : parseS s.data.toList with
  | none => rw [hp] at h; cases h
  | some x =>
    obtain ⟨h1, h2⟩ := parseS_some hp
    have hl : s.data.toList.length = x.1.length + 1 + x.2.length := by rw [h1]; simp; omega
    have hi : x.1.length < s.size := by
      have : s.size = s.data.toList.length := by simp
      omega
    refine ⟨x.1.length, hi, ?_, ?_⟩
    · have : s.data.toList[x.1.length]? = some 47 := by rw [h1]; simp
      rw [List.getElem?_eq_getElem (by simpa using hi)] at this
      exact Option.some.inj this
    · have e1 : (s.extract 0 x.1.length).data.toList = x.1 := by rw [ext_head, h1]; simp
      have e2 : (s.extract (x.1.length + 1) s.size).data.toList = x.2 := by rw [ext_tail, h1]; simp
      unfold keyB
      rw [e1, e2]
      exact h2

theorem pans_is (s : ByteArray) : ∃ (k : Ky) (c : Int), PAns s k c := by
  cases h : parseT s with
  | none => exact ⟨_, _, Or.inr ⟨h, rfl, rfl⟩⟩
  | some k => exact ⟨k, 0, Or.inl ⟨h, rfl⟩⟩

/-! References. -/

theorem star_cases (t : ByteArray) : (1 ≤ t.size ∧ t.extract 0 1 = ⟨#[42]⟩ ∧ namedT t = parseT (t.extract 1 t.size)) ∨ (¬ (1 ≤ t.size ∧ t.extract 0 1 = ⟨#[42]⟩) ∧ namedT t = none) := by
  have e0 := ext_head t 1
  have e1 := ext_tail t 1
  have hsz : t.size = t.data.toList.length := by simp
  cases hl : t.data.toList with
  | nil =>
    right
    refine ⟨fun h => ?_, ?_⟩
    · have h0 := h.1; rw [hsz, hl] at h0; simp at h0
    · unfold namedT; rw [hl]; rfl
  | cons c r =>
    by_cases hc : c = 42
    · subst hc
      left
      refine ⟨by rw [hsz, hl]; simp, ba_ext (by rw [e0, hl]; rfl), ?_⟩
      unfold namedT parseT
      rw [e1, hl]
      rfl
    · right
      refine ⟨fun h => ?_, ?_⟩
      · have := congrArg (fun b : ByteArray => b.data.toList) h.2
        simp only [e0, hl] at this
        exact hc (by simpa using this)
      · unfold namedT
        rw [hl]
        have : namedS (c :: r) = none := by
          unfold namedS
          split
          · next h => simp only [List.cons.injEq] at h; exact absurd h.1 hc
          · rfl
        rw [this]; rfl

/-- What a text tells: the key that it names, and whether it names one. -/
def NAns (t : ByteArray) (k : Ky) (b : Bool) : Prop := (namedT t = some k ∧ b = true) ∨ (namedT t = none ∧ b = false)

theorem NAns.eq {t : ByteArray} {k : Ky} {b : Bool} (h : NAns t k b) : b = (namedT t).isSome := by
  rcases h with ⟨h, rfl⟩ | ⟨h, rfl⟩ <;> rw [h] <;> rfl

/-- A result's cells, as they were made, behind a call and a block more. -/
theorem box_two {w w2 : World} {n1 : Nat} {T : TypeId} {x y : Value} (hb : Below ((w.alloc (.cells #[x, y] T)).drewN n1).heap.size ((w.alloc (.cells #[x, y] T)).drewN n1) w2) :
    (∀ o, (w2.alloc o).cell? ⟨w.heap.size, 0, none⟩ = some x) ∧ (∀ o, (w2.alloc o).cell? ⟨w.heap.size, 1, none⟩ = some y) ∧ (∀ o, (w2.alloc o).frozen? ⟨w.heap.size, 0, none⟩ = false) ∧ (∀ o, (w2.alloc o).frozen? ⟨w.heap.size, 1, none⟩ = false) := by
  have h0 : ((w.alloc (.cells #[x, y] T)).drewN n1).heap[w.heap.size]? = some (.cells #[x, y] T (0, 0)) := heap_alloc_new w _
  have hlt : w.heap.size < ((w.alloc (.cells #[x, y] T)).drewN n1).heap.size := (Array.getElem?_eq_some_iff.1 h0).1
  have h1 := (hb.block _ hlt).trans h0
  have h2 : ∀ o, (w2.alloc o).heap[w.heap.size]? = some (.cells #[x, y] T (0, 0)) := fun o => (Below.heap_alloc _ _ _ (Nat.lt_of_lt_of_le hlt hb.size)).trans h1
  refine ⟨fun o => ?_, fun o => ?_, fun o => ?_, fun o => ?_⟩
  · rw [Lib.cell_of_heap (h2 o)]; rfl
  · rw [Lib.cell_of_heap (h2 o)]; rfl
  · exact Lib.frozen_of_heap (h2 o) _
  · exact Lib.frozen_of_heap (h2 o) _

set_option maxHeartbeats 1000000 in
theorem named_is (t : ByteArray) (hs : t.size ≤ maxLen) :
    ∃ (k : Ky) (b : Bool), NAns t k b ∧ ∀ w, Calls Try.prog 17 #[.string t] w fun e w' => e = .returned (.tuple #[.agg #[.string k.1, .string k.2], .bool b]) ∧ Below w.heap.size w w' := by
  rcases star_cases t with ⟨h1, h2, h3⟩ | ⟨h1, h3⟩
  · obtain ⟨k, c, hp, hcall⟩ := parse_is (t.extract 1 t.size) (ext_size t 1 t.size hs)
    have hcut := hid (fun w => cutp_yes t ⟨#[42]⟩ w h1 h2)
    have HC := hid hcall
    have hb : ∃ b : Bool, NAns t k b ∧ (c == 0) = b := by
      rcases hp with ⟨hp, rfl⟩ | ⟨hp, _, rfl⟩
      · exact ⟨true, Or.inl ⟨h3.trans hp, rfl⟩, rfl⟩
      · exact ⟨false, Or.inr ⟨h3.trans hp, rfl⟩, rfl⟩
    obtain ⟨b, hn, he⟩ := hb
    refine ⟨k, b, hn, fun w => ?_⟩
    clear hcall hp hn h3 h2
    obtain ⟨k1, k2⟩ := k
    simp only at HC ⊢
    go_enter Try.func17, Try.ntmps17
    go_wp2_with (first
      | (go_at_call 29; refine (hcut.out _).mono ?_; rintro e w1 ⟨rfl, n1, rfl⟩)
      | (go_at_call 30; refine (HC.out _).mono ?_; rintro e w2 ⟨rfl, hb2⟩; obtain ⟨k0, k1', q0, q1⟩ := box_two hb2))
    exact bodyPost_ret (v := .tuple #[.agg #[.string k1, .string k2], .bool b]) (by simp [results, Try.results17, go_sem, k0, k1']) rfl
      ⟨rfl, ((((bel_drewN ((Below.refl _ _).alloc (Nat.le_refl _) _) _).trans (hb2.mono (by simp))).alloc (by have := hb2.size; simp at this; omega) _).setCell (by simp) _).setCell (by simp) _⟩
  · have hcut := hid (fun w => cutp_no t ⟨#[42]⟩ w (by decide) h1)
    refine ⟨(⟨#[]⟩, ⟨#[]⟩), false, Or.inr ⟨h3, rfl⟩, fun w => ?_⟩
    clear h1 h3
    go_enter Try.func17, Try.ntmps17
    go_wp2_with (first
      | (go_at_call 29; refine (hcut.out _).mono ?_; rintro e w1 ⟨rfl, n1, rfl⟩))
    exact bodyPost_ret (v := .tuple #[.agg #[.string ⟨#[]⟩, .string ⟨#[]⟩], .bool false]) (by simp [results, Try.results17, go_sem]) rfl
      ⟨rfl, (((bel_drewN ((Below.refl _ _).alloc (Nat.le_refl _) _) _)).setCell (by simp) _).setCell (by simp) _⟩

end Go.Proofs.Ytinmagodckkedab

/-
  The contracts of tempOf and Text of package refs; Named and Temp of the reference.
-/
namespace Go.Proofs.Ytinmagodckkedab
open Go.RowKit

theorem list_byte (t : ByteArray) (i : Nat) (h : i < t.size) : t.data.toList[i]? = some t[i] := by
  rw [List.getElem?_eq_getElem (by simpa using h)]; rfl

theorem named_byte (t : ByteArray) : (∃ h : 0 < t.size, t[0] = 42) ∧ namedT t = parseT (t.extract 1 t.size) ∨ (∀ h : 0 < t.size, t[0] ≠ 42) ∧ namedT t = none := by
  by_cases h0 : 0 < t.size
  · have e0 := list_byte t 0 h0
    rcases star_cases t with ⟨_, h2, h3⟩ | ⟨h1, h3⟩
    · left
      refine ⟨⟨h0, ?_⟩, h3⟩
      have := congrArg (fun b : ByteArray => b.data.toList) h2
      simp only [ext_head] at this
      have e1 : (t.data.toList.take 1)[0]? = some 42 := by rw [this]; rfl
      rw [List.getElem?_take_of_lt (by omega), e0] at e1
      exact Option.some.inj e1
    · right
      refine ⟨fun _ hc => h1 ⟨h0, ?_⟩, h3⟩
      apply ba_ext
      rw [ext_head]
      cases hl : t.data.toList with
      | nil => rw [hl] at e0; cases e0
      | cons c r =>
        rw [hl] at e0
        have : c = 42 := by rw [← hc]; exact Option.some.inj e0
        rw [this]; rfl
  · right
    refine ⟨fun h => absurd h h0, ?_⟩
    rcases star_cases t with ⟨h1, _⟩ | ⟨_, h3⟩
    · omega
    · exact h3

theorem temp_byte (t : ByteArray) : (∃ h : 1 < t.size, t[0] = 42 ∧ t[1] = 64) ∧ tempT t = (if tempB (t.extract 2 t.size).data.toList = true then some (t.extract 2 t.size) else none) ∨ (∀ h : 1 < t.size, t[0] = 42 → t[1] ≠ 64) ∧ tempT t = none := by
  have hsz : t.size = t.data.toList.length := by simp
  have e2 := ext_tail t 2
  by_cases h1 : 1 < t.size
  · have b0 := list_byte t 0 (by omega)
    have b1 := list_byte t 1 h1
    cases hl : t.data.toList with
    | nil => rw [hl] at b0; cases b0
    | cons c r =>
      cases hr : r with
      | nil => rw [hl, hr] at b1; cases b1
      | cons d q =>
        rw [hl, hr] at b0 b1 e2
        have c0 : t[0] = c := (Option.some.inj b0).symm
        have c1 : t[1] = d := (Option.some.inj b1).symm
        simp only [List.drop_succ_cons, List.drop_zero] at e2
        by_cases hc : c = 42 ∧ d = 64
        · left
          obtain ⟨rfl, rfl⟩ := hc
          refine ⟨⟨h1, c0, c1⟩, ?_⟩
          rw [e2]
          have eq : t.extract 2 t.size = bytesL q := ba_ext (by rw [e2]; rfl)
          unfold tempT
          rw [hl, hr, eq]
          simp only [tempS]
          by_cases h : tempB q = true
          · rw [if_pos h, if_pos h]; rfl
          · rw [if_neg h, if_neg h]; rfl
        · right
          refine ⟨fun _ h0 h => hc ⟨by rw [← c0]; exact h0, by rw [← c1]; exact h⟩, ?_⟩
          unfold tempT
          rw [hl, hr]
          have : tempS (c :: d :: q) = none := by
            unfold tempS
            split
            · next h => simp only [List.cons.injEq] at h; exact absurd ⟨h.1, h.2.1⟩ hc
            · rfl
          rw [this]; rfl
  · right
    refine ⟨fun h => absurd h h1, ?_⟩
    unfold tempT
    cases hl : t.data.toList with
    | nil => rfl
    | cons c r =>
      cases hr : r with
      | nil =>
        have : tempS [c] = none := by
          unfold tempS
          split
          · next h => simp at h
          · rfl
        rw [this]; rfl
      | cons d q => rw [hl, hr] at hsz; simp at hsz; omega

theorem at_ext {t : ByteArray} (h : 1 < t.size) (h0 : t[0] = 42) (h1 : t[1] = 64) : t.extract 0 2 = ⟨#[42, 64]⟩ := by
  apply ba_ext
  rw [ext_head]
  have b0 := list_byte t 0 (by omega)
  have b1 := list_byte t 1 h
  cases hl : t.data.toList with
  | nil => rw [hl] at b0; cases b0
  | cons c r =>
    cases hr : r with
    | nil => rw [hl, hr] at b1; cases b1
    | cons d q =>
      rw [hl, hr] at b0 b1
      have c0 : c = 42 := by rw [← h0]; exact Option.some.inj b0
      have c1 : d = 64 := by rw [← h1]; exact Option.some.inj b1
      rw [c0, c1]; rfl

theorem at_of {t : ByteArray} (h : 1 < t.size) (he : t.extract 0 2 = ⟨#[42, 64]⟩) : t[0] = 42 ∧ t[1] = 64 := by
  have := congrArg (fun b : ByteArray => b.data.toList) he
  simp only [ext_head] at this
  have e0 : (t.data.toList.take 2)[0]? = some 42 := by rw [this]; rfl
  have e1 : (t.data.toList.take 2)[1]? = some 64 := by rw [this]; rfl
  rw [List.getElem?_take_of_lt (by omega), list_byte t 0 (by omega)] at e0
  rw [List.getElem?_take_of_lt (by omega), list_byte t 1 h] at e1
  exact ⟨Option.some.inj e0, Option.some.inj e1⟩

/-- What a text tells: the temporary name, and whether it names one. -/
def TAns (t r : ByteArray) (b : Bool) : Prop := (tempT t = some r ∧ b = true) ∨ (tempT t = none ∧ b = false)

theorem TAns.eq {t r : ByteArray} {b : Bool} (h : TAns t r b) : b = (tempT t).isSome := by
  rcases h with ⟨h, rfl⟩ | ⟨h, rfl⟩ <;> rw [h] <;> rfl

theorem temp_size {t n : ByteArray} (h : tempT t = some n) : n.size ≤ t.size := by
  rcases temp_byte t with ⟨⟨h1, _⟩, h2⟩ | ⟨_, h2⟩
  · rw [h] at h2
    split at h2
    · rw [Option.some.inj h2]; simp
    · cases h2
  · rw [h] at h2; cases h2

set_option maxHeartbeats 1000000 in
theorem tempOf_is (t : ByteArray) (hs : t.size ≤ maxLen) :
    ∃ (r : ByteArray) (b : Bool), TAns t r b ∧ ∀ w, Calls Try.prog 16 #[.string t] w fun e w' => e = .returned (.tuple #[.string r, .bool b]) ∧ ∃ n, w' = w.drewN n := by
  by_cases hp : 2 ≤ t.size ∧ t.extract 0 2 = ⟨#[42, 64]⟩
  · have hcut := hid (fun w => cutp_yes t ⟨#[42, 64]⟩ w hp.1 hp.2)
    have HT := hid (fun w => temp_any (t.extract 2 t.size) w (ext_size t 2 t.size hs))
    obtain ⟨b0, b1⟩ := at_of (show 1 < t.size by omega) hp.2
    have hT : tempT t = if tempB (t.extract 2 t.size).data.toList = true then some (t.extract 2 t.size) else none := by
      rcases temp_byte t with ⟨_, h⟩ | ⟨h, _⟩
      · exact h
      · exact absurd b1 (h (by omega) b0)
    clear b0 b1 hp
    cases hB : tempB (t.extract 2 t.size).data.toList with
    | true =>
      rw [hB, if_pos rfl] at hT
      rw [hB] at HT
      refine ⟨t.extract 2 t.size, true, Or.inl ⟨hT, rfl⟩, fun w => ?_⟩
      clear hT
      go_enter Try.func16, Try.ntmps16
      go_wp2_with (first
        | (go_at_call 29; refine (hcut.out _).mono ?_; rintro e w1 ⟨rfl, n1, rfl⟩)
        | (go_at_call 27; refine (HT.out _).mono ?_; rintro e w2 ⟨rfl, rfl⟩))
      first
      | (go_ret2; exact ⟨rfl, n1, rfl⟩)
      | (go_region_with (first | (go_at_call 27; refine (HT.out _).mono ?_; rintro e w2 ⟨rfl, rfl⟩)); go_wp2_with fail; go_ret2; exact ⟨rfl, _, rfl⟩)
    | false =>
      rw [hB, if_neg (by simp)] at hT
      rw [hB] at HT
      refine ⟨t.extract 2 t.size, false, Or.inr ⟨hT, rfl⟩, fun w => ?_⟩
      clear hT
      go_enter Try.func16, Try.ntmps16
      go_wp2_with (first
        | (go_at_call 29; refine (hcut.out _).mono ?_; rintro e w1 ⟨rfl, n1, rfl⟩)
        | (go_at_call 27; refine (HT.out _).mono ?_; rintro e w2 ⟨rfl, rfl⟩))
      first
      | (go_ret2; exact ⟨rfl, n1, rfl⟩)
      | (go_region_with (first | (go_at_call 27; refine (HT.out _).mono ?_; rintro e w2 ⟨rfl, rfl⟩)); go_wp2_with fail; go_ret2; exact ⟨rfl, _, rfl⟩)
  · have hcut := hid (fun w => cutp_no t ⟨#[42, 64]⟩ w (by decide) hp)
    have hT : tempT t = none := by
      rcases temp_byte t with ⟨⟨h1, h2, h3⟩, _⟩ | ⟨_, h⟩
      · exact absurd ⟨by omega, at_ext h1 h2 h3⟩ hp
      · exact h
    refine ⟨t, false, Or.inr ⟨hT, rfl⟩, fun w => ?_⟩
    clear hT hp
    go_enter Try.func16, Try.ntmps16
    go_wp2_with (first
      | (go_at_call 29; refine (hcut.out _).mono ?_; rintro e w1 ⟨rfl, n1, rfl⟩))
    first
    | (go_ret2; exact ⟨rfl, n1, rfl⟩)
    | (go_region_with (fail); go_wp2_with fail; go_ret2; exact ⟨rfl, _, rfl⟩)

theorem ref_cat (k : Ky) : (⟨#[42]⟩ : ByteArray) ++ (k.1 ++ ⟨#[47]⟩ ++ k.2) = refT k := by
  apply ba_ext
  rw [ba_append, cat_data]
  rfl

theorem ref_cat2 (k : Ky) : (⟨#[42]⟩ : ByteArray) ++ k.1 ++ ⟨#[47]⟩ ++ k.2 = refT k := by
  apply ba_ext
  rw [ba_append, ba_append, ba_append]
  show _ = 42 :: (k.1.data.toList ++ 47 :: k.2.data.toList)
  simp

set_option maxHeartbeats 1000000 in
theorem text_yes (k : Ky) (w : World) (hk : keyOK k = true) :
    Calls Try.prog 12 #[.agg #[.string k.1, .string k.2]] w fun e w' => e = .returned (.tuple #[.string (refT k), .int .i64 0]) ∧ Below w.heap.size w w' := by
  have HE := hid (ref_cat k)
  obtain ⟨a, b⟩ := k
  obtain ⟨h1, h2⟩ := keyB_sizes (a := a) (b := b) hk
  have HP := hid (fun w => nprint_yes a b w (by unfold maxLen; omega) (by unfold maxLen; omega) h1 h2 hk)
  have hz : (a ++ ⟨#[47]⟩ ++ b).size ≤ 65 := by simp; have : (⟨#[47]⟩ : ByteArray).size = 1 := rfl; omega
  obtain ⟨s, hsq⟩ : ∃ s, a ++ ⟨#[47]⟩ ++ b = s := ⟨_, rfl⟩
  rw [hsq] at HP hz
  have HS := hid hsq
  clear hsq hk
  go_enter Try.func12, Try.ntmps12
  go_wp2_with (first | (go_at_call 26; refine (HP.out _).mono ?_; rintro e w2 ⟨rfl, hb2⟩))
  go_ret2
  refine ⟨?_, ((Below.refl _ _).alloc (Nat.le_refl _) _).trans (hb2.mono (by simp))⟩
  rw [← HE.out, ← HS.out]
  rfl

set_option maxHeartbeats 1000000 in
theorem text_no (k : Ky) (w : World) (h1 : k.1.size ≤ maxLen) (h2 : k.2.size ≤ maxLen) (hk : keyOK k = false) :
    Calls Try.prog 12 #[.agg #[.string k.1, .string k.2]] w fun e w' => e = .returned (.tuple #[.string ⟨#[]⟩, .int .i64 2]) ∧ Below w.heap.size w w' := by
  have HP := hid (fun w => nprint_no k.1 k.2 w h1 h2 hk)
  obtain ⟨a, b⟩ := k
  simp only at HP ⊢
  clear hk
  go_enter Try.func12, Try.ntmps12
  go_wp2_with (first | (go_at_call 26; refine (HP.out _).mono ?_; rintro e w2 ⟨rfl, hb2⟩))
  go_ret2
  exact ⟨rfl, ((Below.refl _ _).alloc (Nat.le_refl _) _).trans (hb2.mono (by simp))⟩

end Go.Proofs.Ytinmagodckkedab

/-
  Texts sorted, and each once: what slices.Sort and slices.Compact leave of a row of one's own.
-/
namespace Go.Proofs.Ytinmagodckkedab
open Go.RowKit Go.Sort Go.Lib

theorem compact_rise {α : Type} [DecidableEq α] [Inhabited α] {lt : α → α → Bool} (T : Tot lt) {d : Array α} (hle : ∀ i j, i ≤ j → j < d.size → lt d[j]! d[i]! = false) : RisingR lt (compactUpTo d d.size) ∧ ∀ x, x ∈ compactUpTo d d.size ↔ x ∈ d.toList := by
  have key : ∀ m, m ≤ d.size → RisingR lt (compactUpTo d m) ∧ ∀ x, x ∈ compactUpTo d m ↔ ∃ j, j < m ∧ d[j]! = x := by
    intro m
    induction m with
    | zero => intro _; exact ⟨List.Pairwise.nil, fun x => by simp [compactUpTo]⟩
    | succ m ih =>
      intro hm
      obtain ⟨h1, h2⟩ := ih (by omega)
      rw [compactUpTo_succ]
      cases hk : keeps d m with
      | true =>
        rw [if_pos rfl]
        constructor
        · refine List.pairwise_append.2 ⟨h1, List.pairwise_singleton _ _, fun x hx y hy => ?_⟩
          rw [List.mem_singleton] at hy
          subst hy
          obtain ⟨j, hj, rfl⟩ := (h2 x).1 hx
          have hne : d[m]! ≠ d[m - 1]! := by
            unfold keeps at hk
            rcases of_decide_eq_true hk with h | h
            · omega
            · exact h
          have ha := hle j (m - 1) (by omega) (by omega)
          have hb := hle (m - 1) m (by omega) (by omega)
          rcases T.tot d[j]! d[m]! with h | h | h
          · exact h
          · rw [h] at ha
            rcases T.tot d[m - 1]! d[m]! with h' | h' | h'
            · rw [ha] at h'; cases h'
            · exact absurd h'.symm hne
            · rw [hb] at h'; cases h'
          · rw [hle j m (by omega) (by omega)] at h; cases h
        · intro x
          rw [List.mem_append, List.mem_singleton, h2]
          constructor
          · rintro (⟨j, hj, e⟩ | e)
            · exact ⟨j, by omega, e⟩
            · exact ⟨m, by omega, e.symm⟩
          · rintro ⟨j, hj, e⟩
            by_cases hjm : j = m
            · subst hjm; exact Or.inr e.symm
            · exact Or.inl ⟨j, by omega, e⟩
      | false =>
        rw [if_neg (by simp), List.append_nil]
        refine ⟨h1, fun x => ?_⟩
        rw [h2]
        constructor
        · rintro ⟨j, hj, e⟩
          exact ⟨j, by omega, e⟩
        · rintro ⟨j, hj, e⟩
          by_cases hjm : j = m
          · subst hjm
            have hh : ¬ (j = 0 ∨ d[j]! ≠ d[j - 1]!) := by unfold keeps at hk; exact of_decide_eq_false hk
            have h0 : j ≠ 0 := fun e => hh (Or.inl e)
            have h3 : d[j]! = d[j - 1]! := Classical.byContradiction fun e => hh (Or.inr e)
            exact ⟨j - 1, by omega, by rw [← h3]; exact e⟩
          · exact ⟨j, by omega, e⟩
  obtain ⟨h1, h2⟩ := key d.size (Nat.le_refl _)
  refine ⟨h1, fun x => (h2 x).trans ?_⟩
  rw [List.mem_iff_getElem]
  constructor
  · rintro ⟨j, hj, e⟩
    exact ⟨j, by simpa using hj, by rw [← e, getElem!_pos d j hj]; simp⟩
  · rintro ⟨j, hj, e⟩
    have hj' : j < d.size := by simpa using hj
    exact ⟨j, hj', by rw [getElem!_pos d j hj', ← e]; simp⟩

def ltL (a b : List UInt8) : Bool := decide (Lib.compareBytes a b < 0)
theorem ltL_bytes (a b : List UInt8) : ltB (bytesL a) (bytesL b) = ltL a b := rfl
theorem ltL_dec (a b : List UInt8) : ltL a b = decide (a < b) := by unfold ltL; rw [cb_less, bytesLess_eq]
theorem totL : Tot ltL where
  irr a := ltB_irrefl (bytesL a)
  tr a b c h k := ltB_trans (a := bytesL a) (b := bytesL b) (c := bytesL c) h k
  tot a b := by
    rcases ltB_cases (bytesL a) (bytesL b) with h | h | h
    · exact Or.inl h
    · exact Or.inr (Or.inl (by have := congrArg (fun x : ByteArray => x.data.toList) h; simpa [bytesL] using this))
    · exact Or.inr (Or.inr h)

theorem merge_ord (ss : List (List UInt8)) : (ss.mergeSort fun x y => decide (x ≤ y)).Pairwise fun x y => ltL y x = false := by
  have h : (ss.mergeSort fun x y => decide (x ≤ y)).Pairwise fun x y => decide (x ≤ y) = true := by
    refine List.pairwise_mergeSort ?_ ?_ ss
    · intro a b c h1 h2
      simp only [decide_eq_true_eq] at *
      exact List.le_trans h1 h2
    · intro a b
      rcases List.le_total a b with h | h <;> simp [h]
  refine h.imp fun {x y} hxy => ?_
  rw [ltL_dec, decide_eq_false_iff_not]
  exact of_decide_eq_true hxy

theorem rising_bytes {r : List (List UInt8)} (h : RisingR ltL r) : RisingR ltB (r.map bytesL) := by
  unfold RisingR at *
  rw [List.pairwise_map]
  exact h.imp fun {a b} hab => hab

theorem bytes_inj : ∀ {a b : List UInt8}, bytesL a = bytesL b → a = b := fun {a b} h => by
  have := congrArg (fun x : ByteArray => x.data.toList) h
  simpa [bytesL] using this

/-- The texts, rising, each once. -/
def sortT (ts : List ByteArray) : List ByteArray := toldBy ltB some ts

theorem sortT_rising (ts : List ByteArray) : RisingR ltB (sortT ts) := told_rising totB _ _
theorem sortT_mem (ts : List ByteArray) (z : ByteArray) : z ∈ sortT ts ↔ z ∈ ts := by
  unfold sortT
  rw [told_mem totB]
  constructor
  · rintro ⟨t, ht, e⟩; rw [← Option.some.inj e]; exact ht
  · intro h; exact ⟨z, h, rfl⟩

theorem sortT_of {ts r : List ByteArray} (h1 : RisingR ltB r) (h2 : ∀ z, z ∈ r ↔ z ∈ ts) : r = sortT ts :=
  rising_uniqR totB h1 (sortT_rising ts) fun z => (h2 z).trans (sortT_mem ts z).symm

/-- What the sort, and then the doubles' fall, leave. -/
theorem sorted_texts (ts : List ByteArray) : (compactUpTo ((ts.map (·.data.toList)).mergeSort fun x y => decide (x ≤ y)).toArray ((ts.map (·.data.toList)).mergeSort fun x y => decide (x ≤ y)).toArray.size).map bytesL = sortT ts := by
  obtain ⟨m, hm⟩ : ∃ m, (ts.map (·.data.toList)).mergeSort (fun x y => decide (x ≤ y)) = m := ⟨_, rfl⟩
  have hord := merge_ord (ts.map (·.data.toList))
  have hperm : (((ts.map (·.data.toList)).mergeSort fun x y => decide (x ≤ y))).Perm (ts.map (·.data.toList)) := List.mergeSort_perm _ _
  rw [hm] at hord hperm ⊢
  obtain ⟨h1, h2⟩ := compact_rise (d := m.toArray) totL (fun i j hij hj => by
    have hj' : j < m.length := by simpa using hj
    rw [getElem!_pos m.toArray j hj, getElem!_pos m.toArray i (by omega)]
    simp only [List.getElem_toArray]
    rcases Nat.lt_or_eq_of_le hij with h | h
    · exact List.pairwise_iff_getElem.1 hord i j (by omega) hj' h
    · subst h; exact totL.irr _)
  refine sortT_of (rising_bytes h1) fun z => ?_
  rw [List.mem_map]
  constructor
  · rintro ⟨a, ha, rfl⟩
    have := (h2 a).1 ha
    simp only at this
    obtain ⟨t, ht, e⟩ := List.mem_map.1 (hperm.mem_iff.1 this)
    rw [← e]
    exact ht
  · intro hz
    exact ⟨z.data.toList, (h2 _).2 (hperm.mem_iff.2 (List.mem_map.2 ⟨z, hz, rfl⟩)), rfl⟩

end Go.Proofs.Ytinmagodckkedab

/-
  The contracts of slices.Sort and slices.Compact at rows of texts of one's own.
-/
namespace Go.Proofs.Ytinmagodckkedab
open Go.RowKit Go.Sort Go.Lib

def orderT (ts : List ByteArray) : List ByteArray := ((ts.map (·.data.toList)).mergeSort fun x y => decide (x ≤ y)).map bytesL
def onceT (ts : List ByteArray) : List ByteArray := (Lib.compact (ts.map (·.data.toList))).map bytesL

theorem bytes_lists (l : List (List UInt8)) : (l.map bytesL).map (·.data.toList) = l := by
  rw [List.map_map]
  conv => rhs; rw [← List.map_id l]
  rfl

theorem order_once (ts : List ByteArray) : onceT (orderT ts) = sortT ts := by
  unfold onceT orderT
  rw [bytes_lists]
  have := sorted_texts ts
  simpa [Lib.compact] using this

theorem encStr_bytes (l : List (List UInt8)) : l.map encStr = (l.map bytesL).map Value.string := by
  rw [← map_encStr, bytes_lists]

theorem orderT_len (ts : List ByteArray) : (orderT ts).length = ts.length := by
  unfold orderT
  rw [List.length_map, List.length_mergeSort, List.length_map]

theorem sortS_own (n0 : Nat) (u : Value) (ts : List ByteArray) (w : World) (h : OwnT n0 w u ts) (h0 : n0 ≤ w.heap.size) (hl : ts.length ≤ 4000000) :
    Calls Try.prog 19 #[u] w fun e w' => e = .returned (.tuple #[]) ∧ OwnT n0 w' u (orderT ts) ∧ Below n0 w w' := by
  rcases h.2 with ⟨rfl, hz⟩ | ⟨g, cap, cur, rfl, hb, hg, hn, hm, hs, ht⟩
  · obtain rfl := List.length_eq_zero_iff.1 hz
    refine (Try.slices_Sort_string_none _ _ w).mono ?_
    rintro e w' ⟨rfl, rfl⟩
    refine ⟨rfl, ?_, Below.refl _ _⟩
    have : orderT [] = [] := by have := orderT_len []; exact List.length_eq_zero_iff.1 this
    rw [this]
    exact h
  · obtain ⟨ss, hss⟩ : ∃ ss, ts.map (·.data.toList) = ss := ⟨_, rfl⟩
    have hsl : ss.length = ts.length := by rw [← hss, List.length_map]
    have hh : w.ownsRow n0 9 1 (.slice (some ⟨g, 0, none⟩) ts.length cap) ts.length (ss.map encStr) := by rw [← hss, map_encStr]; exact h
    obtain ⟨g', cap', e0, _, hgl, _, _, _, hH⟩ := holds_of_ownsRow hh (by simp)
    injection e0 with e1 _ e3
    injection e1 with e1
    injection e1 with e1
    subst e1 e3
    have hc := Try.slices_Sort_string g 0 cap ss w hH hgl (by omega)
    rw [hsl] at hc
    refine hc.mono ?_
    rintro e w' ⟨rfl, n, os, rfl⟩
    have hl2 : (ss.mergeSort fun x y => decide (x ≤ y)).length = ss.length := List.length_mergeSort ss
    refine ⟨rfl, ?_, (Below.refl _ _).grown (grownBy_sorted _) h0 (fun k hk => by cases hk; exact hb)⟩
    have := ownsRow_sorted (n := n) (os := os) (ts := ss.mergeSort fun x y => decide (x ≤ y)) (cap := cap) hl2 hb hg (by omega) hm hs
    unfold OwnT
    rw [orderT_len]
    unfold orderT
    rw [hss, ← encStr_bytes, ← hsl]
    exact this

theorem onceT_len (ts : List ByteArray) : (onceT ts).length ≤ ts.length := by
  unfold onceT
  rw [List.length_map]
  have := Lib.compact_length_le (ts.map (·.data.toList))
  rwa [List.length_map] at this

theorem compS_own (n0 : Nat) (u : Value) (ts : List ByteArray) (w : World) (h : OwnT n0 w u ts) (h0 : n0 ≤ w.heap.size) (hl : ts.length ≤ 4000000) :
    Calls Try.prog 20 #[u] w fun e w' => ∃ u', e = .returned u' ∧ OwnT n0 w' u' (onceT ts) ∧ Below n0 w w' := by
  rcases h.2 with ⟨rfl, hz⟩ | ⟨g, cap, cur, rfl, hb, hg, hn, hm, hs, ht⟩
  · obtain rfl := List.length_eq_zero_iff.1 hz
    refine (Any.slices_Compact_string_empty Try.laysCompact _ _ w).mono ?_
    rintro e w' ⟨rfl, rfl⟩
    have : onceT [] = [] := by have := onceT_len []; exact List.length_eq_zero_iff.1 (by simpa using this)
    refine ⟨_, rfl, ?_, Below.refl _ _⟩
    rw [this]
    exact h
  · obtain ⟨ss, hss⟩ : ∃ ss, ts.map (·.data.toList) = ss := ⟨_, rfl⟩
    have hsl : ss.length = ts.length := by rw [← hss, List.length_map]
    have hh : w.ownsRow n0 9 1 (.slice (some ⟨g, 0, none⟩) ts.length cap) ts.length (ss.map encStr) := by rw [← hss, map_encStr]; exact h
    obtain ⟨g', cap', e0, _, hgl, _, _, _, hH⟩ := holds_of_ownsRow hh (by simp)
    injection e0 with e1 _ e3
    injection e1 with e1
    injection e1 with e1
    subst e1 e3
    have hc := Try.slices_Compact_string g 0 cap ss w hH (by omega) (by omega)
    rw [hsl] at hc
    refine hc.mono ?_
    rintro e w' ⟨rfl, q, rfl⟩
    have hle := Lib.compact_length_le ss
    have ho : (onceT ts).length = (Lib.compact ss).length := by unfold onceT; rw [hss, List.length_map]
    refine ⟨_, rfl, ?_, below_putRow (Below.refl _ _) hb⟩
    have := ownsRow_putRow (q := q) (k := (Lib.compact ss).length) (ys := Lib.compact ss ++ List.replicate (ts.length - (Lib.compact ss).length) []) hh (by simp; omega) (by omega)
    rw [List.take_left] at this
    unfold OwnT
    rw [ho]
    unfold onceT
    rw [hss, ← encStr_bytes]
    exact this

end Go.Proofs.Ytinmagodckkedab

/-
  The contracts of Temps and Keys of package refs.
-/
namespace Go.Proofs.Ytinmagodckkedab
open Go.RowKit

def txtsX (d : List Fx) : List ByteArray := d.flatMap (·.txt)
theorem txtsX_flds (d : List Fx) : textsF (d.map Fx.fld) = txtsX d := by
  unfold textsF txtsX
  rw [List.flatMap_map]
  rfl
theorem txtsX_succ (d : List Fx) (i : Nat) (h : i < d.length) : txtsX (d.take (i + 1)) = txtsX (d.take i) ++ (d[i]).txt := by
  unfold txtsX
  rw [List.take_succ_eq_append_getElem h, List.flatMap_append]
  simp
theorem txtsX_part (d : List Fx) (i : Nat) : (txtsX (d.take i)).length ≤ (txtsX d).length := by
  have : txtsX d = txtsX (d.take i) ++ txtsX (d.drop i) := by
    unfold txtsX
    rw [← List.flatMap_append, List.take_append_drop]
  rw [this, List.length_append]
  omega
theorem txtsX_mem {d : List Fx} {t : ByteArray} : t ∈ txtsX d ↔ ∃ x ∈ d, t ∈ x.txt := by simp [txtsX]

theorem temps_sort (fs : List Fld) : sortT ((textsF fs).filterMap tempT) = tempsF fs := by
  refine rising_uniqR totB (sortT_rising _) (told_rising totB _ _) fun z => ?_
  rw [sortT_mem, List.mem_filterMap]
  exact (told_mem totB tempT (textsF fs) z).symm

set_option maxHeartbeats 4000000 in
set_option maxRecDepth 100000 in
theorem temps_any (v : Value) (d : List Fx) (w : World) (hv : IsXs w v d) (hf : FitX d) (hT : (txtsX d).length ≤ 2000000) :
    Calls Try.prog 7 #[v] w fun e w' => ∃ u, e = .returned u ∧ OwnT w.heap.size w' u (tempsF (d.map Fx.fld)) ∧ Below w.heap.size w w' := by
  obtain ⟨i0, hi0, hz0, hz1, hz2⟩ := info_parts Try.infoStr
  have HI := hid hi0
  obtain ⟨p, cap, rfl, hd, ht⟩ := hv
  have HD := hid hd
  have HX := hid ht
  have HF := hid hf.2
  have hl := hf.1
  unfold maxLen at hl
  have HTOT := hid hT
  have HEND := hid (temps_sort (d.map Fx.fld))
  rw [txtsX_flds] at HEND
  clear hd ht hf hi0 hT
  go_enter Try.func7, Try.ntmps7
  go_wp2_with fail
  go_loopg [3, 12] d.length (fun g vs vi wr => ∃ i : Nat, vi = .int .i64 i ∧ i ≤ d.length ∧ d.length - i ≤ g ∧ Hid (Below w.heap.size w wr) ∧ Hid (OwnT w.heap.size wr vs ((txtsX (d.take i)).filterMap tempT)))
  case atStart => exact ⟨0, rfl, by omega, by omega, Below.refl _ _, World.ownsRow_nil _ _ _ _⟩
  case round =>
    obtain ⟨i, rfl, hi, hgk, HB, HO⟩ := hrel
    by_cases hlt : i < d.length
    · have hltz : (i : Int) < (d.length : Int) := by omega
      have hiz : (0 : Int) ≤ i := by omega
      obtain ⟨b, off, rfl, hxs⟩ : ∃ b off, p = some ⟨b, off, none⟩ ∧ XsAt w b off d := by
        rcases HD.out with h | h
        · subst h; simp at hlt
        · exact h
      obtain ⟨c0, c1⟩ := hxs.kept HB.out i hlt
      have hxi : (d[i]).at w := HX.out _ (List.getElem_mem hlt)
      have hfi := HF.out _ (List.getElem_mem hlt)
      have hsu := txtsX_succ d i hlt
      have hpa := txtsX_part d (i + 1)
      have htot := HTOT.out
      obtain ⟨x, hx⟩ : ∃ x, d[i] = x := ⟨_, rfl⟩
      rw [hx] at c0 c1 hxi hfi hsu
      rw [hsu, List.length_append] at hpa
      obtain ⟨nm, p5, c5, ts⟩ := x
      simp only [Fx.at, Fx.sl, Fx.fld] at c0 c1 hxi hfi hsu hpa
      obtain ⟨acc, hacc⟩ : ∃ acc, (txtsX (d.take i)) = acc := ⟨_, rfl⟩
      rw [hacc] at HO hsu hpa
      have hts : acc.length + ts.length ≤ 2000000 := by omega
      have HSU := hid hsu
      have HXI := hid hxi
      have HFI := hid hfi
      have hsz := HB.out.size
      clear hxs hxi hfi hx hsu hpa htot hacc
      have HB1 := hid (HB.out.alloc hsz (.cells #[.string nm, .slice p5 ts.length c5] 41))
      have HO1 := hid (OwnT.on HO.out ((Below.refl _ wr).alloc (Nat.le_refl _) (.cells #[.string nm, .slice p5 ts.length c5] 41)))
      clear HO
      go_wp2_with fail
      go_loopg [3, 19] ts.length (fun g vs vj wr2 => ∃ j : Nat, vj = .int .i64 j ∧ j ≤ ts.length ∧ ts.length - j ≤ g ∧ Hid (Below w.heap.size w wr2) ∧ Hid (OwnT w.heap.size wr2 vs ((acc ++ ts.take j).filterMap tempT)))
      case atStart => exact ⟨0, rfl, by omega, by omega, HB1.out, by show OwnT _ _ _ _; simpa using HO1.out⟩
      case round =>
        obtain ⟨j, rfl, hj, hgj, HBJ, HOJ⟩ := hrel
        by_cases hlj : j < ts.length
        · have hljz : (j : Int) < (ts.length : Int) := by omega
          have hjz : (0 : Int) ≤ j := by omega
          obtain ⟨b2, o2, rfl, ht2⟩ : ∃ b o, p5 = some ⟨b, o, none⟩ ∧ ∀ i, (h : i < ts.length) → w.cell? ⟨b, o + i, none⟩ = some (.string ts[i]) := by
            rcases HXI.out with h | h
            · rw [h] at hlj; simp at hlj
            · exact h
          have t0 : wr.cell? ⟨b2, o2 + j, none⟩ = some (.string ts[j]) := (HBJ.out.cell (p := ⟨b2, o2 + j, none⟩) (cell_block (ht2 j hlj))).trans (ht2 j hlj)
          have htz := HFI.out.2.2 _ (List.getElem_mem hlj)
          have hst : acc ++ ts.take (j + 1) = (acc ++ ts.take j) ++ [ts[j]] := by rw [List.take_succ_eq_append_getElem hlj, List.append_assoc]
          obtain ⟨t, hte⟩ : ∃ t, ts[j] = t := ⟨_, rfl⟩
          rw [hte] at t0 htz hst
          have hal : ((acc ++ ts.take j).filterMap tempT).length ≤ 2000000 := by
            refine Nat.le_trans (List.length_filterMap_le _ _) ?_
            rw [List.length_append, List.length_take]; omega
          obtain ⟨r, bb, hT, hcall⟩ := tempOf_is t htz
          have HC := hid hcall
          have hfm : (acc ++ ts.take (j + 1)).filterMap tempT = (acc ++ ts.take j).filterMap tempT ++ (if bb then [r] else []) := by
            rw [hst, List.filterMap_append]
            congr 1
            rcases hT with ⟨h, rfl⟩ | ⟨h, rfl⟩
            · simp [h]
            · simp [h]
          obtain ⟨L, hL⟩ : ∃ L, (acc ++ ts.take j).filterMap tempT = L := ⟨_, rfl⟩
          rw [hL] at HOJ hal hfm
          have HFM := hid hfm
          have hszj := HBJ.out.size
          clear ht2 htz hst hT hcall hfm hte hL
          cases bb with
          | true =>
            go_wp2_with (first
              | (go_at_call 16; refine (HC.out _).mono ?_; rintro e w2 ⟨rfl, n2, rfl⟩)
              | (at_builtin; refine wpList_append_own _ rfl _ _ 30 rfl w.heap.size 9 i0 (.string ⟨#[]⟩) 1 16 Try.underlying30 HI.out hz0 hz1 hz2 rfl (by decide) _ _ _ rfl (World.ownsRow.alloc HOJ.out _) _ 1 1 [.string r] rfl rfl (fun j u hj => KT.news (wr.drewN n2) r j u hj) (by intro u hu; simp at hu; subst hu; rfl) (by unfold maxLen; omega) (by omega) (by simp; omega) ?_; intro v4 w4 hown4 hg4 hnil4; have HO4 := hid hown4; have HG4 := hid hg4; clear hown4 hg4 hnil4))
            go_roundg (ts.length - (j + 1))
            case measure => omega
            refine ⟨j + 1, by go_num, by omega, by omega, ?_, ?_⟩
            · exact ((bel_drewN HBJ.out n2).alloc hszj _).grown HG4.out (by simp; omega) (fun k hk => (World.ownsRow.lt HOJ.out k hk).1)
            · rw [HFM.out]
              show OwnT _ _ _ _
              unfold OwnT
              rw [List.length_append, List.map_append]
              exact HO4.out
          | false =>
            go_wp2_with (first
              | (go_at_call 16; refine (HC.out _).mono ?_; rintro e w2 ⟨rfl, n2, rfl⟩))
            go_roundg (ts.length - (j + 1))
            case measure => omega
            refine ⟨j + 1, by go_num, by omega, by omega, bel_drewN HBJ.out n2, ?_⟩
            rw [HFM.out, show L ++ (if false = true then [r] else []) = L by simp]
            exact HOJ.out
        · have hljz : ¬ (j : Int) < (ts.length : Int) := by omega
          have hjt : acc ++ ts.take j = txtsX (d.take (i + 1)) := by rw [HSU.out, List.take_of_length_le (by omega)]
          rw [hjt] at HOJ
          clear hjt
          go_wp2_with fail
          go_roundg (d.length - (i + 1))
          case measure => omega
          exact ⟨i + 1, by go_num, by omega, by omega, HBJ.out, HOJ.out⟩
    · have hltz : ¬ (i : Int) < (d.length : Int) := by omega
      have hti : d.take i = d := List.take_of_length_le (by omega)
      rw [hti] at HO
      obtain ⟨L, hL⟩ : ∃ L, (txtsX d).filterMap tempT = L := ⟨_, rfl⟩
      have hLl : L.length ≤ 2000000 := by rw [← hL]; exact Nat.le_trans (List.length_filterMap_le _ _) HTOT.out
      rw [hL] at HO HEND
      have hsz := HB.out.size
      clear hti hL
      go_wp2_with (first
        | (go_at_call 19; refine (sortS_own w.heap.size _ L _ HO.out hsz (by omega)).mono ?_; rintro e w2 ⟨rfl, ho2, hb2⟩; have HO2 := hid ho2; have HB2 := hid hb2; clear ho2 hb2)
        | (go_at_call 20; refine (compS_own w.heap.size _ (orderT L) _ HO2.out (Nat.le_trans hsz HB2.out.size) (by rw [orderT_len]; omega)).mono ?_; rintro e w3 ⟨u3, rfl, ho3, hb3⟩; have HO3 := hid ho3; have HB3 := hid hb3; clear ho3 hb3))
      go_ret
      refine ⟨_, rfl, ?_, (HB.out.trans HB2.out).trans HB3.out⟩
      rw [← HEND.out, ← order_once]
      exact HO3.out

end Go.Proofs.Ytinmagodckkedab

/-
  The contract of changed of package refs: a value of its own, in which each text is what a function makes of it.
-/
namespace Go.Proofs.Ytinmagodckkedab
open Go.RowKit

theorem made_flds (n : Nat) : madeCells (Value.agg #[.string ⟨#[]⟩, .slice none 0 0]).cells (n * 2) = (cellsX (List.replicate n zeroX)).toArray := by
  apply Array.ext
  · rw [size_madeCells]; simp [cellsX_len]
  · intro i h1 h2
    have hi : i < n * 2 := by rw [size_madeCells] at h1; exact h1
    have hg := cellsX_get (List.replicate n zeroX) (i / 2) (by simp; omega)
    simp only [List.getElem_replicate] at hg
    have e : (cellsX (List.replicate n zeroX))[i]? = some ((cellsX (List.replicate n zeroX)).toArray[i]) := by
      rw [List.getElem?_eq_getElem (by simpa using h2)]; simp
    rcases Nat.mod_two_eq_zero_or_one i with hm | hm
    · have e1 : i / 2 * 2 = i := by omega
      rw [e1] at hg
      rw [hg.1] at e
      have : (madeCells (Value.agg #[.string ⟨#[]⟩, .slice none 0 0]).cells (n * 2))[i] = .string ⟨#[]⟩ := by
        simp [madeCells, Value.cells, hm]
      rw [this]
      exact Option.some.inj e
    · have e1 : i / 2 * 2 + 1 = i := by omega
      rw [e1] at hg
      rw [hg.2] at e
      have : (madeCells (Value.agg #[.string ⟨#[]⟩, .slice none 0 0]).cells (n * 2))[i] = .slice none 0 0 := by
        simp [madeCells, Value.cells, hm]
      rw [this]
      exact Option.some.inj e

theorem made_txts (n : Nat) : madeCells (Value.string ⟨#[]⟩).cells (n * 1) = (List.replicate n (Value.string ⟨#[]⟩)).toArray := by
  apply Array.ext
  · rw [size_madeCells]; simp
  · intro i h1 h2
    simp [madeCells, Value.cells, Nat.mod_one]

/-- The texts that have been made, ahead of the first round. -/
theorem own_zeros {N : Nat} {w : World} (hN : N ≤ w.heap.size) (n : Nat) (hn : n ≤ maxLen) (S : Nat) (hS : S = w.heap.size) : OwnT N (w.alloc (.cells (List.replicate n (Value.string ⟨#[]⟩)).toArray 9)) (.slice (some ⟨S, 0, none⟩) n n) (List.replicate n ⟨#[]⟩) := by
  subst hS
  refine ⟨by simp, Or.inr ⟨w.heap.size, n, _, by simp, hN, heap_alloc_new w _, by simp, hn, by simp, ?_⟩⟩
  simp

theorem xst_made (w : World) (n : Nat) (hn : n ≤ maxLen) : XSt w.heap.size w.heap.size w.heap.size w (.slice (some ⟨w.heap.size, 0, none⟩) n n) (List.replicate n zeroX) (w.alloc (.cells (cellsX (List.replicate n zeroX)).toArray 41)) := by
  have hl := cellsX_len (List.replicate n zeroX)
  rw [List.length_replicate] at hl
  refine ⟨⟨⟨?_, fun x hx => ?_⟩, apart_zeros n⟩, fun k hk => ?_, fun x hx k hk => ?_, ?_⟩
  · refine ⟨by rw [cellsX_len], Or.inr ⟨w.heap.size, n, _, by simp, Nat.le_refl _, heap_alloc_new w _, by simp, hn, by simp [hl], ?_⟩⟩
    rw [List.length_replicate, List.take_of_length_le (by simp [hl])]
  · rw [List.eq_of_mem_replicate hx]
    exact World.ownsRow_nil _ _ _ _
  · simp [Value.ownBlock] at hk; omega
  · rw [List.eq_of_mem_replicate hx] at hk; cases hk
  · have hb : Below w.heap.size w (w.alloc (.cells (cellsX (List.replicate n zeroX)).toArray 41)) := (Below.refl _ _).alloc (Nat.le_refl _) _
    exact ⟨hb.os, hb.tape, hb.output, hb.size, fun k hk _ => hb.block k hk⟩

/-- What a field's texts are, when j of them have been made. -/
def partT (g : ByteArray → ByteArray) (ts : List ByteArray) (j : Nat) : List ByteArray := (ts.take j).map g ++ List.replicate (ts.length - j) ⟨#[]⟩
theorem partT_len (g : ByteArray → ByteArray) (ts : List ByteArray) (j : Nat) (h : j ≤ ts.length) : (partT g ts j).length = ts.length := by
  unfold partT; simp; omega
theorem partT_zero (g : ByteArray → ByteArray) (ts : List ByteArray) : partT g ts 0 = List.replicate ts.length ⟨#[]⟩ := by simp [partT]
theorem partT_all (g : ByteArray → ByteArray) (ts : List ByteArray) : partT g ts ts.length = ts.map g := by simp [partT]
theorem partT_step (g : ByteArray → ByteArray) (ts : List ByteArray) (j : Nat) (h : j < ts.length) : (partT g ts j).set j (g ts[j]) = partT g ts (j + 1) := by
  unfold partT
  apply List.ext_getElem?
  intro k
  have hl : ((ts.take j).map g).length = j := by simp; omega
  have hl2 : ((ts.take (j + 1)).map g).length = j + 1 := by simp; omega
  rw [List.getElem?_set]
  by_cases hk : j = k
  · subst hk
    rw [if_pos rfl, if_pos (by simp; omega), List.getElem?_append_left (by omega)]
    simp [h]
  · rw [if_neg hk]
    by_cases hlt : k < j
    · rw [List.getElem?_append_left (by omega), List.getElem?_append_left (by omega)]
      simp [hlt, show k < j + 1 by omega]
    · rw [List.getElem?_append_right (by omega), List.getElem?_append_right (by omega), hl, hl2]
      simp only [List.getElem?_replicate]
      by_cases hb : k < ts.length
      · rw [if_pos (by omega), if_pos (by omega)]
      · rw [if_neg (by omega), if_neg (by omega)]

def ChIn (w : World) (d : List Fx) (g : ByteArray → ByteArray) (i : Nat) (o : List Fx) (W : World) : Prop :=
  o.length = d.length ∧ XSt w.heap.size w.heap.size w.heap.size w (.slice (some ⟨w.heap.size, 0, none⟩) d.length d.length) o W ∧ ∀ k, (h : k < o.length) → (h' : k < d.length) → k < i → (o[k]).fld = ((d[k]).name, (d[k]).txt.map g)

theorem ChIn.on {w : World} {d : List Fx} {g : ByteArray → ByteArray} {i : Nat} {o : List Fx} {W W' : World} (h : ChIn w d g i o W) (hb : Below W.heap.size W W') : ChIn w d g i o W' := ⟨h.1, h.2.1.on hb, h.2.2⟩
theorem ChIn.below {w : World} {d : List Fx} {g : ByteArray → ByteArray} {i : Nat} {o : List Fx} {W : World} (h : ChIn w d g i o W) : Below w.heap.size w W := h.2.1.below rfl

theorem ChIn.done {w : World} {d : List Fx} {g : ByteArray → ByteArray} {o : List Fx} {W : World} (h : ChIn w d g d.length o W) : o.map Fx.fld = mapT g (d.map Fx.fld) := by
  obtain ⟨h1, _, h3⟩ := h
  apply List.ext_getElem
  · simp [mapT, h1]
  · intro k hk hk'
    have hk1 : k < o.length := by simpa using hk
    have := h3 k hk1 (by omega) (by omega)
    rw [List.getElem_map, this]
    simp [mapT, Fx.fld]

/-- A row's cells at i. -/
theorem ChIn.cells {w : World} {d : List Fx} {g : ByteArray → ByteArray} {i : Nat} {o : List Fx} {W : World} (h : ChIn w d g i o W) {k : Nat} (hk : k < o.length) :
    W.cell? ⟨w.heap.size, k * 2, none⟩ = some (.string (o[k]).name) ∧ W.cell? ⟨w.heap.size, k * 2 + 1, none⟩ = some (o[k]).sl ∧ (∀ j, W.frozen? ⟨w.heap.size, j, none⟩ = false) := by
  obtain ⟨h1, h2, _⟩ := h
  obtain ⟨c0, c1⟩ := cellsX_get o k hk
  have hrow := h2.own.1.1
  rw [h1] at hrow
  refine ⟨?_, ?_, fun j => World.ownsRow.frozenAt hrow j⟩
  · rw [World.ownsRow.cellAt hrow (k * 2) (by omega)]; exact c0
  · rw [World.ownsRow.cellAt hrow (k * 2 + 1) (by omega)]; exact c1

theorem ChIn.drew {w : World} {d : List Fx} {g : ByteArray → ByteArray} {i : Nat} {o : List Fx} {W : World} (h : ChIn w d g i o W) (n : Nat) : ChIn w d g i o (W.drewN n) := h.on (bel_drewN (Below.refl _ _) n)

/-- A field's place is taken by its name and texts that are still to be made. -/
theorem ChIn.fresh {w : World} {d : List Fx} {g : ByteArray → ByteArray} {i : Nat} {o : List Fx} {W : World} (h : ChIn w d g i o W) (hi : i < o.length) (nm : ByteArray) (n S : Nat) (hS : S = W.heap.size) (hn : n ≤ maxLen) :
    ChIn w d g i (o.set i ⟨nm, some ⟨S, 0, none⟩, n, List.replicate n ⟨#[]⟩⟩) (((W.alloc (.cells (List.replicate n (Value.string ⟨#[]⟩)).toArray 9)).setCell ⟨w.heap.size, i * 2, none⟩ (.string nm)).setCell ⟨w.heap.size, i * 2 + 1, none⟩ (.slice (some ⟨S, 0, none⟩) n n)).drew := by
  obtain ⟨h1, h2, h3⟩ := h
  have hsz := (h2.below rfl).size
  have hb : Below W.heap.size W (W.alloc (.cells (List.replicate n (Value.string ⟨#[]⟩)).toArray 9)) := (Below.refl _ _).alloc (Nat.le_refl _) _
  have hx := own_zeros (N := w.heap.size) (w := W) hsz n hn S hS
  have hsl : (⟨nm, some ⟨S, 0, none⟩, n, List.replicate n ⟨#[]⟩⟩ : Fx).sl = .slice (some ⟨S, 0, none⟩) n n := by simp [Fx.sl]
  have hp := (h2.on hb).put h1 hi ⟨nm, some ⟨S, 0, none⟩, n, List.replicate n ⟨#[]⟩⟩ (by rw [hsl]; exact hx) (by rw [hsl]; intro k hk; simp [Value.ownBlock] at hk; omega) (fun j hj hne => by
    right
    rw [hsl]
    intro e
    have := (World.ownsRow.lt (show W.ownsRow w.heap.size 9 1 (o[j]).sl (o[j]).txt.length ((o[j]).txt.map Value.string) from h2.own.1.2 _ (List.getElem_mem hj)) S (by rw [e]; rfl)).2
    omega)
  rw [hsl] at hp
  refine ⟨by rw [List.length_set]; exact h1, hp.on (bel_drewN (Below.refl _ _) 1), fun k hk hk' hki => ?_⟩
  rw [List.getElem_set, if_neg (by omega)]
  exact h3 k (by simpa using hk) hk' hki

theorem ChIn.text {w : World} {d : List Fx} {g : ByteArray → ByteArray} {i : Nat} {o : List Fx} {W : World} (h : ChIn w d g i o W) {nm : ByteArray} {T n j : Nat} {ts : List ByteArray} (hn : o[i]? = some ⟨nm, some ⟨T, 0, none⟩, n, partT g ts j⟩) (hj : j < ts.length) :
    ChIn w d g i (o.set i ⟨nm, some ⟨T, 0, none⟩, n, partT g ts (j + 1)⟩) (W.setCell ⟨T, j, none⟩ (.string (g ts[j]))) := by
  obtain ⟨h1, h2, h3⟩ := h
  obtain ⟨hi, he⟩ := List.getElem?_eq_some_iff.1 hn
  have := h2.wipe hi (j := j) (gt := T) (by rw [he]) (g ts[j])
  rw [he] at this
  simp only [partT_step g ts j hj] at this
  refine ⟨by rw [List.length_set]; exact h1, this, fun k hk hk' hki => ?_⟩
  rw [List.getElem_set, if_neg (by omega)]
  exact h3 k (by simpa using hk) hk' hki

theorem ChIn.next {w : World} {d : List Fx} {g : ByteArray → ByteArray} {i : Nat} {o : List Fx} {W : World} (h : ChIn w d g i o W) {nm : ByteArray} {p : Option Addr} {n : Nat} {ts : List ByteArray} (hn : o[i]? = some ⟨nm, p, n, partT g ts ts.length⟩) (hi : i < d.length) {q : Option Addr} {c : Nat} (hd : d[i] = ⟨nm, q, c, ts⟩) : ChIn w d g (i + 1) o W := by
  obtain ⟨h1, h2, h3⟩ := h
  refine ⟨h1, h2, fun k hk hk' hki => ?_⟩
  by_cases e : k = i
  · subst e
    obtain ⟨hi', he⟩ := List.getElem?_eq_some_iff.1 hn
    rw [he, hd]
    simp [Fx.fld, partT_all]
  · exact h3 k hk hk' (by omega)

/-- The texts' own cells at i. -/
theorem ChIn.texts {w : World} {d : List Fx} {g : ByteArray → ByteArray} {i : Nat} {o : List Fx} {W : World} (h : ChIn w d g i o W) {nm : ByteArray} {T n : Nat} {us : List ByteArray} (hn : o[i]? = some ⟨nm, some ⟨T, 0, none⟩, n, us⟩) {j : Nat} (hj : j < us.length) :
    W.cell? ⟨T, j, none⟩ = some (.string us[j]) ∧ W.frozen? ⟨T, j, none⟩ = false ∧ W.cell? ⟨w.heap.size, i * 2 + 1, none⟩ = some (.slice (some ⟨T, 0, none⟩) us.length n) := by
  obtain ⟨hi, he⟩ := List.getElem?_eq_some_iff.1 hn
  have hc := (h.cells hi).2.1
  rw [he] at hc
  have ho := h.2.1.own.1.2 _ (List.getElem_mem hi)
  rw [he] at ho
  have hrow : W.ownsRow w.heap.size 9 1 (.slice (some ⟨T, 0, none⟩) us.length n) us.length (us.map Value.string) := ho
  refine ⟨?_, World.ownsRow.frozenAt hrow j, hc⟩
  rw [World.ownsRow.cellAt hrow j (by omega)]
  simp [hj]

end Go.Proofs.Ytinmagodckkedab

/-
  The walk of changed of package refs.
-/
namespace Go.Proofs.Ytinmagodckkedab
open Go.RowKit

set_option maxHeartbeats 8000000 in
set_option maxRecDepth 100000 in
theorem changed_any (F : Nat) (lb : Array Value) (g : ByteArray → ByteArray) (v : Value) (d : List Fx) (w : World) (hv : IsXs w v d) (hf : FitX d) (hn40 : d.length * 40 ≤ 281474976710656) (hn16 : ∀ x ∈ d, x.txt.length * 16 ≤ 281474976710656)
    (eg : ∀ args w, (callFunc F args).run Try.prog w = .ok (.enter F args) w)
    (hg : ∀ t ∈ txtsX d, ∀ W, Below w.heap.size w W → Calls Try.prog F (#[.string t] ++ lb) W fun e w' => e = .returned (.string (g t)) ∧ Below W.heap.size W w') :
    Calls Try.prog 14 #[v, .func (.func F) #[] lb] w fun e w' => ∃ u o, e = .returned u ∧ OwnJ w.heap.size w' u o ∧ o.map Fx.fld = mapT g (d.map Fx.fld) ∧ Below w.heap.size w w' := by
  obtain ⟨j0, hj0, hy0, hy1, hy2⟩ := info_parts Try.infoFld
  obtain ⟨i0, hi0, hz0, hz1, hz2⟩ := info_parts Try.infoStr
  obtain ⟨p, cap, rfl, hd, ht⟩ := hv
  have HD := hid hd
  have HX := hid ht
  have HF := hid hf.2
  have hlm := hf.1
  have hl := hf.1
  unfold maxLen at hl
  have HN16 := hid hn16
  have HG := hid hg
  have hmk0 : (Instr.makeSlice 22 (.int .i64 (d.length : Int)) (.int .i64 (d.length : Int))).run Try.prog w = .ok (.slice (some ⟨w.heap.size, 0, none⟩) d.length d.length) (w.alloc (.cells (cellsX (List.replicate d.length zeroX)).toArray 41)) := by
    have := run_make (P := Try.prog) w 22 41 j0 (.agg #[.string ⟨#[]⟩, .slice none 0 0]) Try.underlying22 hj0 hy0 .i64 .i64 (d.length : Int) (d.length : Int) (by omega) (by omega) (by rw [hy2]; omega) (by omega)
    rw [this, hy1, Int.toNat_natCast, made_flds]
  have HMK : Hid (∀ (n : Nat), n * 16 ≤ 281474976710656 → ∀ W : World, (Instr.makeSlice 30 (.int .i64 (n : Int)) (.int .i64 (n : Int))).run Try.prog W = .ok (.slice (some ⟨W.heap.size, 0, none⟩) n n) (W.alloc (.cells (List.replicate n (Value.string ⟨#[]⟩)).toArray 9))) := fun n hn W => by
    have := run_make (P := Try.prog) W 30 9 i0 (.string ⟨#[]⟩) Try.underlying30 hi0 hz0 .i64 .i64 (n : Int) (n : Int) (by omega) (by omega) (by rw [hz2]; omega) (by omega)
    rw [this, hz1, Int.toNat_natCast, made_txts]
  have IN0 : Hid (ChIn w d g 0 (List.replicate d.length zeroX) (w.alloc (.cells (cellsX (List.replicate d.length zeroX)).toArray 41))) := ⟨by simp, xst_made w d.length hlm, fun k _ _ h => by omega⟩
  obtain ⟨L00, hL00⟩ : ∃ L00, (cellsX (List.replicate d.length zeroX)).toArray = L00 := ⟨_, rfl⟩
  rw [hL00] at hmk0 IN0
  clear hd ht hf hn16 hg hj0 hi0 hL00 hlm
  go_enter Try.func14, Try.ntmps14
  go_wp2_with fail
  clear hmk0
  go_loopg [15] d.length (fun gg vi wr => ∃ (i : Nat) (o : List Fx), vi = .int .i64 i ∧ i ≤ d.length ∧ d.length - i ≤ gg ∧ Hid (ChIn w d g i o wr))
  case atStart => exact ⟨0, _, rfl, by omega, by omega, IN0.out⟩
  case round =>
    clear IN0
    obtain ⟨i, o, rfl, hi, hgk, HC⟩ := hrel
    by_cases hlt : i < d.length
    · have hltz : (i : Int) < (d.length : Int) := by omega
      have hiz : (0 : Int) ≤ i := by omega
      obtain ⟨b, off, rfl, hxs⟩ : ∃ b off, p = some ⟨b, off, none⟩ ∧ XsAt w b off d := by
        rcases HD.out with h | h
        · subst h; simp at hlt
        · exact h
      obtain ⟨c0, c1⟩ := hxs.kept HC.out.below i hlt
      have hxi : (d[i]).at w := HX.out _ (List.getElem_mem hlt)
      have hx16 := HN16.out _ (List.getElem_mem hlt)
      have hmem := List.getElem_mem hlt
      obtain ⟨x, hx⟩ : ∃ x, d[i] = x := ⟨_, rfl⟩
      rw [hx] at c0 c1 hxi hx16 hmem
      have HGX := hid hx
      obtain ⟨nm, p5, c5, ts⟩ := x
      simp only [Fx.at, Fx.sl] at c0 c1 hxi hx16
      have hmk := HMK.out ts.length hx16
      obtain ⟨L0, hL0⟩ : ∃ L0, (List.replicate ts.length (Value.string ⟨#[]⟩)).toArray = L0 := ⟨_, rfl⟩
      rw [hL0] at hmk
      have HL0 := hid hL0
      have HXI := hid hxi
      have HME := hid hmem
      have HGT : Hid (∀ j, (h : j < ts.length) → ∀ W, Below w.heap.size w W → Calls Try.prog F (#[.string ts[j]] ++ lb) W fun e w' => e = .returned (.string (g ts[j])) ∧ Below W.heap.size W w') := fun j h W hW => HG.out _ (txtsX_mem.2 ⟨_, hmem, List.getElem_mem h⟩) W hW
      have hol := HC.out.1
      have hio : i < o.length := by omega
      clear hxs hxi hx hmem hL0
      obtain ⟨W1, hW1⟩ : ∃ W1, wr.alloc (.cells #[.string nm, .slice p5 ts.length c5] 41) = W1 := ⟨_, rfl⟩
      obtain ⟨S, hS⟩ : ∃ S, wr.heap.size = S := ⟨_, rfl⟩
      have hb1 : Below wr.heap.size wr W1 := by rw [← hW1]; exact (Below.refl _ _).alloc (Nat.le_refl _) _
      have hs1 : W1.heap.size = S + 1 := by rw [← hW1, ← hS]; simp
      have HC1 := hid (HC.out.on hb1)
      have hbox : ∀ W, Below W1.heap.size W1 W → W.cell? ⟨S, 0, none⟩ = some (.string nm) ∧ W.cell? ⟨S, 1, none⟩ = some (.slice p5 ts.length c5) := fun W hW => by
        have h0 : W1.heap[S]? = some (.cells #[.string nm, .slice p5 ts.length c5] 41 (0, 0)) := by rw [← hW1, ← hS]; exact heap_alloc_new wr _
        have h1 := (hW.block S (by omega)).trans h0
        rw [Lib.cell_of_heap h1, Lib.cell_of_heap h1]
        exact ⟨rfl, rfl⟩
      obtain ⟨q0, q1, q2⟩ := HC1.out.cells hio
      obtain ⟨on, hon⟩ : ∃ on, (o[i]).name = on := ⟨_, rfl⟩
      obtain ⟨os, hos⟩ : ∃ os, (o[i]).sl = os := ⟨_, rfl⟩
      rw [hon] at q0
      rw [hos] at q1
      obtain ⟨b0, b1⟩ := hbox W1 (Below.refl _ _)
      have HBOX := hid hbox
      have r0 : ∀ ob, (W1.alloc ob).cell? ⟨w.heap.size, i * 2, none⟩ = some (.string on) := fun ob => kept_new ob q0
      have r1 : ∀ ob, (W1.alloc ob).cell? ⟨w.heap.size, i * 2 + 1, none⟩ = some os := fun ob => kept_new ob q1
      have hNlt : w.heap.size < W1.heap.size := cell_lt q0
      have r2 : ∀ ob j, (W1.alloc ob).frozen? ⟨w.heap.size, j, none⟩ = false := fun ob j => by
        rw [← q2 j]; exact ((Below.refl _ W1).alloc (Nat.le_refl _) ob).frozen (p := ⟨w.heap.size, j, none⟩) hNlt
      have HS := hid hS
      clear hon hos hbox hb1
      go_upto_region 5 with fail
      try rw [hS]
      try rw [hW1]
      clear hW1 hS
      go_region
      have HJ0 := hid (HC1.out.fresh hio nm ts.length (S + 1) hs1.symm (by unfold maxLen; omega))
      rw [HL0.out] at HJ0
      obtain ⟨W2, hW2⟩ : ∃ W2, (((W1.alloc (.cells L0 9)).setCell ⟨w.heap.size, i * 2, none⟩ (.string nm)).setCell ⟨w.heap.size, i * 2 + 1, none⟩ (.slice (some ⟨S + 1, 0, none⟩) ts.length ts.length)).drew = W2 := ⟨_, rfl⟩
      rw [hW2] at HJ0 ⊢
      have hNS : w.heap.size < S := by
        have := HC.out.2.1.own.1.1
        have h2 := (World.ownsRow.lt this w.heap.size (by rfl)).2
        rw [HS.out] at h2
        exact h2
      have hbx2 : W2.cell? ⟨S, 0, none⟩ = some (.string nm) ∧ W2.cell? ⟨S, 1, none⟩ = some (.slice p5 ts.length c5) := by
        have h0 := HBOX.out (W1.alloc (.cells L0 9)) ((Below.refl _ _).alloc (Nat.le_refl _) _)
        have hg2 : (W1.alloc (.cells L0 9)).grownBy W2 (some w.heap.size) := by
          rw [← hW2]
          have h2 := grown_set ((W1.alloc (.cells L0 9)).setCell ⟨w.heap.size, i * 2, none⟩ (.string nm)) w.heap.size (i * 2 + 1) (.slice (some ⟨S + 1, 0, none⟩) ts.length ts.length)
          exact grown_trans (grown_set _ w.heap.size (i * 2) (.string nm)) ⟨h2.os, h2.tape, h2.output, h2.size, h2.block⟩
        refine ⟨?_, ?_⟩
        · rw [hg2.cell_far ⟨S, 0, none⟩ (by simp; omega) (by simp; omega)]; exact h0.1
        · rw [hg2.cell_far ⟨S, 1, none⟩ (by simp; omega) (by simp; omega)]; exact h0.2
      obtain ⟨e0, e1⟩ := hbx2
      have HO0 : Hid ((o.set i ⟨nm, some ⟨S + 1, 0, none⟩, ts.length, List.replicate ts.length ⟨#[]⟩⟩)[i]? = some ⟨nm, some ⟨S + 1, 0, none⟩, ts.length, partT g ts 0⟩) := by
        show _ = _
        rw [List.getElem?_set_self hio, partT_zero]
      clear hW2 q0 q1 q2 r0 r1 r2 b0 b1 c0 c1 hmk HC HC1
      go_wp2_with fail
      go_loopg [33] ts.length (fun gg vj wr2 => ∃ (j : Nat) (o2 : List Fx), vj = .int .i64 j ∧ j ≤ ts.length ∧ ts.length - j ≤ gg ∧ Hid (ChIn w d g i o2 wr2) ∧ Hid (o2[i]? = some ⟨nm, some ⟨S + 1, 0, none⟩, ts.length, partT g ts j⟩))
      case atStart => exact ⟨0, _, rfl, by omega, by omega, HJ0.out, HO0.out⟩
      case round =>
        clear HJ0 HO0 e0 e1
        obtain ⟨j, o2, rfl, hj, hgj, HCJ, HOJ⟩ := hrel
        by_cases hlj : j < ts.length
        · have hljz : (j : Int) < (ts.length : Int) := by omega
          have hjz : (0 : Int) ≤ j := by omega
          obtain ⟨b2, of2, rfl, ht2⟩ : ∃ b o, p5 = some ⟨b, o, none⟩ ∧ ∀ i, (h : i < ts.length) → w.cell? ⟨b, o + i, none⟩ = some (.string ts[i]) := by
            rcases HXI.out with h | h
            · rw [h] at hlj; simp at hlj
            · exact h
          have hbel := HCJ.out.below
          have t0 : wr.cell? ⟨b2, of2 + j, none⟩ = some (.string ts[j]) := (hbel.cell (p := ⟨b2, of2 + j, none⟩) (cell_block (ht2 j hlj))).trans (ht2 j hlj)
          have hpl := partT_len g ts j hj
          obtain ⟨k0, k1, k2⟩ := HCJ.out.texts HOJ.out (j := j) (by omega)
          rw [hpl] at k2
          have KS : Hid (∀ W, Below wr.heap.size wr W → W.cell? ⟨w.heap.size, i * 2 + 1, none⟩ = some (.slice (some ⟨S + 1, 0, none⟩) ts.length ts.length) ∧ (∃ u, W.cell? ⟨S + 1, j, none⟩ = some u) ∧ W.frozen? ⟨S + 1, j, none⟩ = false) := fun W hW => by
            obtain ⟨a0, a1, a2⟩ := (HCJ.out.on hW).texts HOJ.out (j := j) (by omega)
            rw [hpl] at a2
            exact ⟨a2, ⟨_, a0⟩, a1⟩
          have HCALL := hid (fun W hW => HGT.out j hlj W hW)
          have HSTEP := hid (fun W hW => (HCJ.out.on (W' := W) hW).text HOJ.out hlj)
          have HSET : Hid (i < o2.length) := (List.getElem?_eq_some_iff.1 HOJ.out).1
          obtain ⟨t, hte⟩ : ∃ t, ts[j] = t := ⟨_, rfl⟩
          obtain ⟨r, hr⟩ : ∃ r, g t = r := ⟨_, rfl⟩
          rw [hte] at t0 HCALL HSTEP
          rw [hr] at HCALL HSTEP
          have HBEL := hid hbel
          have hd0 := KS.out wr.drew (bel_drewN (Below.refl _ _) 1)
          clear ht2 hte hr hpl hbel k0 k1 k2
          go_upto_region 9 with fail
          go_region_held3 (fun w' => w'.cell? ⟨w.heap.size, i * 2 + 1, none⟩ = some (.slice (some ⟨S + 1, 0, none⟩) ts.length ts.length))
            (first | exact hd0.1 | exact hd2.1 | exact hd3 _)
            (first | (go_at_fn F; refine (HCALL.out _ (bel_drewN HBEL.out 1)).mono ?_; rintro e w2 ⟨rfl, hb2⟩; have hb2' := bel_then (bel_drewN (Below.refl wr.heap.size wr) 1) (Nat.le_refl _) hb2; have hd2 := KS.out w2 hb2'; obtain ⟨hd21, ⟨u2, hd22⟩, hd23⟩ := id hd2; have hd3 := (fun u => ((grown_set w2 (S + 1) j u).cell_far ⟨w.heap.size, i * 2 + 1, none⟩ (cell_lt hd21) (by simp; omega)).trans hd21)))
          go_wp2_with fail
          go_roundg (ts.length - (j + 1))
          case measure => omega
          refine ⟨j + 1, _, by go_num, by omega, by omega, HSTEP.out w2 hb2', ?_⟩
          show _ = _
          rw [List.getElem?_set_self HSET.out]
        · have hljz : ¬ (j : Int) < (ts.length : Int) := by omega
          have hje : j = ts.length := by omega
          subst hje
          have HN := hid (HCJ.out.next HOJ.out hlt HGX.out)
          clear HCJ
          go_wp2_with fail
          go_roundg (d.length - (i + 1))
          case measure => omega
          exact ⟨i + 1, o2, by go_num, by omega, by omega, HN.out⟩
    · have hltz : ¬ (i : Int) < (d.length : Int) := by omega
      have hie : i = d.length := by omega
      subst hie
      go_wp2_with fail
      go_ret
      exact ⟨_, rfl, o, HC.out.2.1.own, HC.out.done, HC.out.below⟩

end Go.Proofs.Ytinmagodckkedab

/-
  The contract of Points of package refs.
-/
namespace Go.Proofs.Ytinmagodckkedab
open Go.RowKit

def pointsB (fs : List Fld) (k : Ky) : Bool := fs.any fun f => f.2.any fun t => decide (namedT t = some k)
theorem pointsB_iff {fs : List Fld} {k : Ky} : pointsB fs k = true ↔ pointsF fs k := by
  unfold pointsB pointsF
  simp only [List.any_eq_true, decide_eq_true_eq]

theorem named_iff {k : Ky} (hk : keyOK k = true) (t : ByteArray) : namedT t = some k ↔ t = refT k := by
  constructor
  · intro h; exact (namedT_some h).1
  · rintro rfl; exact namedT_ref hk

theorem points_no {fs : List Fld} {k : Ky} (hk : keyOK k = false) : pointsB fs k = false := by
  cases h : pointsB fs k with
  | false => rfl
  | true =>
    obtain ⟨f, _, t, _, e⟩ := pointsB_iff.1 h
    rw [(namedT_some e).2] at hk
    cases hk

theorem contains_any (ts : List ByteArray) (r : ByteArray) : Lib.containsS ts r = ts.any fun t => decide (t = r) := by
  rw [Bool.eq_iff_iff, Lib.containsS_iff, List.any_eq_true]
  constructor
  · intro h; exact ⟨r, h, by simp⟩
  · rintro ⟨t, ht, e⟩; rw [← of_decide_eq_true e]; exact ht

theorem attach_list {α : Type} {P : α → Prop} : ∀ d : List α, (∀ x ∈ d, P x) → ∃ zs : List { x : α // P x }, zs.map (·.1) = d
  | [], _ => ⟨[], rfl⟩
  | x :: d, h => by
    obtain ⟨zs, hz⟩ := attach_list d fun y hy => h y (List.mem_cons_of_mem _ hy)
    exact ⟨⟨x, h x (by simp)⟩ :: zs, by simp [hz]⟩

theorem containsT_any (p : Option Addr) (c : Nat) (ts : List ByteArray) (r : ByteArray) (w : World) (h : TxtAt w p ts) (hl : ts.length ≤ maxLen) :
    Calls Try.prog 24 #[.slice p ts.length c, .string r] w fun e w' => e = .returned (.bool (ts.any fun t => decide (t = r))) ∧ w' = w := by
  rcases h with rfl | ⟨b, off, rfl, hc⟩
  · exact Try.slices_Contains_string_empty p c r w
  · unfold maxLen at hl
    refine (Try.slices_Contains_string b off ts.length c ts r w (Nat.le_refl _) (by omega) (fun j hj => ?_)).mono ?_
    · rw [hc j hj, List.getD_eq_getElem?_getD, List.getElem?_eq_getElem hj]
      rfl
    · rintro e w' ⟨rfl, rfl⟩
      exact ⟨ret_bool (by rw [List.take_length, contains_any]), rfl⟩

set_option maxHeartbeats 1000000 in
theorem points1_any (B : Nat) (r : ByteArray) (x : Fx) (W : World) (hB : W.cell? ⟨B, 0, none⟩ = some (.string r)) (hx : x.at W) (hl : x.txt.length ≤ maxLen) :
    Calls Try.prog 23 (#[.agg (encX x).toArray] ++ #[.pointer (some ⟨B, 0, none⟩)]) W fun e w' => e = .returned (.bool (x.txt.any fun t => decide (t = r))) ∧ Below W.heap.size W w' := by
  obtain ⟨nm, p, c, ts⟩ := x
  simp only [encX, Fx.sl]
  have hb := (Below.refl W.heap.size W).alloc (Nat.le_refl _) (.cells #[.string nm, .slice p ts.length c] 41)
  have HC := hid (containsT_any p c ts r _ (TxtAt.kept hx hb) hl)
  have hB2 : (W.alloc (.cells #[.string nm, .slice p ts.length c] 41)).cell? ⟨B, 0, none⟩ = some (.string r) := kept_new _ hB
  obtain ⟨q, hq⟩ : ∃ q, (ts.any fun t => decide (t = r)) = q := ⟨_, rfl⟩
  rw [hq] at HC ⊢
  clear hx hB hq
  show Calls Try.prog 23 #[.agg #[.string nm, .slice p ts.length c], .pointer (some ⟨B, 0, none⟩)] W _
  go_enter Try.func23, Try.ntmps23
  go_wp2_with (first | (go_at_call 24; refine HC.out.mono ?_; rintro e w1 ⟨rfl, rfl⟩))
  go_ret
  exact ⟨rfl, hb⟩

def AtX (w : World) : Type := { x : Fx // x.at w ∧ x.txt.length ≤ maxLen }
instance (w : World) : Inhabited (AtX w) := ⟨⟨zeroX, Or.inl rfl, Nat.zero_le _⟩⟩
def encA {w : World} (x : AtX w) : List Value := encX x.1

theorem enters_points1 : ∀ args w, (callFunc 23 args).run Try.prog w = .ok (.enter 23 args) w := enters_of Try.func23 (by kernel_rfl) rfl

set_option maxHeartbeats 1000000 in
theorem hasPt_none (p : Option Addr) (cap : Nat) (fv : Value) (w : World) : Calls Try.prog 22 #[.slice p 0 cap, fv] w fun e w' => e = .returned (.bool false) ∧ w' = w := by
  have hi : ∀ W, Calls Try.prog 37 #[.slice p 0 cap, fv] W fun e w' => e = .returned (.int .i64 (-1)) ∧ w' = W := fun W => by
    go_enter Try.func37, Try.ntmps37
    go_wp2_with fail
    refine wp_loop_rounds 1 ?_
    rw [rounds_succ]
    go_wp2_with fail
    go_ret
    exact ⟨rfl, rfl⟩
  have HI := hid hi
  clear hi
  go_enter Try.func22, Try.ntmps22
  go_wp2_with (first | (go_at_call 37; refine (HI.out _).mono ?_; rintro e w1 ⟨rfl, rfl⟩))
  go_ret
  exact ⟨rfl, rfl⟩

theorem hasPt_any (B : Nat) (r : ByteArray) (p : Option Addr) (cap : Nat) (d : List Fx) (w : World) (hB : w.cell? ⟨B, 0, none⟩ = some (.string r)) (hd : d = [] ∨ ∃ b off, p = some ⟨b, off, none⟩ ∧ XsAt w b off d) (ht : ∀ x ∈ d, x.at w) (hf : FitX d) :
    Calls Try.prog 22 #[.slice p d.length cap, .func (.func 23) #[] #[.pointer (some ⟨B, 0, none⟩)]] w fun e w' => e = .returned (.bool (d.any fun x => x.txt.any fun t => decide (t = r))) ∧ Below w.heap.size w w' := by
  rcases hd with rfl | ⟨b, off, rfl, hxs⟩
  · exact (hasPt_none _ _ _ w).mono fun e w' ⟨h1, h2⟩ => ⟨h1, by rw [h2]; exact Below.refl _ _⟩
  · have hlt : d ≠ [] → b < w.heap.size := fun hne => cell_block (hxs 0 (List.length_pos_iff.2 hne)).1
    by_cases hne : d = []
    · subst hne
      exact (hasPt_none _ _ _ w).mono fun e w' ⟨h1, h2⟩ => ⟨h1, by rw [h2]; exact Below.refl _ _⟩
    · have hall : ∀ x ∈ d, x.at w ∧ x.txt.length ≤ maxLen := fun x hx => ⟨ht x hx, (hf.2 x hx).2.1⟩
      obtain ⟨zs, hzs⟩ : ∃ zs : List (AtX w), zs.map (·.1) = d := attach_list d hall
      have hlen : zs.length = d.length := by rw [← hzs, List.length_map]
      have hl := hf.1
      unfold maxLen at hl
      have hc := AnyQ.slices_ContainsFunc (α := AtX w) Try.hasFld 2 Try.isAgg41 Try.sizeOf41 encA (fun _ => rfl) (fun x => x.1.txt.any fun t => decide (t = r)) 23 #[.pointer (some ⟨B, 0, none⟩)] enters_points1 b off d.length cap zs w
        (fun W x hW => (points1_any B r x.1 W ((hW.cell (p := ⟨B, 0, none⟩) (cell_block hB)).trans hB) (TxtAt.kept x.2.1 hW) x.2.2).mono fun e w' ⟨h1, h2⟩ => ⟨h1, bel_then hW hW.size h2⟩)
        (by omega) (by omega) (hlt hne)
        (fun j hj i v hv => by
          have hj' : j < d.length := by omega
          have e : (zs[j]!).1 = d[j] := by
            rw [getElem!_pos zs j hj]
            have : (zs.map (·.1))[j]'(by simpa using hj) = d[j] := by simp [hzs]
            simpa using this
          have hv' : (encX d[j])[i]? = some v := by rw [← e]; exact hv
          obtain ⟨c0, c1⟩ := hxs j hj'
          match i, hv' with
          | 0, hv' => simp [encX] at hv'; subst hv'; exact c0
          | 1, hv' => simp [encX] at hv'; subst hv'; exact c1
          | i + 2, hv' => simp [encX] at hv')
      change Calls Try.prog 22 _ _ _ at hc
      refine hc.mono ?_
      rintro e w' ⟨rfl, hb⟩
      refine ⟨ret_bool ?_, hb⟩
      rw [List.take_of_length_le (by omega), ← hzs, List.any_map]
      rfl

set_option maxHeartbeats 2000000 in
theorem points_any (v : Value) (d : List Fx) (k : Ky) (w : World) (hv : IsXs w v d) (hf : FitX d) (h1 : k.1.size ≤ maxLen) (h2 : k.2.size ≤ maxLen) :
    Calls Try.prog 9 #[v, .agg #[.string k.1, .string k.2]] w fun e w' => e = .returned (.bool (pointsB (d.map Fx.fld) k)) ∧ Below w.heap.size w w' := by
  obtain ⟨p, cap, rfl, hd, ht⟩ := hv
  cases hk : keyOK k with
  | false =>
    have HT := hid (fun W => text_no k W h1 h2 hk)
    have HN := hid (points_no (fs := d.map Fx.fld) hk)
    obtain ⟨a, b⟩ := k
    simp only at HT HN ⊢
    clear hd ht hk
    go_enter Try.func9, Try.ntmps9
    go_wp2_with (first | (go_at_call 12; refine (HT.out _).mono ?_; rintro e w1 ⟨rfl, hb1⟩))
    go_ret
    refine ⟨ret_bool HN.out.symm, ?_⟩
    have hb0 := (Below.refl w.heap.size w).alloc (Nat.le_refl _) (.cells #[.string a, .string b] 33)
    exact (bel_then hb0 hb0.size hb1).alloc (bel_then hb0 hb0.size hb1).size _
  | true =>
    have HT := hid (fun W => text_yes k W hk)
    have HE : Hid ((d.any fun x => x.txt.any fun t => decide (t = refT k)) = pointsB (d.map Fx.fld) k) := by
      show _ = _
      unfold pointsB
      rw [List.any_map]
      congr 1
      funext x
      show _ = x.txt.any _
      congr 1
      funext t
      rw [decide_eq_decide]
      exact (named_iff hk t).symm
    have HH : Hid (∀ (B : Nat) W, Below w.heap.size w W → W.cell? ⟨B, 0, none⟩ = some (.string (refT k)) → Calls Try.prog 22 #[.slice p d.length cap, .func (.func 23) #[] #[.pointer (some ⟨B, 0, none⟩)]] W fun e w' => e = .returned (.bool (d.any fun x => x.txt.any fun t => decide (t = refT k))) ∧ Below W.heap.size W w') := fun B W hW hB =>
      hasPt_any B (refT k) p cap d W hB (by
        rcases hd with h | ⟨b, off, hp, hx⟩
        · exact Or.inl h
        · exact Or.inr ⟨b, off, hp, hx.kept hW⟩) (fun x hx => TxtAt.kept (ht x hx) hW) hf
    rw [HE.out] at HH
    obtain ⟨q, hq⟩ : ∃ q, pointsB (d.map Fx.fld) k = q := ⟨_, rfl⟩
    obtain ⟨s, hs⟩ : ∃ s, refT k = s := ⟨_, rfl⟩
    rw [hq] at HH ⊢
    rw [hs] at HT HH
    obtain ⟨a, b⟩ := k
    simp only at HT ⊢
    clear hd ht hk hs hq HE
    go_enter Try.func9, Try.ntmps9
    go_wp2_with (first
      | (go_at_call 12; refine (HT.out _).mono ?_; rintro e w1 ⟨rfl, hb1⟩; have hb0 := (Below.refl w.heap.size w).alloc (Nat.le_refl _) (.cells #[.string a, .string b] 33); have HB1 := hid ((bel_then hb0 hb0.size hb1).alloc (bel_then hb0 hb0.size hb1).size (.cells #[.string s] 9)); clear hb0 hb1)
      | (go_at_call 22; refine (HH.out _ _ HB1.out (by simp [go_sem])).mono ?_; rintro e w2 ⟨rfl, hb2⟩))
    go_ret
    exact ⟨rfl, bel_then HB1.out HB1.out.size hb2⟩

end Go.Proofs.Ytinmagodckkedab

/-
  What Resolve answers (stage 5), and what it does not hang on: the mathematics, without the program.
-/
namespace Go.Proofs.Ytinmagodckkedab
open Go.RowKit Go.Lib

def bindOK (b : Bd) : Bool := tempB b.1.data.toList && keyOK b.2
def unboundT (bs : List Bd) (t : ByteArray) : Bool := match tempT t with
  | some n => (boundT bs n).isNone
  | none => false

/-- The error of Resolve: nm a name that can't be, tw a name twice, tm a temporary name without a key. -/
def resCode (nm tw tm : Int) (bs : List Bd) (fs : List Fld) : Int :=
  if bs.all bindOK = false then nm else if ¬ (bs.map (·.1)).Nodup then tw else if (textsF fs).any (unboundT bs) then tm else 0

def resAns (bs : List Bd) (fs : List Fld) : List Fld :=
  if bs.all bindOK = true ∧ (bs.map (·.1)).Nodup ∧ (textsF fs).any (unboundT bs) = false then mapT (resT bs) fs else []

theorem all_same {α : Type} {p : α → Bool} {l m : List α} (h : ∀ x, x ∈ l ↔ x ∈ m) : l.all p = m.all p := by
  rw [Bool.eq_iff_iff, List.all_eq_true, List.all_eq_true]
  exact ⟨fun k x hx => k x ((h x).2 hx), fun k x hx => k x ((h x).1 hx)⟩

theorem unbound_turn {bs cs : List Bd} (h1 : (bs.map (·.1)).Nodup) (h2 : (cs.map (·.1)).Nodup) (hm : ∀ x, x ∈ bs ↔ x ∈ cs) : unboundT bs = unboundT cs := by
  funext t
  unfold unboundT
  cases tempT t with
  | none => rfl
  | some n => simp only [bound_turn h1 h2 hm n]

theorem perm_turn (bs : List Bd) (k : Nat) : (bs.drop k ++ bs.take k).Perm bs := by
  have h : (bs.drop k ++ bs.take k).Perm (bs.take k ++ bs.drop k) := List.perm_append_comm
  rwa [List.take_append_drop] at h

/-- The order of binds is no matter to Resolve. -/
theorem res_perm (nm tw tm : Int) {bs cs : List Bd} (h : bs.Perm cs) (fs : List Fld) : resCode nm tw tm bs fs = resCode nm tw tm cs fs ∧ resAns bs fs = resAns cs fs := by
  have hm : ∀ x, x ∈ bs ↔ x ∈ cs := fun x => h.mem_iff
  have hn : (bs.map (·.1)).Nodup ↔ (cs.map (·.1)).Nodup := (h.map _).nodup_iff
  have ha := all_same (p := bindOK) hm
  unfold resCode resAns
  rw [ha]
  by_cases k : (bs.map (·.1)).Nodup
  · have k' := hn.1 k
    rw [unbound_turn k k' hm, res_turn k k' hm]
    refine ⟨?_, ?_⟩
    · have n1 : ¬ ¬ (bs.map (·.1)).Nodup := fun e => e k
      have n2 : ¬ ¬ (cs.map (·.1)).Nodup := fun e => e k'
      rw [if_neg n1, if_neg n2]
    · by_cases c : cs.all bindOK = true ∧ (textsF fs).any (unboundT cs) = false
      · rw [if_pos ⟨c.1, k, c.2⟩, if_pos ⟨c.1, k', c.2⟩]
      · rw [if_neg (fun e => c ⟨e.1, e.2.2⟩), if_neg (fun e => c ⟨e.1, e.2.2⟩)]
  · have k' : ¬ (cs.map (·.1)).Nodup := fun e => k (hn.2 e)
    refine ⟨?_, ?_⟩
    · rw [if_pos k, if_pos k']
    · rw [if_neg (fun e => k e.2.1), if_neg (fun e => k' e.2.1)]

theorem res_ok {nm tw tm : Int} (h1 : nm ≠ 0) (h2 : tw ≠ 0) (h3 : tm ≠ 0) {bs : List Bd} {fs : List Fld} (h : resCode nm tw tm bs fs = 0) :
    (∀ b ∈ bs, keyOK b.2 = true) ∧ (bs.map (·.1)).Nodup ∧ allBound bs fs ∧ resAns bs fs = mapT (resT bs) fs := by
  unfold resCode at h
  split at h
  · exact absurd h h1
  · next ha =>
    split at h
    · exact absurd h h2
    · next hn =>
      split at h
      · exact absurd h h3
      · next hu =>
        have ha' : bs.all bindOK = true := by simpa using ha
        have hn' : (bs.map (·.1)).Nodup := Classical.not_not.1 hn
        have hu' : (textsF fs).any (unboundT bs) = false := by simpa using hu
        refine ⟨fun b hb => ?_, hn', fun f hf t ht n hn => ?_, ?_⟩
        · have := List.all_eq_true.1 ha' b hb
          simp only [bindOK, Bool.and_eq_true] at this
          exact this.2
        · have := List.any_eq_false.1 hu' t (mem_textsF.2 ⟨f, hf, ht⟩)
          unfold unboundT at this
          rw [hn] at this
          simp only at this
          cases hb : boundT bs n with
          | none => rw [hb] at this; simp at this
          | some k => rfl
        · unfold resAns
          rw [if_pos ⟨ha', hn', hu'⟩]

theorem res_bad {nm tw tm : Int} {bs : List Bd} {fs : List Fld} (h : resCode nm tw tm bs fs ≠ 0) : resAns bs fs = [] ∧ (resCode nm tw tm bs fs = nm ∨ resCode nm tw tm bs fs = tw ∨ resCode nm tw tm bs fs = tm) := by
  unfold resCode at h ⊢
  unfold resAns
  by_cases ha : bs.all bindOK = false
  · rw [if_neg (by rw [ha]; simp), if_pos ha]
    exact ⟨rfl, Or.inl rfl⟩
  · rw [if_neg ha] at h ⊢
    by_cases hn : ¬ (bs.map (·.1)).Nodup
    · rw [if_neg (fun k => hn k.2.1), if_pos hn]
      exact ⟨rfl, Or.inr (Or.inl rfl)⟩
    · rw [if_neg hn] at h ⊢
      by_cases hu : (textsF fs).any (unboundT bs) = true
      · rw [if_neg (fun k => by rw [hu] at k; exact absurd k.2.2 (by simp)), if_pos hu]
        exact ⟨rfl, Or.inr (Or.inr rfl)⟩
      · rw [if_neg hu] at h
        exact absurd rfl h

/-- Behind Resolve a value's keys are those that it had, and those of the names that it used. -/
theorem res_union {bs : List Bd} (hk : ∀ b ∈ bs, keyOK b.2 = true) (hn : (bs.map (·.1)).Nodup) {fs : List Fld} (h : allBound bs fs) (k : Ky) :
    k ∈ keysF (mapT (resT bs) fs) ↔ k ∈ keysF fs ∨ ∃ n ∈ tempsF fs, (n, k) ∈ bs := by
  rw [mem_keysF, mem_keysF, res_points hk h k]
  constructor
  · rintro (e | ⟨f, hf, t, ht, n, e, hb⟩)
    · exact Or.inl e
    · exact Or.inr ⟨n, mem_tempsF.2 ⟨f, hf, t, ht, e⟩, bound_mem hb⟩
  · rintro (e | ⟨n, hm, hb⟩)
    · exact Or.inl e
    · obtain ⟨f, hf, t, ht, e⟩ := mem_tempsF.1 hm
      exact Or.inr ⟨f, hf, t, ht, n, e, bound_of hn hb⟩

/-- RefsUnions' own way of putting them together. -/
def unionB (bs : List Bd) (ns : List ByteArray) (ks : List Ky) : List Ky :=
  ns.foldl (fun acc n => bs.foldl (fun acc b => if b.1 = n then insR ltKy b.2 acc else acc) acc) ks

theorem union_one (bs : List Bd) (n : ByteArray) : ∀ ks : List Ky, RisingR ltKy ks → RisingR ltKy (bs.foldl (fun acc b => if b.1 = n then insR ltKy b.2 acc else acc) ks) ∧ ∀ z, z ∈ bs.foldl (fun acc b => if b.1 = n then insR ltKy b.2 acc else acc) ks ↔ z ∈ ks ∨ (n, z) ∈ bs := by
  induction bs with
  | nil => intro ks h; exact ⟨h, fun z => by simp⟩
  | cons b r ih =>
    intro ks h
    simp only [List.foldl_cons]
    by_cases e : b.1 = n
    · rw [if_pos e]
      obtain ⟨h1, h2⟩ := ih _ (rising_insR totK b.2 h)
      refine ⟨h1, fun z => ?_⟩
      rw [h2 z, mem_insR, List.mem_cons]
      obtain ⟨b1, b2⟩ := b
      simp only at e ⊢
      subst e
      constructor
      · rintro ((rfl | h) | h)
        · exact Or.inr (Or.inl rfl)
        · exact Or.inl h
        · exact Or.inr (Or.inr h)
      · rintro (h | h | h)
        · exact Or.inl (Or.inr h)
        · exact Or.inl (Or.inl (Prod.mk.inj h).2)
        · exact Or.inr h
    · rw [if_neg e]
      obtain ⟨h1, h2⟩ := ih _ h
      refine ⟨h1, fun z => ?_⟩
      rw [h2 z, List.mem_cons]
      constructor
      · rintro (h | h)
        · exact Or.inl h
        · exact Or.inr (Or.inr h)
      · rintro (h | h | h)
        · exact Or.inl h
        · exact absurd (by rw [← h]) e
        · exact Or.inr h

theorem union_all (bs : List Bd) (ns : List ByteArray) : ∀ ks : List Ky, RisingR ltKy ks → RisingR ltKy (unionB bs ns ks) ∧ ∀ z, z ∈ unionB bs ns ks ↔ z ∈ ks ∨ ∃ n ∈ ns, (n, z) ∈ bs := by
  induction ns with
  | nil => intro ks h; exact ⟨h, fun z => by simp [unionB]⟩
  | cons n r ih =>
    intro ks h
    obtain ⟨g1, g2⟩ := union_one bs n ks h
    obtain ⟨h1, h2⟩ := ih _ g1
    refine ⟨h1, fun z => ?_⟩
    have : unionB bs (n :: r) ks = unionB bs r (bs.foldl (fun acc b => if b.1 = n then insR ltKy b.2 acc else acc) ks) := rfl
    rw [this, h2 z, g2 z]
    constructor
    · rintro ((h | h) | ⟨m, hm, h⟩)
      · exact Or.inl h
      · exact Or.inr ⟨n, by simp, h⟩
      · exact Or.inr ⟨m, List.mem_cons_of_mem _ hm, h⟩
    · rintro (h | ⟨m, hm, h⟩)
      · exact Or.inl (Or.inl h)
      · rcases List.mem_cons.1 hm with rfl | hm
        · exact Or.inl (Or.inr h)
        · exact Or.inr ⟨m, hm, h⟩

theorem res_unionB {bs : List Bd} (hk : ∀ b ∈ bs, keyOK b.2 = true) (hn : (bs.map (·.1)).Nodup) {fs : List Fld} (h : allBound bs fs) :
    keysF (mapT (resT bs) fs) = unionB bs (tempsF fs) (keysF fs) := by
  obtain ⟨h1, h2⟩ := union_all bs (tempsF fs) (keysF fs) (told_rising totK _ _)
  exact rising_uniqR totK (told_rising totK _ _) h1 fun z => by rw [h2 z]; exact res_union hk hn h z

end Go.Proofs.Ytinmagodckkedab

/-
  A map from names to keys, made of binds: what it holds, how it is looked up, and how long it is.
-/
namespace Go.Proofs.Ytinmagodckkedab
open Go.RowKit Go.Lib Go.Maps Go.MapKept Go.ChangeMaps

def keyD (k : Ky) : DataW Unit := .agg [.lit (.string k.1.data.toList), .lit (.string k.2.data.toList)]
def keyElem (v : Value) : Option (DataW Unit × List MemPlace) := match v with
  | .agg c => match c.toList with
    | [.string a, .string b] => some (keyD (a, b), [])
    | _ => none
  | _ => none

theorem keyElem_mk (k : Ky) : keyElem (.agg #[.string k.1, .string k.2]) = some (keyD k, []) := rfl

theorem keyD_inj {a b : Ky} (h : keyD a = keyD b) : a = b := by
  unfold keyD at h
  simp only [DataW.agg.injEq, List.cons.injEq, DataW.lit.injEq, Lit.string.injEq, and_true] at h
  exact Prod.ext (ba_eq h.1) (ba_eq h.2)

theorem keyElem_inv {v : Value} {k : Ky} {ps : List MemPlace} (h : keyElem v = some (keyD k, ps)) : v = .agg #[.string k.1, .string k.2] := by
  unfold keyElem at h
  split at h
  · next c =>
    split at h
    · next a b hc =>
      simp only [Option.some.injEq, Prod.mk.injEq] at h
      have := keyD_inj h.1
      subst this
      have : c = #[.string a, .string b] := by
        apply Array.ext'
        rw [hc]
      rw [this]
    · cases h
  · cases h

def nameL (n : ByteArray) : Lit := .string n.data.toList
theorem nameL_inj {a b : ByteArray} (h : nameL a = nameL b) : a = b := by
  unfold nameL at h
  injection h with h
  exact ba_eq h

def mapD (bs : List Bd) : DataW Unit := bs.foldl (fun m x => m.put (nameL x.1) (keyD x.2)) (.map [])
theorem mapD_snoc (bs : List Bd) (x : Bd) : mapD (bs ++ [x]) = (mapD bs).put (nameL x.1) (keyD x.2) := by simp [mapD]

theorem keyedStr : Keyed Try.prog 9 := string_keyed Try.underlying9
theorem name_key {n : ByteArray} (hs : n.size ≤ maxLen) : keyOf Try.prog 9 (.string n) = some (nameL n) := WideMaps.keyOf_string_mk Try.underlying9 hs
theorem name_lit {n : ByteArray} (hs : n.size ≤ maxLen) : WideAt.IsKeyLit (nameL n) := keyedStr.key (name_key hs)

def FitB (bs : List Bd) : Prop := ∀ b ∈ bs, b.1.size ≤ maxLen

theorem mapD_tidy : ∀ (bs : List Bd), FitB bs → Tidy (mapD bs) := by
  intro bs
  have : ∀ l : List Bd, FitB l.reverse → Tidy (mapD l.reverse) := by
    intro l
    induction l with
    | nil => intro _; exact tidy_empty
    | cons x r ih =>
      intro h
      rw [List.reverse_cons] at h ⊢
      rw [mapD_snoc]
      exact (ih fun b hb => h b (List.mem_append_left _ hb)).put (name_lit (h x (by simp))) _
  intro h
  have := this bs.reverse (by rw [List.reverse_reverse]; exact h)
  rwa [List.reverse_reverse] at this

theorem fitB_init {bs : List Bd} {x : Bd} (h : FitB (bs ++ [x])) : FitB bs ∧ x.1.size ≤ maxLen := ⟨fun b hb => h b (List.mem_append_left _ hb), h x (by simp)⟩

theorem snoc_ind {α : Type} {p : List α → Prop} (h0 : p []) (h1 : ∀ l x, p l → p (l ++ [x])) : ∀ l, p l := by
  intro l
  have : ∀ l : List α, p l.reverse := by
    intro l
    induction l with
    | nil => exact h0
    | cons x r ih => rw [List.reverse_cons]; exact h1 _ _ ih
  have := this l.reverse
  rwa [List.reverse_reverse] at this

theorem mapD_has (n : ByteArray) : ∀ (bs : List Bd), FitB bs → has (mapD bs) (nameL n) = bs.any fun b => decide (b.1 = n) := by
  refine snoc_ind (fun _ => rfl) fun bs x ih h => ?_
  obtain ⟨h1, h2⟩ := fitB_init h
  rw [mapD_snoc, List.any_append]
  by_cases e : x.1 = n
  · subst e
    rw [has_put_same (mapD_tidy bs h1).isMap (name_lit h2)]
    simp
  · rw [has_put_other (fun k => e (nameL_inj k).symm), ih h1]
    simp [e]

theorem mapD_size : ∀ (bs : List Bd), FitB bs → size (mapD bs) ≤ bs.length ∧ (size (mapD bs) = bs.length ↔ (bs.map (·.1)).Nodup) := by
  refine snoc_ind (fun _ => by simp [mapD, size]) fun bs x ih h => ?_
  obtain ⟨h1, h2⟩ := fitB_init h
  obtain ⟨i1, i2⟩ := ih h1
  rw [mapD_snoc, size_put (mapD_tidy bs h1), mapD_has x.1 bs h1, List.length_append, List.map_append]
  have hmem : (bs.any fun b => decide (b.1 = x.1)) = true ↔ x.1 ∈ bs.map (·.1) := by
    rw [List.any_eq_true, List.mem_map]
    constructor
    · rintro ⟨b, hb, e⟩; exact ⟨b, hb, of_decide_eq_true e⟩
    · rintro ⟨b, hb, e⟩; exact ⟨b, hb, decide_eq_true e⟩
  cases ha : bs.any fun b => decide (b.1 = x.1) with
  | true =>
    rw [if_pos rfl]
    refine ⟨by simp; omega, ⟨fun e => ?_, fun e => ?_⟩⟩
    · simp at e; omega
    · have := List.nodup_append.1 e
      exact absurd rfl (this.2.2 x.1 (hmem.1 ha) x.1 (by simp))
  | false =>
    rw [if_neg (by simp)]
    refine ⟨by simp; omega, ⟨fun e => ?_, fun e => ?_⟩⟩
    · have e' : size (mapD bs) = bs.length := by simp at e; exact e
      refine List.nodup_append.2 ⟨i2.1 e', by simp, fun a ha' b hb => ?_⟩
      simp at hb
      rintro rfl
      rw [hb] at ha'
      rw [hmem.2 ha'] at ha
      cases ha
    · have := i2.2 (List.nodup_append.1 e).1
      simp [this]

theorem mapD_at (n : ByteArray) (z : DataW Unit) : ∀ (bs : List Bd), FitB bs → (bs.map (·.1)).Nodup → (mapD bs).atKey (nameL n) z = match boundT bs n with | some k => keyD k | none => z := by
  refine snoc_ind (fun _ _ => rfl) fun bs x ih h hn => ?_
  obtain ⟨h1, h2⟩ := fitB_init h
  rw [List.map_append] at hn
  have hn1 := (List.nodup_append.1 hn).1
  have hx : x.1 ∉ bs.map (·.1) := fun e => (List.nodup_append.1 hn).2.2 x.1 e x.1 (by simp) rfl
  rw [mapD_snoc]
  by_cases e : x.1 = n
  · subst e
    rw [atKey_put_same (mapD_tidy bs h1).isMap (name_lit h2)]
    have : boundT (bs ++ [x]) x.1 = some x.2 := bound_of (by rw [List.map_append]; exact hn) (by simp)
    rw [this]
  · rw [atKey_put_other (fun k => e (nameL_inj k).symm), ih h1 hn1]
    have : boundT (bs ++ [x]) n = boundT bs n := by
      unfold boundT
      rw [List.find?_append]
      cases bs.find? fun b => decide (b.1 = n) with
      | some y => rfl
      | none => simp [e]
    rw [this]

theorem bound_any (n : ByteArray) (bs : List Bd) : (boundT bs n).isSome = bs.any fun b => decide (b.1 = n) := by
  unfold boundT
  rw [Option.isSome_map, Bool.eq_iff_iff, List.find?_isSome, List.any_eq_true]

/-- Block b is the map of the binds. -/
def MapB (W : World) (b : Nat) (bs : List Bd) : Prop := W.ownsMap Try.prog 9 keyElem b bs.length (mapD bs)

theorem mapB_made (w : World) : MapB (w.alloc (.map #[] 0)) w.heap.size [] := World.ownsMap_made _ _ _ _
theorem MapB.on {W W' : World} {b : Nat} {bs : List Bd} (h : MapB W b bs) (hb : Below W.heap.size W W') : MapB W' b bs := by
  have hlt := World.ownsMap.lt h
  obtain ⟨es, clock, h1, h2⟩ := h
  exact ⟨es, clock, (hb.block b hlt).trans h1, h2⟩

theorem zeroKy (w : World) : (zeroValue 33).run Try.prog w = .ok (.agg #[.string ⟨#[]⟩, .string ⟨#[]⟩]) w := Try.zeroValue33 w

def keyOr (o : Option Ky) : Ky := o.getD (⟨#[]⟩, ⟨#[]⟩)

theorem mapB_look {W : World} {b : Nat} {bs : List Bd} (h : MapB W b bs) (hf : FitB bs) (hn : (bs.map (·.1)).Nodup) {n : ByteArray} (hs : n.size ≤ maxLen) :
    (Instr.lookup 45 (.map (some b)) (.string n) true).run Try.prog W = .ok (.tuple #[.agg #[.string (keyOr (boundT bs n)).1, .string (keyOr (boundT bs n)).2], .bool (boundT bs n).isSome]) W := by
  obtain ⟨v, ps, hrun, hv⟩ := World.ownsMap.look_ok h keyedStr Try.underlying45 (zeroKy W) (keyElem_mk (⟨#[]⟩, ⟨#[]⟩)) (name_key hs)
  rw [mapD_at n _ bs hf hn] at hv
  rw [mapD_has n bs hf, ← bound_any] at hrun
  rw [hrun]
  cases hb : boundT bs n with
  | none => rw [hb] at hv; rw [keyElem_inv hv]; rfl
  | some k => rw [hb] at hv; rw [keyElem_inv hv]; rfl

theorem mapB_get {W : World} {b : Nat} {bs : List Bd} (h : MapB W b bs) (hf : FitB bs) (hn : (bs.map (·.1)).Nodup) {n : ByteArray} (hs : n.size ≤ maxLen) :
    (Instr.lookup 45 (.map (some b)) (.string n) false).run Try.prog W = .ok (.agg #[.string (keyOr (boundT bs n)).1, .string (keyOr (boundT bs n)).2]) W := by
  obtain ⟨v, ps, hrun, hv⟩ := World.ownsMap.lookup h keyedStr Try.underlying45 (zeroKy W) (keyElem_mk (⟨#[]⟩, ⟨#[]⟩)) (name_key hs)
  rw [mapD_at n _ bs hf hn] at hv
  rw [hrun]
  cases hb : boundT bs n with
  | none => rw [hb] at hv; rw [keyElem_inv hv]; rfl
  | some k => rw [hb] at hv; rw [keyElem_inv hv]; rfl

theorem mapB_put {W : World} {b : Nat} {bs : List Bd} (h : MapB W b bs) (hl : bs.length < maxLen) (x : Bd) (hs : x.1.size ≤ maxLen) :
    ∃ W', (Instr.mapUpdate 45 (.map (some b)) (.string x.1) (.agg #[.string x.2.1, .string x.2.2])).run Try.prog W = .ok () W' ∧ MapB W' b (bs ++ [x]) ∧ W.grownBy W' (some b) := by
  obtain ⟨W', h1, h2, h3⟩ := World.ownsMap.update h keyedStr Try.underlying45 hl (name_key hs) (keyElem_mk x.2)
  refine ⟨W', h1, ?_, h3⟩
  unfold MapB
  rw [mapD_snoc, List.length_append]
  exact h2

theorem mapB_len {W : World} {b : Nat} {bs : List Bd} (h : MapB W b bs) (ty : TypeId) : (Builtin.len_ #[45] ty #[.map (some b)]).run Try.prog W = .ok (.int .i64 (size (mapD bs))) W :=
  World.ownsMap.len h Try.underlying45 ty

end Go.Proofs.Ytinmagodckkedab
