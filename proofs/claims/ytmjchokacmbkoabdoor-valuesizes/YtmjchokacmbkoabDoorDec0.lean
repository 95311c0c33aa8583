/-
  The reader of bytes: its state, and the contracts of take, count and text.
-/
import Derived.Test.YtmjchokacmbkoabDoorFld
import Derived.Test.YtmjchokacmbkoabDoorBld
namespace Go.Proofs.YtmjchokacmbkoabDoor
open Go.RowKit

/-- A reader's state: what is left, and whether it came short. -/
abbrev Rst := List UInt8 × Bool
def takeS (n : Nat) (s : Rst) : List UInt8 × Rst := if s.1.length < n then ([], (s.1, true)) else (s.1.take n, (s.1.drop n, s.2))
def countS (s : Rst) : Nat × Rst := match takeS 1 s with
  | (c :: _, s') => (c.toNat, s')
  | ([], s') => (0, s')
def textS (s : Rst) : ByteArray × Rst := (⟨(takeS (countS s).1 (countS s).2).1.toArray⟩, (takeS (countS s).1 (countS s).2).2)
def textsS : Nat → Rst → List ByteArray × Rst
  | 0, s => ([], s)
  | n + 1, s => ((textS s).1 :: (textsS n (textS s).2).1, (textsS n (textS s).2).2)
def fieldS (s : Rst) : Fld × Rst := (((textS s).1, (textsS (countS (textS s).2).1 (countS (textS s).2).2).1), (textsS (countS (textS s).2).1 (countS (textS s).2).2).2)
def fieldsS : Nat → Rst → List Fld × Rst
  | 0, s => ([], s)
  | n + 1, s => ((fieldS s).1 :: (fieldsS n (fieldS s).2).1, (fieldsS n (fieldS s).2).2)
def valueS (s : Rst) : List Fld × Rst := fieldsS (countS s).1 (countS s).2

/-- v is a slice of the bytes l, in a block below R. -/
def RestAt (R : Nat) (w : World) (v : Value) (l : List UInt8) : Prop :=
  ∃ p cap, v = .slice p l.length cap ∧ l.length ≤ cap ∧ cap ≤ maxLen ∧ (l = [] ∨ ∃ b off, p = some ⟨b, off, none⟩ ∧ b < R ∧ ∀ i, (h : i < l.length) → w.cell? ⟨b, off + i, none⟩ = some (.int .u8 l[i].toNat))

/-- The reader in block R. -/
def Rd (w : World) (R : Nat) (s : Rst) : Prop := ∃ v, w.heap[R]? = some (.cells #[v, .bool s.2] 56 (0, 0)) ∧ RestAt R w v s.1

theorem RestAt.kept {R : Nat} {w w' : World} {v : Value} {l : List UInt8} (h : RestAt R w v l) (hg : w.grownBy w' (some R)) : RestAt R w' v l := by
  obtain ⟨p, cap, rfl, h1, h2, h⟩ := h
  refine ⟨p, cap, rfl, h1, h2, ?_⟩
  rcases h with h | ⟨b, off, hp, hb, h⟩
  · exact Or.inl h
  · exact Or.inr ⟨b, off, hp, hb, fun i hi => (hg.cell_far ⟨b, off + i, none⟩ (cell_block (h i hi)) (by simp; omega)).trans (h i hi)⟩

theorem addr_add (b off i : Nat) : (⟨b, off, none⟩ : Addr).add i = ⟨b, off + i, none⟩ := by
  unfold Addr.add
  split
  · rename_i h; simp_all
  · rfl

theorem restAt_take {R : Nat} {w : World} {p : Option Addr} {cap : Nat} {l : List UInt8} (h : RestAt R w (.slice p l.length cap) l) (n : Nat) (hn : n ≤ l.length) :
    RestAt R w (.slice p n cap) (l.take n) := by
  obtain ⟨p', cap', e, h1, h2, h⟩ := h
  cases e
  refine ⟨p, cap, by rw [List.length_take, Nat.min_eq_left hn], by rw [List.length_take]; omega, h2, ?_⟩
  rcases h with h | ⟨b, off, hp, hb, h⟩
  · left; rw [h]; simp
  · by_cases h0 : n = 0
    · left; rw [h0]; simp
    · right
      refine ⟨b, off, hp, hb, fun i hi => ?_⟩
      · rw [List.length_take] at hi
        rw [h i (by omega), List.getElem_take]

theorem restAt_drop {R : Nat} {w : World} {p : Option Addr} {cap : Nat} {l : List UInt8} (h : RestAt R w (.slice p l.length cap) l) (n : Nat) (hn : n ≤ l.length) (q : Option Addr) (hq : q = if cap = n then p else p.map (·.add n)) :
    RestAt R w (.slice q (l.length - n) (cap - n)) (l.drop n) := by
  obtain ⟨p', cap', e, h1, h2, h⟩ := h
  cases e
  refine ⟨q, cap - n, by rw [List.length_drop], by rw [List.length_drop]; omega, by omega, ?_⟩
  rcases h with h | ⟨b, off, hp, hb, h⟩
  · left; rw [h]; simp
  · by_cases h0 : n = l.length
    · left; rw [h0]; simp
    · right
      refine ⟨b, off + n, ?_, hb, fun i hi => ?_⟩
      · rw [hq, if_neg (by omega), hp, Option.map_some, addr_add]
      · rw [List.length_drop] at hi
        rw [Nat.add_assoc, h (n + i) (by omega), List.getElem_drop]

theorem restAt_cons {R : Nat} {w : World} {u : Value} {c : UInt8} {r : List UInt8} (h : RestAt R w u (c :: r)) :
    ∃ b off cap, u = .slice (some ⟨b, off, none⟩) (r.length + 1) cap ∧ w.cell? ⟨b, off, none⟩ = some (.int .u8 c.toNat) := by
  obtain ⟨p, cap, rfl, _, _, h⟩ := h
  rcases h with h | ⟨b, off, rfl, _, h⟩
  · cases h
  · exact ⟨b, off, cap, rfl, h 0 (by simp)⟩

theorem grown_set (w : World) (R i : Nat) (v : Value) : w.grownBy (w.setCell ⟨R, i, none⟩ v) (some R) :=
  ⟨rfl, rfl, rfl, by simp [World.setCell], fun k _ hne => Below.heap_setCell w _ _ k (fun e => hne (by rw [e]))⟩

theorem grown_trans {a b c : World} {R : Nat} (h : a.grownBy b (some R)) (k : b.grownBy c (some R)) : a.grownBy c (some R) :=
  ⟨k.os.trans h.os, k.tape.trans h.tape, k.output.trans h.output, Nat.le_trans h.size k.size, fun i hi hn => (k.block i (Nat.lt_of_lt_of_le hi h.size) hn).trans (h.block i hi hn)⟩

theorem rd_set0 {w : World} {R : Nat} {v v' u : Value} {T : TypeId} (h : w.heap[R]? = some (.cells #[v, u] T (0, 0))) : (w.setCell ⟨R, 0, none⟩ v').heap[R]? = some (.cells #[v', u] T (0, 0)) := heap_setCell_same w R 0 _ T v' h
theorem rd_set1 {w : World} {R : Nat} {v u u' : Value} {T : TypeId} (h : w.heap[R]? = some (.cells #[v, u] T (0, 0))) : (w.setCell ⟨R, 1, none⟩ u').heap[R]? = some (.cells #[v, u'] T (0, 0)) := heap_setCell_same w R 1 _ T u' h

set_option maxHeartbeats 2000000 in
set_option maxRecDepth 100000 in
theorem take_any (R n : Nat) (s : Rst) (w : World) (h : Rd w R s) (hn : n ≤ 9223372036854775807) :
    Calls Tryd.prog 66 #[.pointer (some ⟨R, 0, none⟩), .int .i64 n] w fun e w' => ∃ u, e = .returned u ∧ RestAt R w' u (takeS n s).1 ∧ Rd w' R (takeS n s).2 ∧ w.grownBy w' (some R) := by
  obtain ⟨l, sh⟩ := s
  obtain ⟨v, hbk, hr⟩ := h
  have hr' := hr
  obtain ⟨p, cap, rfl, hc1, hc2, _⟩ := hr
  simp only at hbk hc1 hr'
  unfold maxLen at hc2
  have c0 : w.cell? ⟨R, 0, none⟩ = some (.slice p l.length cap) := by rw [Lib.cell_of_heap hbk]; rfl
  have c1 : w.cell? ⟨R, 1, none⟩ = some (.bool sh) := by rw [Lib.cell_of_heap hbk]; rfl
  have f0 : w.frozen? ⟨R, 0, none⟩ = false := Lib.frozen_of_heap hbk 0
  have f1 : w.frozen? ⟨R, 1, none⟩ = false := Lib.frozen_of_heap hbk 1
  have HB := hid hbk
  have HR := hid hr'
  clear hbk hr'
  by_cases hlt : l.length < n
  · have hz : (l.length : Int) < (n : Int) := by omega
    have HT : Hid (takeS n (l, sh) = ([], (l, true))) := by show _ = _; unfold takeS; rw [if_pos hlt]
    rw [HT.out]
    go_enter Tryd.func66, Tryd.ntmps66
    go_wp2_with fail
    go_ret
    exact ⟨_, rfl, ⟨none, 0, rfl, Nat.le_refl _, Nat.zero_le _, Or.inl rfl⟩, ⟨_, rd_set1 HB.out, HR.out.kept (grown_set _ _ _ _)⟩, grown_set _ _ _ _⟩
  · have hz : ¬ (l.length : Int) < (n : Int) := by omega
    have HT : Hid (takeS n (l, sh) = (l.take n, (l.drop n, sh))) := by show _ = _; unfold takeS; rw [if_neg hlt]
    rw [HT.out]
    have hn1 : (0 : Int) ≤ n := by omega
    have hn2 : (n : Int) ≤ cap := by omega
    have hn3 : (n : Int) ≤ l.length := by omega
    by_cases hcn : cap = n
    · subst hcn
      go_enter Tryd.func66, Tryd.ntmps66
      go_wp2_with fail
      go_ret
      have hd := restAt_drop HR.out cap (by omega) p (by rw [if_pos rfl])
      rw [show l.length - cap = 0 by omega, Nat.sub_self] at hd
      exact ⟨_, rfl, (restAt_take HR.out cap (by omega)).kept (grown_set _ _ _ _), ⟨_, rd_set0 HB.out, hd.kept (grown_set _ _ _ _)⟩, grown_set _ _ _ _⟩
    · go_enter Tryd.func66, Tryd.ntmps66
      go_wp2_with fail
      go_ret
      exact ⟨_, rfl, (restAt_take HR.out n (by omega)).kept (grown_set _ _ _ _), ⟨_, rd_set0 HB.out, (restAt_drop HR.out n (by omega) _ (by rw [if_neg hcn])).kept (grown_set _ _ _ _)⟩, grown_set _ _ _ _⟩

set_option maxHeartbeats 2000000 in
set_option maxRecDepth 100000 in
theorem count_any (R : Nat) (s : Rst) (w : World) (h : Rd w R s) :
    Calls Tryd.prog 53 #[.pointer (some ⟨R, 0, none⟩)] w fun e w' => e = .returned (.int .i64 (countS s).1) ∧ Rd w' R (countS s).2 ∧ w.grownBy w' (some R) := by
  have HT := hid (take_any R 1 s w h (by decide))
  obtain ⟨tk, s', hts⟩ : ∃ tk s', takeS 1 s = (tk, s') := ⟨_, _, rfl⟩
  rw [hts] at HT
  clear h
  cases tk with
  | nil =>
    have HC : Hid (countS s = (0, s')) := by show _ = _; unfold countS; rw [hts]
    rw [HC.out]
    clear hts
    go_enter Tryd.func53, Tryd.ntmps53
    go_wp2_with (go_at_call 66; refine HT.out.mono ?_; rintro e w1 ⟨u, rfl, ⟨p, cap, rfl, _, _, _⟩, hrd, hg⟩)
    go_ret
    exact ⟨rfl, hrd, hg⟩
  | cons c r =>
    have HC : Hid (countS s = (c.toNat, s')) := by show _ = _; unfold countS; rw [hts]
    rw [HC.out]
    clear hts
    have hz : (0 : Int) < (r.length : Int) + 1 := by omega
    have HW : Hid (wrap64 (c.toNat : Int) = (c.toNat : Int)) := by show _ = _; unfold wrap64; have := c.toNat_lt; omega
    go_enter Tryd.func53, Tryd.ntmps53
    go_wp2_with (go_at_call 66; refine HT.out.mono ?_; rintro e w1 ⟨u, rfl, hra, hrd, hg⟩; obtain ⟨b, off, cap, rfl, c0⟩ := restAt_cons hra)
    go_ret
    exact ⟨ret_int HW.out, hrd, hg⟩

theorem conv_any {R : Nat} {w : World} {u : Value} {l : List UInt8} (h : RestAt R w u l) : (convert 39 9 u).run Tryd.prog w = .ok (.string ⟨l.toArray⟩) w := by
  obtain ⟨p, cap, rfl, _, _, h⟩ := h
  rcases h with rfl | ⟨b, off, rfl, _, h⟩
  · rw [run_convert_bytes_string w _ _ _ p _ cap Tryd.underlying39 Tryd.underlying5 Tryd.underlying9]
    cases p <;> simp [Conv.bytesToString, loadCells, loadCellsFrom, go_sem] <;> rfl
  · exact run_convert_bytes_back w _ _ _ ⟨b, off, none⟩ cap l Tryd.underlying39 Tryd.underlying5 Tryd.underlying9 (fun j hj => by rw [addr_add]; exact h j hj)

set_option maxHeartbeats 2000000 in
set_option maxRecDepth 100000 in
theorem text_any (R : Nat) (s : Rst) (w : World) (h : Rd w R s) :
    Calls Tryd.prog 67 #[.pointer (some ⟨R, 0, none⟩)] w fun e w' => e = .returned (.string (textS s).1) ∧ Rd w' R (textS s).2 ∧ w.grownBy w' (some R) := by
  have HT := hid (count_any R s w h)
  clear h
  have hcb : (countS s).1 ≤ 9223372036854775807 := by
    unfold countS
    split
    · rename_i c _ _ _; have := c.toNat_lt; simp; omega
    · simp
  unfold textS
  obtain ⟨n, s1, hcs⟩ : ∃ n s1, countS s = (n, s1) := ⟨_, _, rfl⟩
  rw [hcs] at HT hcb ⊢
  simp only at HT hcb ⊢
  have HT2 : Hid (∀ w1, Rd w1 R s1 → _) := fun w1 h1 => take_any R n s1 w1 h1 hcb
  obtain ⟨tk, s2, hts⟩ : ∃ tk s2, takeS n s1 = (tk, s2) := ⟨_, _, rfl⟩
  rw [hts] at HT2 ⊢
  simp only at HT2 ⊢
  clear hcs hts hcb
  go_enter Tryd.func67, Tryd.ntmps67
  go_wp2_with (first | (go_at_call 53; refine HT.out.mono ?_; rintro e w1 ⟨rfl, hrd, hg⟩) | (go_at_call 66; refine (HT2.out _ hrd).mono ?_; rintro e w2 ⟨u, rfl, hra, hrd2, hg2⟩; have hcv := conv_any hra))
  go_ret
  exact ⟨rfl, hrd2, grown_trans hg hg2⟩

end Go.Proofs.YtmjchokacmbkoabDoor
