/-
  The contracts of strings.SplitSeq at one blank, and of the iterator that it makes.
-/
import Derived.Test.YtmjchokacmbkoabDoorRng
import Derived.Test.YtmjchokacmbkoabDoorShelf
import Derived.Test.YtmjchokacmbkoabDoorIx
import Derived.Shelf.Abstract
import Derived.Shelf.RegionOpen
import Derived.OwnWalkIn
import Derived.TacticsInMore
import Derived.LoopNIn
import Derived.LoopIn
import Derived.Lib.Strings
namespace Go.Proofs.YtmjchokacmbkoabDoor
open Go.RowKit
attribute [local go_sem] Oper.semAt_some

theorem ix_lt (l : List UInt8) (c : UInt8) (h : ¬ Lib.indexByte l c = -1) : (Lib.indexByte l c).toNat < l.length := by
  rcases ix_cases l c with ⟨h1, _⟩ | ⟨i, h1, h2, _⟩
  · exact absurd h1 h
  · rw [h1]; simpa using h2

/-- A text cut at each blank. -/
def splitL (l : List UInt8) : List (List UInt8) :=
  if h : Lib.indexByte l 32 = -1 then [l] else l.take (Lib.indexByte l 32).toNat :: splitL (l.drop ((Lib.indexByte l 32).toNat + 1))
termination_by l.length
decreasing_by have := ix_lt l 32 h; rw [List.length_drop]; omega

theorem splitL_no {l : List UInt8} (h : Lib.indexByte l 32 = -1) : splitL l = [l] := by unfold splitL; rw [dif_pos h]
theorem splitL_yes {l : List UInt8} {i : Nat} (h : Lib.indexByte l 32 = (i : Int)) : splitL l = l.take i :: splitL (l.drop (i + 1)) := by
  conv => lhs; unfold splitL
  rw [dif_neg (by rw [h]; omega), h, Int.toNat_natCast]

/-- A word of at most M bytes. -/
abbrev Wd (M : Nat) : Type := { t : ByteArray // t.size ≤ M }
def encW {M : Nat} (x : Wd M) : Array Value := #[.string x.1]
def plainW {M : Nat} (xs : List (Wd M)) : List (List UInt8) := xs.map fun x => x.1.data.toList

/-- Three boxes stay as they are. -/
def Kp3 (b1 b2 b3 : Nat) (W W' : World) : Prop := W'.heap[b1]? = W.heap[b1]? ∧ W'.heap[b2]? = W.heap[b2]? ∧ W'.heap[b3]? = W.heap[b3]?

/-- The iterator's boxes: the blank, what is left, and 0. -/
def Boxes (b1 b2 b3 : Nat) (t : ByteArray) (W : World) : Prop :=
  W.heap[b1]? = some (.cells #[.string ⟨#[32]⟩] 9 (0, 0)) ∧ W.heap[b2]? = some (.cells #[.string t] 9 (0, 0)) ∧ W.heap[b3]? = some (.cells #[.int .i64 0] 3 (0, 0)) ∧ b1 ≠ b2 ∧ b3 ≠ b2

def leftOf (b2 : Nat) (W : World) : Nat := match W.cell? ⟨b2, 0, none⟩ with
  | some (.string t) => t.size
  | _ => 0

def SplitSt {M : Nat} (b1 b2 b3 : Nat) (s : ByteArray) (J : List (Wd M) → World → Prop) (wr : World) : Prop :=
  ∃ (pre : List (Wd M)) (t : ByteArray), Boxes b1 b2 b3 t wr ∧ t.size ≤ M ∧ splitL s.data.toList = plainW pre ++ splitL t.data.toList ∧ J pre wr

theorem splitL_pos (l : List UInt8) : 0 < (splitL l).length := by
  rcases ix_cases l 32 with ⟨h, _⟩ | ⟨i, h, _⟩
  · rw [splitL_no h]; simp
  · rw [splitL_yes h]; simp

theorem boxes_cells {b1 b2 b3 : Nat} {t : ByteArray} {W : World} (h : Boxes b1 b2 b3 t W) : W.cell? ⟨b1, 0, none⟩ = some (.string ⟨#[32]⟩) ∧ W.cell? ⟨b2, 0, none⟩ = some (.string t) ∧ W.cell? ⟨b3, 0, none⟩ = some (.int .i64 0) ∧ W.frozen? ⟨b2, 0, none⟩ = false :=
  ⟨by rw [Lib.cell_of_heap h.1]; rfl, by rw [Lib.cell_of_heap h.2.1]; rfl, by rw [Lib.cell_of_heap h.2.2.1]; rfl, Lib.frozen_of_heap h.2.1 0⟩

theorem Boxes.kp {b1 b2 b3 : Nat} {t : ByteArray} {W W' : World} (h : Boxes b1 b2 b3 t W) (hk : Kp3 b1 b2 b3 W W') : Boxes b1 b2 b3 t W' :=
  ⟨hk.1.trans h.1, hk.2.1.trans h.2.1, hk.2.2.trans h.2.2.1, h.2.2.2⟩

theorem Boxes.put {b1 b2 b3 : Nat} {t u : ByteArray} {W : World} (h : Boxes b1 b2 b3 t W) : Boxes b1 b2 b3 u (W.setCell ⟨b2, 0, none⟩ (.string u)) :=
  ⟨(Below.heap_setCell W ⟨b2, 0, none⟩ _ b1 h.2.2.2.1).trans h.1, heap_setCell_same W b2 0 _ _ _ h.2.1, (Below.heap_setCell W ⟨b2, 0, none⟩ _ b3 h.2.2.2.2).trans h.2.2.1, h.2.2.2⟩

theorem leftOf_eq {b1 b2 b3 : Nat} {t : ByteArray} {W : World} (h : Boxes b1 b2 b3 t W) : leftOf b2 W = t.size := by
  unfold leftOf
  rw [(boxes_cells h).2.1]

set_option maxHeartbeats 4000000 in
set_option maxRecDepth 100000 in
theorem split1_in (n : Nat) (hn : 1 ≤ n) (M l b1 b2 b3 : Nat) (s : ByteArray) (hs : s.size ≤ M) (hM : M ≤ maxLen) (J Jx : List (Wd M) → World → Prop)
    (hJ : ∀ s W v, J s W → J s (W.setCell ⟨b2, 0, none⟩ v))
    (hY : ∀ pre x W, J pre W → pre.length < (splitL s.data.toList).length → YieldAt Fence.wide (n - 1) Tryd.prog l (encW x) W fun e W' =>
      (e = .returned (.bool true) ∧ J (pre ++ [x]) W' ∧ Kp3 b1 b2 b3 W W') ∨ (e = .returned (.bool false) ∧ Jx (pre ++ [x]) W'))
    (W : World) (hB : Boxes b1 b2 b3 s W) (h0 : J [] W) :
    CallsIn Fence.wide n Tryd.prog 68 #[.func (.yield l) #[] #[], .pointer (some ⟨b1, 0, none⟩), .pointer (some ⟨b2, 0, none⟩), .pointer (some ⟨b3, 0, none⟩)] W fun e W' => (∃ v, e = .returned v) ∧
      ((∃ ys, plainW ys = splitL s.data.toList ∧ J ys W') ∨ (∃ pre, plainW pre <+: splitL s.data.toList ∧ Jx pre W')) := by
  refine callsIn_of_wp Tryd.func68 rfl trivial ?_ rfl
  simp only [Tryd.ntmps68, List.size_toArray, List.length_cons, List.length_nil, Nat.reduceAdd, Nat.reduceSub, Array.replicate_succ, Array.replicate_zero, List.push_toArray, List.append_toArray, List.nil_append, List.cons_append]
  have c1 : W.cell? ⟨b1, 0, none⟩ = some (.string ⟨#[32]⟩) := by rw [Lib.cell_of_heap hB.1]; rfl
  have HB := hid hB
  clear hB
  gi_wp2
  clear c1
  have ST0 : Hid (SplitSt b1 b2 b3 s J W) := ⟨[], s, HB.out, hs, rfl, h0⟩
  gi_loopw [7] (fun _ wr => SplitSt b1 b2 b3 s J wr) (fun _ wr => leftOf b2 wr)
  case atStart => exact ST0.out
  case round =>
    obtain ⟨pre, t, hB, ht, hsp, hJs⟩ := hrel
    obtain ⟨k1, k2, k3, k4⟩ := boxes_cells hB
    have hlen : pre.length < (splitL s.data.toList).length := by
      rw [hsp, List.length_append]
      have := splitL_pos t.data.toList
      have e : (plainW pre).length = pre.length := by simp [plainW]
      omega
    unfold maxLen at hM
    rcases ix_cases t.data.toList 32 with ⟨hix, _⟩ | ⟨i, hix, hil, _, _⟩
    · have HX := hid hix
      have hsn := splitL_no hix
      have HF : Hid (plainW (pre ++ [⟨t, ht⟩]) = splitL s.data.toList) := by
        show _ = _
        rw [hsp, hsn]; simp [plainW]
      obtain ⟨fn, tmps, assign, body, hy, hR⟩ := hY pre ⟨t, ht⟩ wr hJs hlen
      simp only [encW] at hy
      clear hix hsn hsp
      gi_wp2_with (refine ⟨trivial, ?_⟩; gi_at_call 70; refine (callsIn_wide.2 (Tryd.strings_Index_one _ _ _)).mono ?_; rintro e w' ⟨rfl, rfl⟩; rw [HX.out])
      refine hR.mono ?_
      rintro e W3 (⟨rfl, hJ3, _⟩ | ⟨rfl, hJx3⟩)
      · gi_wp2
        go_end0
        exact ⟨⟨_, rfl⟩, .inl ⟨_, HF.out, hJ3⟩⟩
      · gi_wp2
        go_end0
        exact ⟨⟨_, rfl⟩, .inr ⟨_, ⟨[], by rw [HF.out]; simp⟩, hJx3⟩⟩
    · have HX := hid hix
      have hsn := splitL_yes hix
      have hil' : i < t.size := by simpa using hil
      have hxs : (t.extract 0 i).size ≤ M := by simp; omega
      have e1 : (t.extract 0 i).data.toList = t.data.toList.take i := by rw [Lib.extract_data]; simp
      have e2 : (t.extract (i + 1) t.size).data.toList = t.data.toList.drop (i + 1) := Lib.extract_to_end t (i + 1)
      have HF : Hid (splitL s.data.toList = plainW (pre ++ [(⟨t.extract 0 i, hxs⟩ : Wd M)]) ++ splitL (t.extract (i + 1) t.size).data.toList) := by
        show _ = _
        rw [hsp, hsn, e2]
        simp only [plainW, List.map_append, List.map_cons, List.map_nil, e1, List.append_assoc, List.cons_append, List.nil_append]
      obtain ⟨fn, tmps, assign, body, hy, hR⟩ := hY pre ⟨t.extract 0 i, hxs⟩ wr hJs hlen
      simp only [encW] at hy
      have z0 : (0 : Int) ≤ (i : Int) := by omega
      have z1 : (i : Int) ≤ (t.size : Int) := by omega
      have z2 : (0 : Int) ≤ (i : Int) + 1 := by omega
      have z3 : (i : Int) + 1 ≤ (t.size : Int) := by omega
      have HB2 := hid hB
      clear hix hsn hsp e1 e2 hil hB
      gi_wp2_with (refine ⟨trivial, ?_⟩; gi_at_call 70; refine (callsIn_wide.2 (Tryd.strings_Index_one _ _ _)).mono ?_; rintro e w' ⟨rfl, rfl⟩; rw [HX.out])
      refine hR.mono ?_
      rintro e W3 (⟨rfl, hJ3, hk3⟩ | ⟨rfl, hJx3⟩)
      · have hB3 := HB2.out.kp hk3
        obtain ⟨m1, m2, m3, m4⟩ := boxes_cells hB3
        have HJ3 := hid (hJ _ W3 (.string (t.extract (i + 1) t.size)) hJ3)
        have HB4 : Hid (Boxes b1 b2 b3 (t.extract (i + 1) t.size) (W3.setCell ⟨b2, 0, none⟩ (.string (t.extract (i + 1) t.size)))) := hB3.put
        have HM1 := hid (leftOf_eq HB2.out)
        have HM2 := hid (leftOf_eq HB4.out)
        clear hJ3 hB3 hk3
        gi_wp2
        go_roundw
        case rel => exact ⟨_, _, HB4.out, by simp; omega, HF.out, HJ3.out⟩
        case measure => rw [HM1.out, HM2.out]; simp; omega
      · gi_wp2
        refine bodyPost_ret (results_none rfl _ _ _) rfl ?_
        exact ⟨⟨_, rfl⟩, .inr ⟨_, ⟨_, HF.out.symm⟩, hJx3⟩⟩

/-- The iterator's contract. -/
theorem split1_seq (n : Nat) (hn : 1 ≤ n) (M b1 b2 b3 : Nat) (s : ByteArray) (hs : s.size ≤ M) (hM : M ≤ maxLen) (w : World) (hB : Boxes b1 b2 b3 s w) :
    SeqB Fence.wide n Tryd.prog 68 #[.pointer (some ⟨b1, 0, none⟩), .pointer (some ⟨b2, 0, none⟩), .pointer (some ⟨b3, 0, none⟩)] (encW (M := M)) (Kp3 b1 b2 b3) (fun xs => plainW xs = splitL s.data.toList) (fun pre => plainW pre <+: splitL s.data.toList) (splitL s.data.toList).length b2 w := by
  intro l J Jx W hb hJ hY h0
  have l1 : b1 < w.heap.size := (Array.getElem?_eq_some_iff.1 hB.1).1
  have l2 : b2 < w.heap.size := (Array.getElem?_eq_some_iff.1 hB.2.1).1
  have l3 : b3 < w.heap.size := (Array.getElem?_eq_some_iff.1 hB.2.2.1).1
  exact split1_in n hn M l b1 b2 b3 s hs hM J Jx hJ hY W (hB.kp ⟨hb.block _ l1, hb.block _ l2, hb.block _ l3⟩) h0

set_option maxHeartbeats 1000000 in
theorem splitSeq_any (s : ByteArray) (w : World) :
    Calls Tryd.prog 36 #[.string s, .string ⟨#[32]⟩] w fun e w' => e = .returned (.func (.func 68) #[] #[.pointer (some ⟨w.heap.size + 1, 0, none⟩), .pointer (some ⟨w.heap.size, 0, none⟩), .pointer (some ⟨w.heap.size + 2, 0, none⟩)]) ∧ Boxes (w.heap.size + 1) w.heap.size (w.heap.size + 2) s w' ∧ Below w.heap.size w w' ∧ w'.heap.size = w.heap.size + 3 := by
  have hin : Calls Tryd.prog 55 #[.string s, .string ⟨#[32]⟩, .int .i64 0] w fun e w' => e = .returned (.func (.func 68) #[] #[.pointer (some ⟨w.heap.size + 1, 0, none⟩), .pointer (some ⟨w.heap.size, 0, none⟩), .pointer (some ⟨w.heap.size + 2, 0, none⟩)]) ∧ w' = ((w.alloc (.cells #[.string s] 9)).alloc (.cells #[.string ⟨#[32]⟩] 9)).alloc (.cells #[.int .i64 0] 3) := by
    go_enter Tryd.func55, Tryd.ntmps55
    go_wp2_with fail
    go_ret
    exact ⟨rfl, rfl⟩
  have HI := hid hin
  clear hin
  go_enter Tryd.func36, Tryd.ntmps36
  go_wp2_with (first | (go_at_call 55; refine HI.out.mono ?_; rintro e w1 ⟨rfl, rfl⟩))
  go_ret
  refine ⟨rfl, ⟨?_, ?_, ?_, by omega, by omega⟩, (((Below.refl _ w).alloc (Nat.le_refl _) _).alloc (by simp) _).alloc (by simp; omega) _, by simp⟩
  · rw [Below.heap_alloc _ _ _ (by simp)]
    have := heap_alloc_new (w.alloc (.cells #[.string s] 9)) (.cells #[.string ⟨#[32]⟩] 9)
    simpa using this
  · rw [Below.heap_alloc _ _ _ (by simp; omega), Below.heap_alloc _ _ _ (by simp)]
    exact heap_alloc_new w _
  · have := heap_alloc_new ((w.alloc (.cells #[.string s] 9)).alloc (.cells #[.string ⟨#[32]⟩] 9)) (.cells #[.int .i64 0] 3)
    simpa using this

end Go.Proofs.YtmjchokacmbkoabDoor
