/-
  The contract of withText: a text behind a row of bytes.
-/
import Derived.Test.YtmjchokacmbkoabDoorBld
import Derived.Lib.AppendStr
namespace Go.Proofs.YtmjchokacmbkoabDoor
open Go.RowKit

/-- v owns the bytes bs, in a row at or behind n0. -/
def OwnB (n0 : Nat) (w : World) (v : Value) (bs : List UInt8) : Prop := w.ownsRow n0 5 1 v bs.length (Lib.byteCells bs)

/-- Whatever is no row of bytes lies as it lay. -/
def KeptB (w w' : World) : Prop := ∀ (k : Nat) (o : Obj), w.heap[k]? = some o → (¬ ∃ cs fr, o = .cells cs 5 fr) → w'.heap[k]? = some o

theorem KeptB.refl (w : World) : KeptB w w := fun _ _ h _ => h
theorem KeptB.trans {a b c : World} (h : KeptB a b) (k : KeptB b c) : KeptB a c := fun i o hi hn => k i o (h i o hi hn) hn
theorem KeptB.alloc (w : World) (o : Obj) : KeptB w (w.alloc o) := fun i _ hi _ => (Below.heap_alloc w o i (Array.getElem?_eq_some_iff.1 hi).1).trans hi
theorem KeptB.grown {w w' : World} {n0 : Nat} {v : Value} {n : Nat} {xs : List Value} (hown : w.ownsRow n0 5 1 v n xs) (hg : w.grownBy w' v.ownBlock) : KeptB w w' := fun i o hi hn => by
  refine (hg.block i (Array.getElem?_eq_some_iff.1 hi).1 fun e => ?_).trans hi
  rcases hown.2 with ⟨hv, _⟩ | ⟨g, cap, cur, hv, _, hgb, _⟩
  · rw [hv] at e; cases e
  · rw [hv] at e
    have : i = g := by simpa [Value.ownBlock] using e
    subst this
    rw [hgb] at hi
    exact hn ⟨cur, (0, 0), by cases hi; rfl⟩
theorem KeptB.below {w w' : World} (h : Below w.heap.size w w') : KeptB w w' := fun i _ hi _ => (h.block i (Array.getElem?_eq_some_iff.1 hi).1).trans hi

theorem OwnB.on {n0 : Nat} {w w' : World} {v : Value} {bs : List UInt8} (h : OwnB n0 w v bs) (hb : Below w.heap.size w w') : OwnB n0 w' v bs := own_on h hb

set_option maxHeartbeats 2000000 in
set_option maxRecDepth 100000 in
theorem withText_any (n0 : Nat) (v : Value) (bs : List UInt8) (t : ByteArray) (w : World) (hown : OwnB n0 w v bs) (hn : n0 ≤ w.heap.size) (hs : bs.length + 1 + t.size ≤ 140737488355328) :
    Calls Tryd.prog 34 #[v, .string t] w fun e w' => ∃ v', e = .returned v' ∧ OwnB n0 w' v' (bs ++ UInt8.ofNat t.size :: t.data.toList) ∧ Below n0 w w' ∧ KeptB w w' := by
  obtain ⟨i0, hi, hz0, hz1, hz2⟩ := info_parts Tryd.infoByte
  have HO := hid hown
  unfold OwnB at hown
  go_enter Tryd.func34, Tryd.ntmps34
  go_wp2_with (at_builtin; refine wpList_append_own _ rfl _ _ 39 rfl n0 5 i0 (.int .u8 0) 1 1 Tryd.underlying39 hi hz0 hz1 hz2 rfl (by decide) _ _ _ rfl (hown.alloc _) ⟨w.heap.size, 0, none⟩ 1 1 [.int .u8 ((t.size : Int) % 256)] rfl rfl ?c1 ?c2 ?c3 ?c4 ?c5 ?_)
  case c1 =>
    intro j u hj
    match j, hj with
    | 0, hj => simp at hj; subst hj; simp [Addr.add]
  case c2 => intro u hu; simp at hu; subst hu; rfl
  case c3 => unfold maxLen; omega
  case c4 => omega
  case c5 => simp; omega
  intro v1 w1 hown1 hg1 _
  have hb1 : Below n0 w w1 := ((Below.refl n0 w).alloc hn _).grown hg1 (by simp; omega) (fun k hk => (hown.lt k hk).1)
  have hk1 : KeptB w w1 := (KeptB.alloc w _).trans (KeptB.grown (hown.alloc _) hg1)
  have H1 := hid (And.intro hb1 hk1)
  clear hg1 hk1
  go_wp2_with (at_builtin; refine Lib.wpList_append_own_string _ rfl _ _ 39 9 rfl n0 5 i0 Tryd.underlying39 Tryd.underlying9 hi hz0 hz1 hz2 _ _ _ rfl hown1 t rfl ?d3 ?d4 ?d5 ?_)
  case d3 => unfold maxLen; omega
  case d4 => omega
  case d5 => have := hb1.size; omega
  intro v2 w2 hown2 hg2 _
  have hb2 : Below n0 w w2 := hb1.grown hg2 (by have := hb1.size; omega) (fun k hk => (hown1.lt k hk).1)
  have hk2 : KeptB w w2 := H1.out.2.trans (KeptB.grown hown1 hg2)
  go_wp2_with fail
  go_ret
  refine ⟨_, rfl, ?_, hb2, hk2⟩
  unfold OwnB
  have e1 : (bs ++ UInt8.ofNat t.size :: t.data.toList).length = bs.length + 1 + t.size := by simp; omega
  have e2 : Lib.byteCells (bs ++ UInt8.ofNat t.size :: t.data.toList) = Lib.byteCells bs ++ .int .u8 ((t.size : Int) % 256) :: Lib.strCells t := by
    simp [Lib.byteCells, Lib.strCells]
  rw [e1, e2]
  exact hown2

end Go.Proofs.YtmjchokacmbkoabDoor
