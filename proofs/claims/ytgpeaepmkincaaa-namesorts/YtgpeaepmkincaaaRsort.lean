/-
  The contract of the reference's Sort.
-/
import Derived.Test.YtgpeaepmkincaaaPut
namespace Go.Proofs.Ytgpeaepmkincaaa
open Go.RowKit

theorem put_any (base : Nat) (v : Value) (d : List (ByteArray × ByteArray)) (x1 x2 : ByteArray) (w : World) (hown : Own w base v d) (hbase : base ≤ w.heap.size) (hr : Rises d) (hbytes : (d.length + 1) * 32 ≤ 140737488355328) :
    Calls Try.prog 44 #[v, .agg #[.string x1, .string x2]] w (PutPost base d (x1, x2) w) := by
  rcases hown.2 with ⟨rfl, h0⟩ | ⟨g, cap, cur, rfl, _⟩
  · have : d = [] := List.eq_nil_of_length_eq_zero h0
    subst this
    exact put_nil base x1 x2 w hbase
  · exact put_own g cap base d x1 x2 w hown hbase hr hbytes

/-- What a sort leaves: the rising list of the keys, in memory of its own. -/
def SortPost (d : List (ByteArray × ByteArray)) (w : World) (e : Ending) (w' : World) : Prop :=
  ∃ v r, e = .returned v ∧ Rises r ∧ (∀ y, y ∈ r ↔ y ∈ d) ∧ r.length ≤ d.length ∧ Own w' w.heap.size v r ∧ Below w.heap.size w w'

set_option maxHeartbeats 1000000 in
theorem rsort_none (p : Option Addr) (c : Nat) (w : World) : Calls Try.prog 26 #[.slice p 0 c] w (SortPost [] w) := by
  go_enter Try.func26, Try.ntmps26
  go_wp2
  refine wp_loop_rounds 1 ?_
  rw [rounds_succ]
  go_wp2
  go_ret
  exact ⟨_, [], rfl, List.Pairwise.nil, fun y => Iff.rfl, Nat.le_refl _, World.ownsRow_nil _ _ 26 2, Below.refl _ _⟩

set_option maxHeartbeats 1000000 in
theorem rsort_any (b off c : Nat) (d : List (ByteArray × ByteArray)) (w : World) (hk : KeysAt w b off d) (hbytes : d.length * 32 ≤ 140737488355328) :
    Calls Try.prog 26 #[.slice (some ⟨b, off, none⟩) d.length c] w (SortPost d w) := by
  have HK := hid hk
  clear hk
  go_enter Try.func26, Try.ntmps26
  go_wp2
  go_loopw [3, 4] (fun vr i wr => ∃ (k : Nat) (r : List (ByteArray × ByteArray)), k ≤ d.length ∧ i = .int .i64 k ∧ Own wr w.heap.size vr r ∧ Rises r ∧ (∀ y, y ∈ r ↔ y ∈ d.take k) ∧ r.length ≤ k ∧ Below w.heap.size w wr) (fun _ i _ => d.length - (intOf i).toNat)
  case atStart => exact ⟨0, [], by omega, rfl, World.ownsRow_nil _ _ 26 2, List.Pairwise.nil, fun y => by simp, by simp, Below.refl _ _⟩
  case round =>
    rename_i vr i
    obtain ⟨k, r, hkd, rfl, ho, hr, hm, hl, hb⟩ := hrel
    have H := hid (And.intro ho (And.intro hr (And.intro hm hb)))
    by_cases hlt : k < d.length
    · obtain ⟨e1, e2⟩ := (HK.out.kept hb) k hlt
      obtain ⟨⟨x1, x2⟩, hx⟩ : ∃ x, d[k] = x := ⟨_, rfl⟩
      rw [hx] at e1 e2
      have HX := hid hx
      clear ho hr hm hb hx
      have im1 : (0 : Int) ≤ ↑k := by omega
      have im2 : (↑k : Int) < ↑d.length := by omega
      go_wp2_with fail
      refine (put_any w.heap.size _ r x1 x2 wr H.out.1 H.out.2.2.2.size H.out.2.1 (by omega)).mono ?_
      rintro e w2 ⟨v2, r2, rfl, hr2, hm2, hl2, ho2, hb2⟩
      have HR2 := hid (And.intro hr2 (And.intro hm2 (And.intro ho2 hb2)))
      clear hr2 hm2 ho2 hb2
      go_wp2_with fail
      refine ⟨⟨k + 1, r2, by omega, by go_num, HR2.out.2.2.1, HR2.out.1, fun y => ?_, by omega, H.out.2.2.2.trans HR2.out.2.2.2⟩, by simp [intOf]; omega⟩
      rw [HR2.out.2.1 y, H.out.2.2.1 y, List.take_succ_eq_append_getElem hlt, List.mem_append, List.mem_singleton, HX.out]
      exact ⟨fun h => h.symm, fun h => h.symm⟩
    · clear ho hr hm hb
      go_wp2
      go_ret
      refine ⟨_, r, rfl, H.out.2.1, fun y => ?_, by omega, H.out.1, H.out.2.2.2⟩
      rw [H.out.2.2.1 y, List.take_of_length_le (by omega)]

end Go.Proofs.Ytgpeaepmkincaaa
