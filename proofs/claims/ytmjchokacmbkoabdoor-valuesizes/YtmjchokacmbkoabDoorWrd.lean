/-
  The contract of field: the field that a word of a line says.
-/
import Derived.Test.YtmjchokacmbkoabDoorCut
import Derived.Test.YtmjchokacmbkoabDoorRea
import Derived.Test.YtmjchokacmbkoabDoorDec2
namespace Go.Proofs.YtmjchokacmbkoabDoor
open Go.RowKit

/-- The name and the text that a word says. -/
def wordO (l : List UInt8) : Option (List UInt8 × List UInt8) :=
  if Lib.indexByte l 61 = -1 then none else (readL (l.drop ((Lib.indexByte l 61).toNat + 1))).map fun t => (l.take (Lib.indexByte l 61).toNat, t)

def WordPost (w : World) (l : List UInt8) (e : Ending) (w' : World) : Prop :=
  ((wordO l = none ∧ e = .returned (.tuple #[.agg #[.string ⟨#[]⟩, .slice none 0 0], .int .i64 4])) ∨
   ∃ n t, wordO l = some (n, t) ∧ ∃ p, e = .returned (.tuple #[.agg #[.string ⟨n.toArray⟩, .slice p 1 1], .int .i64 0]) ∧ OwnT w.heap.size w' (.slice p 1 1) [⟨t.toArray⟩]) ∧ Below w.heap.size w w'

theorem ext_take (s : ByteArray) (i : Nat) : s.extract 0 i = ⟨(s.data.toList.take i).toArray⟩ := by
  obtain ⟨⟨l⟩⟩ := s
  simp [ByteArray.extract, ByteArray.copySlice]

theorem box_facts {w : World} {B : Nat} {u v : Value} {T : TypeId} (h : w.heap[B]? = some (.cells #[u, v] T (0, 0))) :
    w.cell? ⟨B, 0, none⟩ = some u ∧ w.cell? ⟨B, 1, none⟩ = some v ∧ w.frozen? ⟨B, 0, none⟩ = false ∧ w.frozen? ⟨B, 1, none⟩ = false :=
  ⟨by rw [Lib.cell_of_heap h]; rfl, by rw [Lib.cell_of_heap h]; rfl, Lib.frozen_of_heap h 0, Lib.frozen_of_heap h 1⟩

set_option maxHeartbeats 2000000 in
set_option maxRecDepth 100000 in
theorem word_any (s : ByteArray) (w : World) (hp : PlainAt w) (hs : s.size ≤ 140737488355327) :
    Calls Tryd.prog 37 #[.string s] w fun e w' => WordPost w s.data.toList e w' := by
  have hb0 : Below w.heap.size w (w.alloc (.cells #[.string ⟨#[]⟩, .slice none 0 0] 30)) := (Below.refl _ _).alloc (Nat.le_refl _) _
  have HP := hid (hp.on hb0)
  have HB0 := hid hb0
  clear hp hb0
  rcases ix_cases s.data.toList 61 with ⟨hix, _⟩ | ⟨i, hix, hil, _, _⟩
  · have HX := hid hix
    have HO : Hid (wordO s.data.toList = none) := by show _ = _; unfold wordO; rw [if_pos hix]
    clear hix
    go_enter Tryd.func37, Tryd.ntmps37
    go_wp2_with (first | (go_at_call 56; refine (cut_no _ _ _ HX.out).mono ?_; rintro e w1 ⟨rfl, rfl⟩) | (go_at_call 21; refine (read_any _ _ HP.out (by decide)).mono ?_; rintro e w2 ⟨rfl, hb2⟩; rw [show (⟨#[]⟩ : ByteArray).data.toList = [] from rfl, readL_nil]; simp only [readV]; obtain ⟨k0, k1, k2, k3⟩ := box_facts ((hb2.block w.heap.size (by simp)).trans (heap_alloc_new w _))))
    have hbw : Below w.heap.size w ((w2.setCell ⟨w.heap.size, 0, none⟩ (.string ⟨#[]⟩)).setCell ⟨w.heap.size, 1, none⟩ (.slice none 0 0)) := ((HB0.out.trans (hb2.mono (by simp))).setCell (p := ⟨w.heap.size, 0, none⟩) (Nat.le_refl _) _).setCell (p := ⟨w.heap.size, 1, none⟩) (Nat.le_refl _) _
    have j0 : ((w2.setCell ⟨w.heap.size, 0, none⟩ (.string ⟨#[]⟩)).setCell ⟨w.heap.size, 1, none⟩ (.slice none 0 0)).cell? ⟨w.heap.size, 0, none⟩ = some (.string ⟨#[]⟩) := by simp [go_sem, k0]
    have j1 : ((w2.setCell ⟨w.heap.size, 0, none⟩ (.string ⟨#[]⟩)).setCell ⟨w.heap.size, 1, none⟩ (.slice none 0 0)).cell? ⟨w.heap.size, 1, none⟩ = some (.slice none 0 0) := by simp [go_sem, k1]
    exact bodyPost_ret (v := .tuple #[.agg #[.string ⟨#[]⟩, .slice none 0 0], .int .i64 4]) (by simp [results, Tryd.results37, go_sem, j0, j1]) rfl ⟨Or.inl ⟨HO.out, rfl⟩, hbw⟩
  · have HX := hid hix
    have hil' : i < s.size := by simpa using hil
    have hrs : (s.extract (i + 1) s.size).size ≤ 140737488355327 := by simp; omega
    cases hrd : readL (s.data.toList.drop (i + 1)) with
    | none =>
      have HO : Hid (wordO s.data.toList = none) := by
        show _ = _; unfold wordO; rw [if_neg (by rw [hix]; omega), hix, Int.toNat_natCast, hrd]; rfl
      have HR := hid hrd
      clear hix
      go_enter Tryd.func37, Tryd.ntmps37
      go_wp2_with (first | (go_at_call 56; refine (cut_yes _ _ _ i HX.out hil' (by unfold maxLen; omega)).mono ?_; rintro e w1 ⟨rfl, n, rfl⟩) | (go_at_call 21; refine (read_any _ _ (HP.out.on (bel_drewN (Below.refl _ _) n)) hrs).mono ?_; rintro e w2 ⟨rfl, hb2⟩; rw [ext_drop, HR.out]; simp only [readV]; obtain ⟨k0, k1, k2, k3⟩ := box_facts ((hb2.block w.heap.size (by simp)).trans (heap_alloc_new w _))))
      have hbw : Below w.heap.size w ((w2.setCell ⟨w.heap.size, 0, none⟩ (.string ⟨#[]⟩)).setCell ⟨w.heap.size, 1, none⟩ (.slice none 0 0)) := (((bel_drewN HB0.out n).trans (hb2.mono (by simp))).setCell (p := ⟨w.heap.size, 0, none⟩) (Nat.le_refl _) _).setCell (p := ⟨w.heap.size, 1, none⟩) (Nat.le_refl _) _
      have j0 : ((w2.setCell ⟨w.heap.size, 0, none⟩ (.string ⟨#[]⟩)).setCell ⟨w.heap.size, 1, none⟩ (.slice none 0 0)).cell? ⟨w.heap.size, 0, none⟩ = some (.string ⟨#[]⟩) := by simp [go_sem, k0]
      have j1 : ((w2.setCell ⟨w.heap.size, 0, none⟩ (.string ⟨#[]⟩)).setCell ⟨w.heap.size, 1, none⟩ (.slice none 0 0)).cell? ⟨w.heap.size, 1, none⟩ = some (.slice none 0 0) := by simp [go_sem, k1]
      exact bodyPost_ret (v := .tuple #[.agg #[.string ⟨#[]⟩, .slice none 0 0], .int .i64 4]) (by simp [results, Tryd.results37, go_sem, j0, j1]) rfl ⟨Or.inl ⟨HO.out, rfl⟩, hbw⟩
    | some t =>
      have HO : Hid (wordO s.data.toList = some (s.data.toList.take i, t)) := by
        show _ = _; unfold wordO; rw [if_neg (by rw [hix]; omega), hix, Int.toNat_natCast, hrd]; rfl
      have HR := hid hrd
      have HE := hid (ext_take s i)
      clear hix
      go_enter Tryd.func37, Tryd.ntmps37
      go_wp2_with (first | (go_at_call 56; refine (cut_yes _ _ _ i HX.out hil' (by unfold maxLen; omega)).mono ?_; rintro e w1 ⟨rfl, n, rfl⟩) | (go_at_call 21; refine (read_any _ _ (HP.out.on (bel_drewN (Below.refl _ _) n)) hrs).mono ?_; rintro e w2 ⟨rfl, hb2⟩; rw [ext_drop, HR.out]; simp only [readV]; have hbx2 := (hb2.block w.heap.size (by simp)).trans (heap_alloc_new w _); obtain ⟨k0, k1, k2, k3⟩ := box_facts ((Below.heap_alloc w2 (.cells #[.string ⟨t.toArray⟩] 9) w.heap.size (by have := hb2.size; simp at this; omega)).trans hbx2)))
      have hw2 : w.heap.size < w2.heap.size := by have := hb2.size; simp at this; omega
      obtain ⟨W3, hW3⟩ : ∃ W3, w2.alloc (.cells #[.string ⟨t.toArray⟩] 9) = W3 := ⟨_, rfl⟩
      have hot : OwnT w2.heap.size W3 (.slice (some ⟨w2.heap.size, 0, none⟩) 1 1) [⟨t.toArray⟩] := by
        rw [← hW3]
        exact World.ownsRow_lit w2 #[.string ⟨t.toArray⟩] 1 (Nat.le_refl _) (by decide) rfl
      have hb3 : Below w.heap.size w W3 := by
        rw [← hW3]
        exact ((bel_drewN HB0.out n).trans (hb2.mono (by simp))).alloc (by omega) _
      rw [hW3] at k0 k1 k2 k3 ⊢
      have hbw : Below w.heap.size w ((W3.setCell ⟨w.heap.size, 0, none⟩ (.string (s.extract 0 i))).setCell ⟨w.heap.size, 1, none⟩ (.slice (some ⟨w2.heap.size, 0, none⟩) 1 1)) := (hb3.setCell (p := ⟨w.heap.size, 0, none⟩) (Nat.le_refl _) _).setCell (p := ⟨w.heap.size, 1, none⟩) (Nat.le_refl _) _
      have hgB : W3.grownBy ((W3.setCell ⟨w.heap.size, 0, none⟩ (.string (s.extract 0 i))).setCell ⟨w.heap.size, 1, none⟩ (.slice (some ⟨w2.heap.size, 0, none⟩) 1 1)) (some w.heap.size) := grown_trans (grown_set W3 _ 0 _) (grown_set _ _ 1 _)
      have hot2 : OwnT w.heap.size ((W3.setCell ⟨w.heap.size, 0, none⟩ (.string (s.extract 0 i))).setCell ⟨w.heap.size, 1, none⟩ (.slice (some ⟨w2.heap.size, 0, none⟩) 1 1)) (.slice (some ⟨w2.heap.size, 0, none⟩) 1 1) [⟨t.toArray⟩] := own_weak (OwnT.grown hot hgB hw2) (by omega)
      have j0 : ((W3.setCell ⟨w.heap.size, 0, none⟩ (.string (s.extract 0 i))).setCell ⟨w.heap.size, 1, none⟩ (.slice (some ⟨w2.heap.size, 0, none⟩) 1 1)).cell? ⟨w.heap.size, 0, none⟩ = some (.string (s.extract 0 i)) := by simp [go_sem, k0]
      have j1 : ((W3.setCell ⟨w.heap.size, 0, none⟩ (.string (s.extract 0 i))).setCell ⟨w.heap.size, 1, none⟩ (.slice (some ⟨w2.heap.size, 0, none⟩) 1 1)).cell? ⟨w.heap.size, 1, none⟩ = some (.slice (some ⟨w2.heap.size, 0, none⟩) 1 1) := by simp [go_sem, k1]
      exact bodyPost_ret (v := .tuple #[.agg #[.string (s.extract 0 i), .slice (some ⟨w2.heap.size, 0, none⟩) 1 1], .int .i64 0]) (by simp [results, Tryd.results37, go_sem, j0, j1]) rfl ⟨Or.inr ⟨_, t, HO.out, _, by rw [HE.out], hot2⟩, hbw⟩

end Go.Proofs.YtmjchokacmbkoabDoor
