/-
  fixed answers true, given what it asks of Sort.
-/
import Derived.Test.YtgpeaepmkincaaaFixa
namespace Go.Proofs.Ytgpeaepmkincaaa
open Go.RowKit

theorem new_cell (w : World) (cs : Array Value) (t : TypeId) (k : Nat) (v : Value) (h : cs[k]? = some v) : (w.alloc (.cells cs t)).cell? ⟨w.heap.size, k, none⟩ = some v := by
  simp only [World.cell?]; rw [heap_alloc_new]; exact h

set_option maxHeartbeats 1000000 in
theorem fixed_of (hs : FixSort) (w : World) : Calls Try.prog 9 #[] w fun e w' => e = .returned (.bool true) ∧ Below w.heap.size w w' := by
  have HS : Hid FixSort := hs
  clear hs
  go_enter Try.func9, Try.ntmps9
  go_wp2_with fail
  refine (fix_parse _).mono ?_
  rintro e w1 ⟨rfl, hq1⟩
  go_wp2_with fail
  refine (fix_print _).mono ?_
  rintro e w2 ⟨rfl, hq2⟩
  obtain ⟨hc2, hf2⟩ := bcell hq2
  have hz2 : w1.heap.size + 1 ≤ w2.heap.size := by have := hq2.size; simpa using this
  go_wp2_with (first | (go_at_call 10; refine (fix_type _).mono ?_; rintro e w' ⟨rfl, rfl⟩) | (go_at_call 12; refine (fix_id _).mono ?_; rintro e w' ⟨rfl, rfl⟩) | (go_at_call 14; refine (fix_field _).mono ?_; rintro e w' ⟨rfl, rfl⟩) | (go_at_call 16; refine (fix_temp _).mono ?_; rintro e w' ⟨rfl, rfl⟩))
  refine (fix_key _).mono ?_
  rintro e w3 ⟨rfl, hq3⟩
  obtain ⟨hc3, hf3⟩ := bcell hq3
  have hz3 := hq3.size
  go_wp2_with fail
  refine (fix_compare _).mono ?_
  rintro e w4 ⟨rfl, hq4⟩
  obtain ⟨hc4, hf4⟩ := bcell hq4
  have hz4 := hq4.size
  have d0 : w4.cell? ⟨w1.heap.size, 0, none⟩ = some (.string ⟨#[80, 97, 116, 105, 101, 110, 116]⟩) := by
    rw [hc4 _ _ (by omega), hc3 _ _ (by omega), hc2 _ _ (by simp)]; simp [go_sem]
  have d1 : w4.cell? ⟨w1.heap.size, 1, none⟩ = some (.string ⟨#[112, 49]⟩) := by
    rw [hc4 _ _ (by omega), hc3 _ _ (by omega), hc2 _ _ (by simp)]; simp [go_sem]
  clear hc2 hc3 hc4 hf2 hf3 hf4
  go_wp2_with (go_at_call 28; refine (fix_token _).mono ?_; rintro e w' ⟨rfl, n, rfl⟩)
  refine (HS.out ⟨#[80, 97, 116, 105, 101, 110, 116]⟩ ⟨#[112, 49]⟩ _ _ ?_ ?_ ?_ ?_ ?_).mono ?_
  · simp
  · exact new_cell (w4.drewN n) _ 26 0 _ rfl
  · exact new_cell (w4.drewN n) _ 26 1 _ rfl
  · exact new_cell (w4.drewN n) _ 26 2 _ rfl
  · exact new_cell (w4.drewN n) _ 26 3 _ rfl
  rintro e w5 ⟨⟨p, c, rfl⟩, hq5⟩
  have hz1 := hq1.size
  go_wp2_with fail
  go_ret
  refine ⟨rfl, ?_⟩
  have b2 : Below w.heap.size w w' := (hq1.alloc hz1 _).trans (hq2.mono (by simp; omega))
  have b3 : Below w.heap.size w w3 := b2.trans (hq3.mono (by omega))
  have b4 : Below w.heap.size w w4 := b3.trans (hq4.mono (by omega))
  exact ((below_drewN b4 n).alloc (by simp; omega) _).trans (hq5.mono (by simp; omega))

end Go.Proofs.Ytgpeaepmkincaaa
