/-
  The chapter's examples (stage 10): fixed answers true.
-/
import Derived.Test.YtkiandchgbldbaaQst
namespace Go.Proofs.Ytkiandchgbldbaa
open Go.RowKit

set_option maxHeartbeats 4000000 in
set_option maxRecDepth 100000 in
theorem fixed10_any (W : World) : Calls Try.prog 7 #[] W fun e w' => e = .returned (.bool true) ∧ Below W.heap.size W w' := by
  have HN := hid (one_new W)
  go_enter Try.func7, Try.ntmps7
  go_wp2_with fail
  refine HN.out.mono ?_
  rintro e w1 ⟨g, rfl, h1⟩
  have H1 := hid (one_open h1 5 (by decide))
  have o1 : openQ [] 0 5 = ((1, 0), [some 5]) := rfl
  rw [o1] at H1
  clear h1 HN o1
  go_wp2_with fail
  refine H1.out.mono ?_
  rintro e w2 ⟨rfl, h2⟩
  have H2 := hid (one_open h2 3 (by decide))
  have o2 : openQ [some 5] 0 3 = ((2, 0), [some 5, some 3]) := rfl
  try dsimp only at H2
  rw [o2] at H2
  clear h2 H1 o2
  try dsimp only
  go_wp2_with fail
  refine H2.out.mono ?_
  rintro e w3 ⟨rfl, h3⟩
  have H3 := hid (one_stamp h3 1 (fit_q (by decide) (by decide)))
  have o3 : atQ [some 5, some 3] 1 = some 5 := rfl
  try dsimp only at H3
  rw [o3] at H3
  clear h3 H2 o3
  try dsimp only
  go_wp2_with fail
  refine H3.out.mono ?_
  rintro e w4 ⟨rfl, h4⟩
  have H4 := hid (one_count h4)
  have o4 : countQ [some 5, some 3] = 2 := rfl
  rw [o4] at H4
  clear h4 H3 o4
  try dsimp only [Option.getD, Option.isSome]
  go_wp2_with fail
  refine H4.out.mono ?_
  rintro e w5 ⟨rfl, h5⟩
  have H5 := hid (one_least h5 9 (by decide))
  have o5 : leastQ [some 5, some 3] 9 = 3 := rfl
  rw [o5] at H5
  clear h5 H4 o5
  go_wp2_with fail
  refine H5.out.mono ?_
  rintro e w6 ⟨rfl, h6⟩
  have H6 := hid (one_raise h6 4 (by decide))
  have o6 : raiseQ [some 5, some 3] 0 4 = (1, 0) := rfl
  rw [o6] at H6
  clear h6 H5 o6
  go_wp2_with fail
  refine H6.out.mono ?_
  rintro e w7 ⟨rfl, h7⟩
  have H7 := hid (one_raise h7 3 (by decide))
  have o7 : raiseQ [some 5, some 3] 0 3 = (0, 3) := rfl
  try dsimp only at H7
  rw [o7] at H7
  clear h7 H6 o7
  try dsimp only
  go_wp2_with fail
  refine H7.out.mono ?_
  rintro e w8 ⟨rfl, h8⟩
  try dsimp only at h8
  have H8 := hid (one_floor h8)
  clear h8 H7
  try dsimp only
  go_wp2_with fail
  refine H8.out.mono ?_
  rintro e w9 ⟨rfl, h9⟩
  have H9 := hid (one_close h9 2 (fit_q (by decide) (by decide)))
  have o9 : closeQ [some 5, some 3] 2 = [some 5, none] := rfl
  have o9' : atQ [some 5, some 3] 2 = some 3 := rfl
  rw [o9, o9'] at H9
  clear h9 H8 o9 o9'
  go_wp2_with fail
  refine H9.out.mono ?_
  rintro e w10 ⟨rfl, h10⟩
  have H10 := hid (one_close h10 2 (fit_q (by decide) (by decide)))
  have o10 : closeQ [some 5, none] 2 = [some 5, none] := rfl
  have o10' : atQ [some 5, none] 2 = none := rfl
  rw [o10, o10'] at H10
  clear h10 H9 o10 o10'
  try dsimp only [Option.isSome]
  go_wp2_with fail
  refine H10.out.mono ?_
  rintro e w11 ⟨rfl, h11⟩
  have HB := hid (h11.below (Nat.le_refl _) fun k hk => hk.elim)
  clear h11 H10
  try dsimp only [Option.isSome]
  go_wp2_with fail
  go_ret
  exact ⟨rfl, HB.out⟩

end Go.Proofs.Ytkiandchgbldbaa
