/-
  The walk of NameSorts at no key.
-/
import Derived.Test.YtgpeaepmkincaaaSrt1
import Derived.Test.YtgpeaepmkincaaaBacka
namespace Go.Proofs.Ytgpeaepmkincaaa
open Go.RowKit

theorem fixed_too (w : World) : Calls Try.prog 9 #[] w fun e w' => e = .returned (.bool true) ∧ Below w.heap.size w w' := fixed_of fix_sort w

theorem own_nil_is {W : World} {base : Nat} {v : Value} (h : Own W base v []) : ∃ p c, v = .slice p 0 c := by
  rcases h.2 with ⟨rfl, _⟩ | ⟨g, cap, _, rfl, _⟩
  · exact ⟨_, _, rfl⟩
  · exact ⟨_, _, rfl⟩

theorem is_nil (W : World) (p : Option Addr) (c : Nat) : IsKeys W (.slice p 0 c) [] := ⟨p, c, rfl, .inl rfl⟩

set_option maxRecDepth 100000 in
set_option maxHeartbeats 2000000 in
theorem sorts_none (p : Option Addr) (c : Nat) (turn : Int) (w : World) :
    Calls Try.prog 7 #[.slice p 0 c, .int .i64 turn] w fun e w' => e = .returned (.bool true) ∧ Below w.heap.size w w' := by
  obtain ⟨i0, hi0, hz0, hz1, hz2⟩ := info_parts Try.info26
  have hmk0 : ∀ W : World, (Instr.makeSlice 31 (.int .i64 0) (.int .i64 2)).run Try.prog W = .ok (.slice (some ⟨W.heap.size, 0, none⟩) 0 2) (W.alloc (.cells #[.string ⟨#[]⟩, .string ⟨#[]⟩, .string ⟨#[]⟩, .string ⟨#[]⟩] 26)) := by
    intro W
    have := run_make (P := Try.prog) W 31 26 i0 (.agg #[.string ⟨#[]⟩, .string ⟨#[]⟩]) Try.underlying31 hi0 hz0 .i64 .i64 0 2 (by omega) (by omega) (by rw [hz2]; omega) (by omega)
    rw [hz1] at this
    rw [this]
    have hm : madeCells (Value.agg #[Value.string ⟨#[]⟩, Value.string ⟨#[]⟩]).cells (Int.toNat 2 * 2) = #[.string ⟨#[]⟩, .string ⟨#[]⟩, .string ⟨#[]⟩, .string ⟨#[]⟩] := by kernel_rfl
    rw [hm]
    rfl
  have hcp0 := fun W ty g => run_copy_no W ty g 2 c p
  simp only [goInt] at hcp0
  clear hi0 hz0 hz1 hz2
  go_enter Try.func7, Try.ntmps7
  go_wp2_with fail
  refine (fixed_too _).mono ?_
  rintro e w1 ⟨rfl, hq1⟩
  have hmk := hmk0 w1
  have hcp := fun ty => hcp0 (w1.alloc (.cells #[.string ⟨#[]⟩, .string ⟨#[]⟩, .string ⟨#[]⟩, .string ⟨#[]⟩] 26)) ty w1.heap.size
  have HQ1 := hid hq1
  clear hq1 hmk0 hcp0
  go_wp2_with fail
  have hb2 : Below w.heap.size w (w1.alloc (.cells #[.string ⟨#[109, 97, 114, 107]⟩, .string ⟨#[]⟩, .string ⟨#[]⟩, .string ⟨#[]⟩] 26)) := HQ1.out.alloc HQ1.out.size _
  have hmk2 : (w1.alloc (.cells #[.string ⟨#[109, 97, 114, 107]⟩, .string ⟨#[]⟩, .string ⟨#[]⟩, .string ⟨#[]⟩] 26)).cell? ⟨w1.heap.size, 0, none⟩ = some (.string ⟨#[109, 97, 114, 107]⟩) := new_cell w1 _ 26 0 _ rfl
  have HB2 := hid hb2
  have HMK := hid hmk2
  clear hb2 hmk2 hmk hcp
  generalize w1.heap.size = R at *
  generalize w1.alloc (.cells #[.string ⟨#[109, 97, 114, 107]⟩, .string ⟨#[]⟩, .string ⟨#[]⟩, .string ⟨#[]⟩] 26) = W3 at *
  refine (sort_any R 0 2 [] W3 (fun i h => absurd h (by simp)) (by simp)).mono ?_
  rintro e w4 ⟨vg, rg, rfl, _, hmg, _, hog, hng, hbg⟩
  have erg : rg = [] := List.eq_nil_iff_forall_not_mem.2 fun x hx => by simpa using (hmg x).1 hx
  subst erg
  have hgf : ∃ g cap, vg = .slice (some ⟨g, 0, none⟩) 0 cap := by
    rcases hog.2 with ⟨h, _⟩ | ⟨g, cap, _, h, _⟩
    · exact absurd h hng
    · exact ⟨g, cap, h⟩
  obtain ⟨gg, capg, rfl⟩ := hgf
  have HB4 := hid (HB2.out.trans (hbg.mono HB2.out.size))
  have HMK4 := hid (kept hbg HMK.out)
  have HOG4 := hid hog
  have hgg : w.heap.size ≤ gg := Nat.le_trans HB2.out.size (World.ownsRow.lt hog gg rfl).1
  clear hmg hog hng hbg
  go_wp2_with fail
  refine (nsort_any R 0 2 [] w4 (fun i h => absurd h (by simp)) (by simp)).mono ?_
  rintro e w5 ⟨va, ra, rfl, _, hma, _, hoa, hba⟩
  have era : ra = [] := List.eq_nil_iff_forall_not_mem.2 fun x hx => by simpa using (hma x).1 hx
  subst era
  obtain ⟨pa, ca, rfl⟩ := own_nil_is hoa
  have HB5 := hid (HB4.out.trans (hba.mono HB4.out.size))
  have HMK5 := hid (kept hba HMK4.out)
  have HOG5 := hid (HOG4.out.on hba)
  clear hma hoa hba
  go_wp2_with fail
  refine (rsort_none p c w5).mono ?_
  rintro e w6 ⟨vw, rr, rfl, _, hmr, _, hor, hbr⟩
  have err : rr = [] := List.eq_nil_iff_forall_not_mem.2 fun x hx => by simpa using (hmr x).1 hx
  subst err
  obtain ⟨pw, cw, rfl⟩ := own_nil_is hor
  have HB6 := hid (HB5.out.trans (hbr.mono HB5.out.size))
  have HMK6 := hid (kept hbr HMK5.out)
  have HOG6 := hid (HOG5.out.on hbr)
  clear hmr hor hbr
  go_wp2_with fail
  refine (same_any _ _ [] [] w6 (is_nil _ _ _) (is_nil _ _ _) (by simp) (by simp)).mono ?_
  rintro e w7 ⟨rfl, n1, rfl⟩
  rw [decide_eq_true (rfl : ([] : List (ByteArray × ByteArray)) = [])]
  go_wp2_with fail
  refine (nsort_nil (w6.drewN n1)).mono ?_
  rintro e w8 ⟨vt, rt, rfl, _, hmt, _, hot, hbt⟩
  have ert : rt = [] := List.eq_nil_iff_forall_not_mem.2 fun x hx => by simpa using (hmt x).1 hx
  subst ert
  obtain ⟨pt, ct, rfl⟩ := own_nil_is hot
  have hb6n := below_drewN HB6.out n1
  have HB8 := hid (hb6n.trans (hbt.mono hb6n.size))
  have HMK8 := hid (kept (W := w6.drewN n1) hbt HMK6.out)
  have HOG8 := hid (Own.on (W := w6.drewN n1) HOG6.out hbt)
  clear hmt hot hbt hb6n
  go_wp2_with fail
  refine (same_any _ _ [] [] w8 (is_nil _ _ _) (is_nil _ _ _) (by simp) (by simp)).mono ?_
  rintro e w9 ⟨rfl, n2, rfl⟩
  rw [decide_eq_true (rfl : ([] : List (ByteArray × ByteArray)) = [])]
  go_wp2_with fail
  refine (same_any _ _ [] [] (w8.drewN n2) (is_nil _ _ _) (is_nil _ _ _) (by simp) (by simp)).mono ?_
  rintro e w10 ⟨rfl, n3, rfl⟩
  rw [decide_eq_true (rfl : ([] : List (ByteArray × ByteArray)) = [])]
  have hmark := HMK8.out
  go_wp2_with fail
  clear hmark
  refine wp_loop_rounds 1 ?_
  rw [rounds_succ]
  go_wp2_with fail
  go_loopw [7, 101] (fun v7 i wr2 => ∃ (m gx cx : Nat) (dk2 : List (ByteArray × ByteArray)), m ≤ 8 ∧ i = .int .i64 m ∧ v7 = .slice (some ⟨gx, 0, none⟩) m cx ∧ dk2.length = m ∧ Own wr2 0 (.slice (some ⟨gx, 0, none⟩) m cx) dk2 ∧ w.heap.size ≤ gx ∧ Below w.heap.size w wr2) (fun _ i _ => 8 - (intOf i).toNat)
  case atStart => exact ⟨0, gg, capg, [], by omega, rfl, rfl, rfl, HOG8.out.weak, hgg, below_drewN HB8.out _⟩
  case round =>
    obtain ⟨m, gx, cx, dk2, hm8, rfl, rfl, hdk2, ho2, ha2, hr2⟩ := hrel
    have HO2 := hid ho2
    have HR2 := hid hr2
    clear ho2 hr2
    by_cases hm : m < 8
    · obtain ⟨i1, hi0, hz0, hz1, hz2⟩ := info_parts Try.info26
      have hown3 : (wr.alloc (.cells #[.string ⟨#[121]⟩, .string ⟨#[]⟩] 26)).ownsRow 0 26 2 (.slice (some ⟨gx, 0, none⟩) m cx) m (cellsL dk2) := by
        have := HO2.out
        unfold Own at this
        rw [hdk2] at this
        exact World.ownsRow.alloc this _
      have H3 := hid hown3
      have hsz := HR2.out.size
      clear hown3
      go_wp2_with (at_builtin; refine wpList_append_lies _ rfl _ _ 31 rfl 0 26 i1 (.agg #[.string ⟨#[]⟩, .string ⟨#[]⟩]) 2 32 Try.underlying31 hi0 hz0 hz1 hz2 rfl (by decide) _ _ _ rfl H3.out ⟨wr.heap.size, 0, none⟩ 1 1 [.string ⟨#[121]⟩, .string ⟨#[]⟩] rfl rfl ?c1 ?c2 (by decide) ?c3 ?c4 (Nat.zero_le _) (wr.heap.size + 1) ?c6 ?_)
      case c1 => exact two_new _ _ rfl _ _
      case c2 => intro u hu; simp at hu; rcases hu with rfl | rfl <;> rfl
      case c3 => unfold maxLen; omega
      case c4 => omega
      case c6 => simp
      intro g2 cap2 w1' hown1 hgrow hat hg2
      have hre : Below w.heap.size w w1' := (HR2.out.alloc HR2.out.size _).grown hgrow (by simp; omega) (by intro k hk; simp [Value.ownBlock] at hk; omega)
      have hap2 : w.heap.size ≤ g2 := by
        rcases hat with h | h
        · have : gx = g2 := by simpa [Value.ownBlock] using h
          omega
        · omega
      have hown4 : Own w1' 0 (.slice (some ⟨g2, 0, none⟩) (m + 1) cap2) (dk2 ++ [(⟨#[121]⟩, ⟨#[]⟩)]) := by
        unfold Own
        rw [cellsL_append, List.length_append, hdk2]
        exact hown1
      have HF := hid (And.intro hre (And.intro hap2 hown4))
      clear hown1 hgrow hat hg2 hre hap2 hown4 hi0 hz0 hz1 hz2
      go_wp2_with fail
      exact ⟨⟨m + 1, g2, cap2, _, by omega, by go_num, rfl, by simp [hdk2], HF.out.2.2, HF.out.2.1, HF.out.1⟩, by simp [intOf]; omega⟩
    · go_wp2_with fail
      refine (same_any _ _ [] [] wr (is_nil _ _ _) (is_nil _ _ _) (by simp) (by simp)).mono ?_
      rintro e w12 ⟨rfl, n4, rfl⟩
      rw [decide_eq_true (rfl : ([] : List (ByteArray × ByteArray)) = [])]
      go_wp2_with fail
      refine (same_any _ _ [] [] (wr.drewN n4) (is_nil _ _ _) (is_nil _ _ _) (by simp) (by simp)).mono ?_
      rintro e w13 ⟨rfl, n5, rfl⟩
      rw [decide_eq_true (rfl : ([] : List (ByteArray × ByteArray)) = [])]
      go_wp2_with fail
      go_ret
      exact ⟨rfl, below_drewN HR2.out _⟩

end Go.Proofs.Ytgpeaepmkincaaa
