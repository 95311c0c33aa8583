/-
  SnapsPlays (stage 10): every answer of every script.
-/
import Derived.Test.YtkiandchgbldbaaQfx
import Derived.Test.YtkiandchgbldbaaQsp
namespace Go.Proofs.Ytkiandchgbldbaa
open Go.RowKit

/-- An operation: kind, id, stamp. -/
abbrev Oq := Int × Int × Int
def KOq : Kind Oq := ⟨33, 3, fun x => [.int .i64 x.1, .int .i64 x.2.1, .int .u64 x.2.2], fun _ => rfl, by decide, fun x u hu => by simp at hu; rcases hu with rfl | rfl | rfl <;> rfl⟩

theorem koq_at {w : World} {b off : Nat} {d : List Oq} (h : KOq.At w b off d) (i : Nat) (hi : i < d.length) : w.cell? ⟨b, off + i * 3, none⟩ = some (.int .i64 d[i].1) ∧ w.cell? ⟨b, off + i * 3 + 1, none⟩ = some (.int .i64 d[i].2.1) ∧ w.cell? ⟨b, off + i * 3 + 2, none⟩ = some (.int .u64 d[i].2.2) :=
  ⟨h i hi 0 _ rfl, h i hi 1 _ rfl, h i hi 2 _ rfl⟩

theorem two_start {n0 g : Nat} {W w2 : World} (hn : n0 = W.heap.size) (h : OneV n0 W (fun _ => False) g [] 0 w2) :
    TwoS n0 g w2.heap.size [] 0 (w2.alloc (.cells #[.slice none 0 0, .slice none 0 0, .int .u64 0] 31)) ∧ Below n0 W (w2.alloc (.cells #[.slice none 0 0, .slice none 0 0, .int .u64 0] 31)) := by
  have hb := h.below (N := n0) (by omega) fun k hk => hk.elim
  have hs := hb.size
  obtain ⟨B, h1, h2, h3⟩ := h
  have hba : Below w2.heap.size w2 (w2.alloc (.cells #[.slice none 0 0, .slice none 0 0, .int .u64 0] 31)) := (Below.refl _ _).alloc (Nat.le_refl _) _
  have hbl : ∀ k, BlkR w2.heap.size (.slice none 0 0) (.slice none 0 0) k → k = w2.heap.size := fun k hk => by
    rcases hk with rfl | hk | hk
    · rfl
    · cases hk
    · cases hk
  refine ⟨⟨by rw [World.size_alloc]; omega, fun k => B k ∨ k = w2.heap.size, ⟨B, .slice none 0 0, .slice none 0 0, h1.on hba, ⟨[], [], ⟨heap_alloc_new w2 _, by omega, Kind.own_nil _ _ _, Kind.own_nil _ _ _⟩, rfl, rfl⟩, fun k hk hk' => ?_, Fr.refl _ _, fun k hk => ?_⟩, fun k hk => ?_⟩, hb.alloc (by omega) _⟩
  · have := (h1.blk k hk).2
    have := hbl k hk'
    omega
  · rcases hk with hk | hk
    · exact Or.inl (Or.inl hk)
    · exact Or.inl (Or.inr (hbl k hk))
  · rw [World.size_alloc]
    rcases hk with hk | hk
    · have := h1.blk k hk
      omega
    · omega

set_option maxHeartbeats 8000000 in
set_option maxRecDepth 100000 in
theorem plays10_any (v : Value) (ops : List Oq) (w : World) (hv : KOq.Is w v ops) (hx : ∀ x ∈ ops, MU.fit x.2.1) (hl : ops.length ≤ 16000000000000) :
    Calls Try.prog 3 #[v] w fun e w' => e = .returned (.bool true) ∧ Below w.heap.size w w' := by
  have HF := hid (fixed10_any w)
  obtain ⟨p, cap, rfl, hd⟩ := hv
  have HD := hid hd
  have HX := hid hx
  clear hx hd
  go_enter Try.func3, Try.ntmps3
  go_wp2_with fail
  refine HF.out.mono ?_
  rintro e w1 ⟨rfl, hb1⟩
  have HN := hid (one_new w1)
  have HB1 := hid hb1
  clear hb1 HF
  go_wp2_with fail
  refine HN.out.mono ?_
  rintro e w2 ⟨g, rfl, hp2⟩
  obtain ⟨ht2, hb2⟩ := two_start rfl hp2
  have HTW := hid ht2
  have HB2 := hid (bel_then HB1.out HB1.out.size hb2)
  have hws := HB1.out.size
  obtain ⟨n0, hn0⟩ : ∃ n0, w1.heap.size = n0 := ⟨_, rfl⟩
  obtain ⟨gr, hgr⟩ : ∃ gr, w2.heap.size = gr := ⟨_, rfl⟩
  obtain ⟨W2, hW2⟩ : ∃ W2, w2.alloc (.cells #[.slice none 0 0, .slice none 0 0, .int .u64 0] 31) = W2 := ⟨_, rfl⟩
  rw [hn0, hgr, hW2] at HTW
  rw [hW2] at HB2
  rw [hn0] at hws
  clear hp2 hb2 ht2 HN HB1
  try rw [hn0]
  go_wp2_with fail
  try rw [hW2]
  try rw [hgr]
  try rw [hn0]
  clear hn0 hgr hW2
  go_loopg [14] ops.length (fun gg vi wr => ∃ (i : Nat) (os : Sn) (fl : Int), vi = .int .i64 i ∧ i ≤ ops.length ∧ ops.length - i ≤ gg ∧ Hid (TwoS n0 g gr os fl wr ∧ os.length ≤ i ∧ Below n0 W2 wr))
  case atStart => exact ⟨0, [], 0, rfl, by omega, by omega, HTW.out, Nat.le_refl _, Below.refl _ _⟩
  case round =>
    clear HTW
    obtain ⟨i, os, fl, rfl, hi, hgk, HI⟩ := hrel
    have hbw : Below w.heap.size w wr := HB2.out.trans (HI.out.2.2.mono hws)
    by_cases hlt : i < ops.length
    · have hltz : (i : Int) < (ops.length : Int) := by omega
      have hiz : (0 : Int) ≤ i := by omega
      obtain ⟨b1, o1, rfl, k1⟩ : ∃ b off, p = some ⟨b, off, none⟩ ∧ KOq.At w b off ops := by
        rcases HD.out with h | h
        · rw [h] at hlt; simp at hlt
        · exact h
      obtain ⟨y0, y1, y2⟩ := koq_at (Kind.at_kept k1 hbw) i hlt
      have hxi := HX.out _ (List.getElem_mem hlt)
      generalize ops[i] = x at *
      obtain ⟨xk, xi, xs⟩ := x
      obtain ⟨hnw, C, tw, hC⟩ := HI.out.1
      have hBA : Below wr.heap.size wr (wr.alloc (.cells #[.int .i64 xk, .int .i64 xi, .int .u64 xs] 33)) := (Below.refl _ _).alloc (Nat.le_refl _) _
      have htA : TwoS n0 g gr os fl (wr.alloc (.cells #[.int .i64 xk, .int .i64 xi, .int .u64 xs] 33)) := ⟨by rw [World.size_alloc]; omega, C, tw.alloc _, fun k hk => by rw [World.size_alloc]; have := hC k hk; omega⟩
      have HST := hid (step10_any n0 g gr os fl _ htA xk xi xs hxi (by have := HI.out.2.1; omega))
      have HBN : Hid (Below n0 W2 (wr.alloc (.cells #[.int .i64 xk, .int .i64 xi, .int .u64 xs] 33))) := HI.out.2.2.trans (hBA.mono hnw)
      have HRL := hid HI.out.2.1
      clear HI hxi hBA htA tw hC hbw k1 hnw
      go_wp2_with fail
      refine HST.out.mono ?_
      rintro e w3 ⟨rfl, os3, fl3, q3, b3, l3⟩
      have HQ3 := hid q3
      have HB3 := hid (HBN.out.trans b3)
      have HL3 := hid l3
      clear q3 b3 l3 HST HBN
      go_wp2_with fail
      go_roundg (ops.length - (i + 1))
      case measure => omega
      exact ⟨i + 1, os3, fl3, by go_num, by omega, by omega, HQ3.out, by have h1 := HL3.out; have h2 := HRL.out; omega, HB3.out⟩
    · have hltz : ¬ (i : Int) < (ops.length : Int) := by omega
      obtain ⟨hnw, C, tw, hC⟩ := HI.out.1
      have hlo : os.length ≤ 17000000000000 := by have := HI.out.2.1; omega
      have h40 : os.length < 40000000000000 := by omega
      have H1 := hid (two_floor tw.drew)
      have f0 := tw.flr
      have HW : Hid (∀ os1 fl1 w', TwoV n0 wr C g gr os1 fl1 os1 fl1 w' → Below w.heap.size w w') := fun os1 fl1 w' q => hbw.trans ((q.below (N := n0) hnw fun k hk => (hC k hk).1).mono hws)
      clear HI tw hC hbw
      go_wp2_with fail
      refine wp_region_held_drew (S := fun w' => w'.cell? ⟨gr, 2, none⟩ = some (.int .u64 fl)) (by kernel_rfl) f0 (fun hHeld => ?_)
      refine take_val (i := 0) (.pointer (some ⟨g, 0, none⟩)) rfl (by kernel_rfl) (by kernel_rfl) (by kernel_rfl) (fun _ _ _ h => h) (by rfl) (fun w hSw => by go_simp) hHeld ?_
      simp only [Act.put, List.setIfInBounds_toArray, List.set_cons_zero, List.set_cons_succ]
      refine take_val (i := 2) (.pointer (some ⟨gr, 0, none⟩)) rfl (by kernel_rfl) (by kernel_rfl) (by kernel_rfl) (fun _ _ _ h => h) (by rfl) (fun w hSw => by go_simp) hHeld ?_
      simp only [Act.put, List.setIfInBounds_toArray, List.set_cons_zero, List.set_cons_succ]
      refine take_val (i := 3) (.pointer (some ⟨gr, 0, none⟩)) rfl (by kernel_rfl) (by kernel_rfl) (by kernel_rfl) (fun _ _ _ h => h) (by rfl) (fun w hSw => by go_simp) hHeld ?_
      simp only [Act.put, List.setIfInBounds_toArray, List.set_cons_zero, List.set_cons_succ]
      refine take_val (i := 4) (.pointer (some ⟨gr, 2, none⟩)) rfl (by kernel_rfl) (by kernel_rfl) (by kernel_rfl) (fun _ _ _ h => h) (by rfl) (fun w hSw => by go_simp) hHeld ?_
      simp only [Act.put, List.setIfInBounds_toArray, List.set_cons_zero, List.set_cons_succ]
      refine take_val (i := 5) (.int .u64 fl) rfl (by kernel_rfl) (by kernel_rfl) (by kernel_rfl) (fun _ _ _ h => h) (by rfl) (fun w hSw => by go_simp) hHeld ?_
      simp only [Act.put, List.setIfInBounds_toArray, List.set_cons_zero, List.set_cons_succ]
      refine wpAnyH_ready (rs := [1]) (by kernel_rfl) (by simp) ?_
      refine AllReadyH.cons (at_drop0 rfl) (fun K hK => ?_) AllReadyH.nil
      rw [if_pos (by rfl)]
      go_simp
      refine H1.out.mono ?_
      rintro e w3 ⟨rfl, q3⟩
      have f3 := q3.flr
      have H3 := hid (two_count q3)
      clear q3 H1 hHeld
      go_wp2_with fail
      refine hK.out _ _ f3 (fun hHeld => ?_)
      clear hK K
      try simp only [Act.put, List.setIfInBounds_toArray, List.set_cons_zero, List.set_cons_succ]
      refine take_val (i := 6) (.bool true) rfl (by kernel_rfl) (by kernel_rfl) (by kernel_rfl) (fun _ _ _ h => h) (by rfl) (fun w hSw => by go_simp) hHeld ?_
      simp only [Act.put, List.setIfInBounds_toArray, List.set_cons_zero, List.set_cons_succ]
      refine take_val (i := 7) (.bool true) rfl (by kernel_rfl) (by kernel_rfl) (by kernel_rfl) (fun _ _ _ h => h) (by rfl) (fun w hSw => by go_simp) hHeld ?_
      simp only [Act.put, List.setIfInBounds_toArray, List.set_cons_zero, List.set_cons_succ]
      refine take_val (i := 8) (.pointer (some ⟨g, 0, none⟩)) rfl (by kernel_rfl) (by kernel_rfl) (by kernel_rfl) (fun _ _ _ h => h) (by rfl) (fun w hSw => by go_simp) hHeld ?_
      simp only [Act.put, List.setIfInBounds_toArray, List.set_cons_zero, List.set_cons_succ]
      refine take_val (i := 10) (.pointer (some ⟨gr, 0, none⟩)) rfl (by kernel_rfl) (by kernel_rfl) (by kernel_rfl) (fun _ _ _ h => h) (by rfl) (fun w hSw => by go_simp) hHeld ?_
      simp only [Act.put, List.setIfInBounds_toArray, List.set_cons_zero, List.set_cons_succ]
      refine wpAnyH_ready (rs := [9]) (by kernel_rfl) (by simp) ?_
      refine AllReadyH.cons (at_drop0 rfl) (fun K hK => ?_) AllReadyH.nil
      rw [if_pos (by rfl)]
      go_simp
      refine H3.out.mono ?_
      rintro e w4 ⟨rfl, q4⟩
      have f4 := q4.flr
      have H4 := hid (two_rcount q4 hlo)
      clear q4 H3 hHeld
      generalize ((countQ os : Nat) : Int) = R at *
      go_wp2_with fail
      refine hK.out _ _ f4 (fun hHeld => ?_)
      clear hK K
      try simp only [Act.put, List.setIfInBounds_toArray, List.set_cons_zero, List.set_cons_succ]
      refine wpAnyH_ready (rs := [11]) (by kernel_rfl) (by simp) ?_
      refine AllReadyH.cons (at_drop0 rfl) (fun K hK => ?_) AllReadyH.nil
      rw [if_pos (by rfl)]
      go_simp
      refine H4.out.mono ?_
      rintro e w5 ⟨rfl, q5⟩
      have f5 := q5.flr
      have H5 := hid (two_least q5 18446744073709551615 h40)
      clear q5 H4 hHeld
      go_wp2_with fail
      refine hK.out _ _ f5 (fun hHeld => ?_)
      clear hK K
      try simp only [Act.put, List.setIfInBounds_toArray, List.set_cons_zero, List.set_cons_succ]
      refine take_val (i := 12) (.bool true) rfl (by kernel_rfl) (by kernel_rfl) (by kernel_rfl) (fun _ _ _ h => h) (by rfl) (fun w hSw => by go_simp) hHeld ?_
      simp only [Act.put, List.setIfInBounds_toArray, List.set_cons_zero, List.set_cons_succ]
      refine take_val (i := 13) (.bool true) rfl (by kernel_rfl) (by kernel_rfl) (by kernel_rfl) (fun _ _ _ h => h) (by rfl) (fun w hSw => by go_simp) hHeld ?_
      simp only [Act.put, List.setIfInBounds_toArray, List.set_cons_zero, List.set_cons_succ]
      refine take_val (i := 14) (.bool true) rfl (by kernel_rfl) (by kernel_rfl) (by kernel_rfl) (fun _ _ _ h => h) (by rfl) (fun w hSw => by go_simp) hHeld ?_
      simp only [Act.put, List.setIfInBounds_toArray, List.set_cons_zero, List.set_cons_succ]
      refine take_val (i := 15) (.pointer (some ⟨g, 0, none⟩)) rfl (by kernel_rfl) (by kernel_rfl) (by kernel_rfl) (fun _ _ _ h => h) (by rfl) (fun w hSw => by go_simp) hHeld ?_
      simp only [Act.put, List.setIfInBounds_toArray, List.set_cons_zero, List.set_cons_succ]
      refine take_val (i := 17) (.pointer (some ⟨gr, 0, none⟩)) rfl (by kernel_rfl) (by kernel_rfl) (by kernel_rfl) (fun _ _ _ h => h) (by rfl) (fun w hSw => by go_simp) hHeld ?_
      simp only [Act.put, List.setIfInBounds_toArray, List.set_cons_zero, List.set_cons_succ]
      refine wpAnyH_ready (rs := [16]) (by kernel_rfl) (by simp) ?_
      refine AllReadyH.cons (at_drop0 rfl) (fun K hK => ?_) AllReadyH.nil
      rw [if_pos (by rfl)]
      go_simp
      refine H5.out.mono ?_
      rintro e w6 ⟨rfl, q6⟩
      have f6 := q6.flr
      have H6 := hid (two_rleast q6 18446744073709551615 hlo)
      clear q6 H5 hHeld
      generalize leastQ os 18446744073709551615 = R2 at *
      go_wp2_with fail
      refine hK.out _ _ f6 (fun hHeld => ?_)
      clear hK K
      try simp only [Act.put, List.setIfInBounds_toArray, List.set_cons_zero, List.set_cons_succ]
      refine wpAnyH_ready (rs := [18]) (by kernel_rfl) (by simp) ?_
      refine AllReadyH.cons (at_drop0 rfl) (fun K hK => ?_) AllReadyH.nil
      rw [if_pos (by rfl)]
      go_simp
      refine H6.out.mono ?_
      rintro e w7 ⟨rfl, q7⟩
      have f7 := q7.flr
      have HB7 := hid (HW.out _ _ w7 q7)
      clear q7 H6 hHeld
      go_wp2_with fail
      refine hK.out _ _ f7 (fun hHeld => ?_)
      clear hK K
      try simp only [Act.put, List.setIfInBounds_toArray, List.set_cons_zero, List.set_cons_succ]
      refine take_val (i := 19) (.bool true) rfl (by kernel_rfl) (by kernel_rfl) (by kernel_rfl) (fun _ _ _ h => h) (by rfl) (fun w hSw => by go_simp) hHeld ?_
      simp only [Act.put, List.setIfInBounds_toArray, List.set_cons_zero, List.set_cons_succ]
      refine take_val (i := 20) (.bool true) rfl (by kernel_rfl) (by kernel_rfl) (by kernel_rfl) (fun _ _ _ h => h) (by rfl) (fun w hSw => by go_simp) hHeld ?_
      simp only [Act.put, List.setIfInBounds_toArray, List.set_cons_zero, List.set_cons_succ]
      refine take_val (i := 21) (.bool true) rfl (by kernel_rfl) (by kernel_rfl) (by kernel_rfl) (fun _ _ _ h => h) (by rfl) (fun w hSw => by go_simp) hHeld ?_
      simp only [Act.put, List.setIfInBounds_toArray, List.set_cons_zero, List.set_cons_succ]
      refine wpAnyH_done (by kernel_rfl) ?_ _
      go_wp2_with fail
      go_ret
      exact ⟨rfl, HB7.out⟩

end Go.Proofs.Ytkiandchgbldbaa
