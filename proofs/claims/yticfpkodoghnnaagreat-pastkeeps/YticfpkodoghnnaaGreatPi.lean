/-
  Texts of this claim, one behind the other: Lk3 Roe Lk1 Lk2 Lk4 Lfd Lu0 Psw Lt4 Lu1 Lu2 Lu3 Lk5 Ls5 La4.
-/
import Derived.Test.YticfpkodoghnnaaGreatPg
import Derived.Test.YticfpkodoghnnaaGreatPf
import Derived.Test.YticfpkodoghnnaaGreatPb
import Derived.Test.YticfpkodoghnnaaGreatPd
import Derived.Test.YticfpkodoghnnaaGreatPe
import Derived.Deep.DeepAppendWide
import Derived.Test.YticfpkodoghnnaaGreatRows
import Derived.Test.YticfpkodoghnnaaGreatPh
/-
  Package past as it landed (stage 14): a nil directory.
-/
namespace Go.Proofs.YticfpkodoghnnaaGreat
open Go.RowKit Go.Lib

set_option maxHeartbeats 8000000 in
set_option maxRecDepth 100000 in
theorem pat_nil (fl sn t : Int) (k : Ky) (W : World) :
    Calls Tryz.prog 10 #[.pointer none, winV fl sn, .int .u64 t, .agg #[.string k.1, .string k.2]] W fun e w' => RdV W (none, 1) e w' := by
  obtain ⟨hb0, h0, h1, h2, hs⟩ := three_boxes14 W #[.int .u64 fl, .int .u64 sn] #[.string k.1, .string k.2] #[.int .i64 0, .int .u64 0, .int .i64 0, .bool false, .slice none 0 0] 36 31 39
  obtain ⟨V, hV⟩ : ∃ V, ((W.alloc (.cells #[.int .u64 fl, .int .u64 sn] 36)).alloc (.cells #[.string k.1, .string k.2] 31)).alloc (.cells #[.int .i64 0, .int .u64 0, .int .i64 0, .bool false, .slice none 0 0] 39) = V := ⟨_, rfl⟩
  obtain ⟨Q, hQ⟩ : ∃ Q, W.heap.size = Q := ⟨_, rfl⟩
  rw [hV] at hb0 h0 h1 h2 hs
  rw [hQ] at h0 h1 h2 hs
  have HV := hid hb0
  have HKB : Hid (∀ W', Below V.heap.size V W' → (W'.cell? ⟨Q, 0, none⟩ = some (.int .u64 fl) ∧ W'.cell? ⟨Q, 1, none⟩ = some (.int .u64 sn)) ∧ (W'.cell? ⟨Q + 1, 0, none⟩ = some (.string k.1) ∧ W'.cell? ⟨Q + 1, 1, none⟩ = some (.string k.2)) ∧ W'.heap[Q + 2]? = some (.cells #[.int .i64 0, .int .u64 0, .int .i64 0, .bool false, .slice none 0 0] 39 (0, 0))) := fun W' hW => by
    have e0 := (hW.block Q (by omega)).trans h0
    have e1 := (hW.block (Q + 1) (by omega)).trans h1
    have e2 := (hW.block (Q + 2) (by omega)).trans h2
    exact ⟨⟨by rw [Lib.cell_of_heap e0]; rfl, by rw [Lib.cell_of_heap e0]; rfl⟩, ⟨by rw [Lib.cell_of_heap e1]; rfl, by rw [Lib.cell_of_heap e1]; rfl⟩, e2⟩
  obtain ⟨⟨f0, f1⟩, ⟨a0, a1⟩, _⟩ := HKB.out V (Below.refl _ _)
  have HSZ : Hid (V.heap.size = Q + 3) := hs
  have HQQ : Hid (W.heap.size = Q) := hQ
  have HRE := hid (refused_nil fl sn t V)
  clear h0 h1 h2 hb0 hs
  obtain ⟨ka, kb⟩ := k
  unfold winV at *
  simp only at *
  go_enter Tryz.func10, Tryz.ntmps10
  go_upto_region 1 with fail
  try rw [hV]
  try rw [hQ]
  go_wp2_with fail
  refine HRE.out.mono ?_
  rintro e W3 ⟨rfl, hb1⟩
  obtain ⟨_, _, h2⟩ := HKB.out W3 hb1
  have HB3 : Hid (Below W.heap.size W W3) := bel_then HV.out HV.out.size hb1
  clear hb1 a0 a1 f0 f1 HRE HKB
  obtain ⟨WZ, hWZ⟩ : ∃ WZ, (((((W3.setCell ⟨Q + 2, 0, none⟩ (.int .i64 0)).setCell ⟨Q + 2, 1, none⟩ (.int .u64 0)).setCell ⟨Q + 2, 2, none⟩ (.int .i64 0)).setCell ⟨Q + 2, 3, none⟩ (.bool false)).setCell ⟨Q + 2, 4, none⟩ (.slice none 0 0)) = WZ := ⟨_, rfl⟩
  have hbz : WZ.heap[Q + 2]? = some (.cells #[.int .i64 0, .int .u64 0, .int .i64 0, .bool false, .slice none 0 0] 39 (0, 0)) := by
    rw [← hWZ]
    exact heap_setCell_same _ (Q + 2) 4 _ _ _ (heap_setCell_same _ (Q + 2) 3 _ _ _ (heap_setCell_same _ (Q + 2) 2 _ _ _ (heap_setCell_same _ (Q + 2) 1 _ _ _ (heap_setCell_same _ (Q + 2) 0 _ _ _ (h2)))))
  have fz : Fr (fun b => b = Q + 2) W3 WZ := by
    rw [← hWZ]
    exact (((((fr_set14 W3 (Q + 2) 0 _).then (fr_set14 _ (Q + 2) 1 _) fun k hk => Or.inl hk).then (fr_set14 _ (Q + 2) 2 _) fun k hk => Or.inl hk).then (fr_set14 _ (Q + 2) 3 _) fun k hk => Or.inl hk).then (fr_set14 _ (Q + 2) 4 _) fun k hk => Or.inl hk)
  have HFIN : Hid (RdV W (none, 1) (.returned (.tuple #[.agg #[.int .i64 0, .int .u64 0, .int .i64 0, .bool false, .slice none 0 0], .int .i64 1])) WZ) := by
    refine ⟨zeroVx, rfl, rfl, ⟨is_setV (zero_rd W3).1 h2 fz, (zero_rd W3).2⟩, ?_⟩
    have q := HB3.out
    exact q.trans (fz.below q.size fun k hk => by have := HSZ.out; have := HQQ.out; omega)
  have y0 : W3.cell? ⟨Q + 2, 0, none⟩ = some (.int .i64 0) := by rw [Lib.cell_of_heap h2]; rfl
  have z0 : W3.frozen? ⟨Q + 2, 0, none⟩ = false := Lib.frozen_of_heap h2 0
  have y1 : W3.cell? ⟨Q + 2, 1, none⟩ = some (.int .u64 0) := by rw [Lib.cell_of_heap h2]; rfl
  have z1 : W3.frozen? ⟨Q + 2, 1, none⟩ = false := Lib.frozen_of_heap h2 1
  have y2 : W3.cell? ⟨Q + 2, 2, none⟩ = some (.int .i64 0) := by rw [Lib.cell_of_heap h2]; rfl
  have z2 : W3.frozen? ⟨Q + 2, 2, none⟩ = false := Lib.frozen_of_heap h2 2
  have y3 : W3.cell? ⟨Q + 2, 3, none⟩ = some (.bool false) := by rw [Lib.cell_of_heap h2]; rfl
  have z3 : W3.frozen? ⟨Q + 2, 3, none⟩ = false := Lib.frozen_of_heap h2 3
  have y4 : W3.cell? ⟨Q + 2, 4, none⟩ = some (.slice none 0 0) := by rw [Lib.cell_of_heap h2]; rfl
  have z4 : W3.frozen? ⟨Q + 2, 4, none⟩ = false := Lib.frozen_of_heap h2 4
  have g0 : WZ.cell? ⟨Q + 2, 0, none⟩ = some (.int .i64 0) := by rw [Lib.cell_of_heap hbz]; rfl
  have g1 : WZ.cell? ⟨Q + 2, 1, none⟩ = some (.int .u64 0) := by rw [Lib.cell_of_heap hbz]; rfl
  have g2 : WZ.cell? ⟨Q + 2, 2, none⟩ = some (.int .i64 0) := by rw [Lib.cell_of_heap hbz]; rfl
  have g3 : WZ.cell? ⟨Q + 2, 3, none⟩ = some (.bool false) := by rw [Lib.cell_of_heap hbz]; rfl
  have g4 : WZ.cell? ⟨Q + 2, 4, none⟩ = some (.slice none 0 0) := by rw [Lib.cell_of_heap hbz]; rfl
  clear hbz fz
  go_wp2_with fail
  try rw [hWZ]
  exact bodyPost_ret (v := .tuple #[.agg #[.int .i64 0, .int .u64 0, .int .i64 0, .bool false, .slice none 0 0], .int .i64 1]) (by simp [results, Tryz.results10, go_sem, g0, g1, g2, g3, g4]) rfl HFIN.out

set_option maxHeartbeats 8000000 in
set_option maxRecDepth 100000 in
theorem pnum_nil (fl sn : Int) (k : Ky) (i : Int) (W : World) :
    Calls Tryz.prog 22 #[.pointer none, winV fl sn, .agg #[.string k.1, .string k.2], .int .i64 i] W fun e w' => RdV W (none, 1) e w' := by
  obtain ⟨hb0, h0, h1, h2, hs⟩ := three_boxes14 W #[.int .u64 fl, .int .u64 sn] #[.string k.1, .string k.2] #[.int .i64 0, .int .u64 0, .int .i64 0, .bool false, .slice none 0 0] 36 31 39
  obtain ⟨V, hV⟩ : ∃ V, ((W.alloc (.cells #[.int .u64 fl, .int .u64 sn] 36)).alloc (.cells #[.string k.1, .string k.2] 31)).alloc (.cells #[.int .i64 0, .int .u64 0, .int .i64 0, .bool false, .slice none 0 0] 39) = V := ⟨_, rfl⟩
  obtain ⟨Q, hQ⟩ : ∃ Q, W.heap.size = Q := ⟨_, rfl⟩
  rw [hV] at hb0 h0 h1 h2 hs
  rw [hQ] at h0 h1 h2 hs
  have HV := hid hb0
  have HKB : Hid (∀ W', Below V.heap.size V W' → (W'.cell? ⟨Q, 0, none⟩ = some (.int .u64 fl) ∧ W'.cell? ⟨Q, 1, none⟩ = some (.int .u64 sn)) ∧ (W'.cell? ⟨Q + 1, 0, none⟩ = some (.string k.1) ∧ W'.cell? ⟨Q + 1, 1, none⟩ = some (.string k.2)) ∧ W'.heap[Q + 2]? = some (.cells #[.int .i64 0, .int .u64 0, .int .i64 0, .bool false, .slice none 0 0] 39 (0, 0))) := fun W' hW => by
    have e0 := (hW.block Q (by omega)).trans h0
    have e1 := (hW.block (Q + 1) (by omega)).trans h1
    have e2 := (hW.block (Q + 2) (by omega)).trans h2
    exact ⟨⟨by rw [Lib.cell_of_heap e0]; rfl, by rw [Lib.cell_of_heap e0]; rfl⟩, ⟨by rw [Lib.cell_of_heap e1]; rfl, by rw [Lib.cell_of_heap e1]; rfl⟩, e2⟩
  obtain ⟨⟨f0, f1⟩, ⟨a0, a1⟩, _⟩ := HKB.out V (Below.refl _ _)
  have HSZ : Hid (V.heap.size = Q + 3) := hs
  have HQQ : Hid (W.heap.size = Q) := hQ
  clear h0 h1 hb0 hs HKB a0 a1 f0 f1
  obtain ⟨ka, kb⟩ := k
  unfold winV at *
  simp only at *
  obtain ⟨WZ, hWZ⟩ : ∃ WZ, (((((V.setCell ⟨Q + 2, 0, none⟩ (.int .i64 0)).setCell ⟨Q + 2, 1, none⟩ (.int .u64 0)).setCell ⟨Q + 2, 2, none⟩ (.int .i64 0)).setCell ⟨Q + 2, 3, none⟩ (.bool false)).setCell ⟨Q + 2, 4, none⟩ (.slice none 0 0)) = WZ := ⟨_, rfl⟩
  have hbz : WZ.heap[Q + 2]? = some (.cells #[.int .i64 0, .int .u64 0, .int .i64 0, .bool false, .slice none 0 0] 39 (0, 0)) := by
    rw [← hWZ]
    exact heap_setCell_same _ (Q + 2) 4 _ _ _ (heap_setCell_same _ (Q + 2) 3 _ _ _ (heap_setCell_same _ (Q + 2) 2 _ _ _ (heap_setCell_same _ (Q + 2) 1 _ _ _ (heap_setCell_same _ (Q + 2) 0 _ _ _ (h2)))))
  have fz : Fr (fun b => b = Q + 2) V WZ := by
    rw [← hWZ]
    exact (((((fr_set14 V (Q + 2) 0 _).then (fr_set14 _ (Q + 2) 1 _) fun k hk => Or.inl hk).then (fr_set14 _ (Q + 2) 2 _) fun k hk => Or.inl hk).then (fr_set14 _ (Q + 2) 3 _) fun k hk => Or.inl hk).then (fr_set14 _ (Q + 2) 4 _) fun k hk => Or.inl hk)
  have HFIN : Hid (RdV W (none, 1) (.returned (.tuple #[.agg #[.int .i64 0, .int .u64 0, .int .i64 0, .bool false, .slice none 0 0], .int .i64 1])) WZ) := by
    refine ⟨zeroVx, rfl, rfl, ⟨is_setV (zero_rd V).1 h2 fz, (zero_rd V).2⟩, ?_⟩
    have q := HV.out
    exact q.trans (fz.below q.size fun k hk => by have := HSZ.out; have := HQQ.out; omega)
  have y0 : V.cell? ⟨Q + 2, 0, none⟩ = some (.int .i64 0) := by rw [Lib.cell_of_heap h2]; rfl
  have z0 : V.frozen? ⟨Q + 2, 0, none⟩ = false := Lib.frozen_of_heap h2 0
  have y1 : V.cell? ⟨Q + 2, 1, none⟩ = some (.int .u64 0) := by rw [Lib.cell_of_heap h2]; rfl
  have z1 : V.frozen? ⟨Q + 2, 1, none⟩ = false := Lib.frozen_of_heap h2 1
  have y2 : V.cell? ⟨Q + 2, 2, none⟩ = some (.int .i64 0) := by rw [Lib.cell_of_heap h2]; rfl
  have z2 : V.frozen? ⟨Q + 2, 2, none⟩ = false := Lib.frozen_of_heap h2 2
  have y3 : V.cell? ⟨Q + 2, 3, none⟩ = some (.bool false) := by rw [Lib.cell_of_heap h2]; rfl
  have z3 : V.frozen? ⟨Q + 2, 3, none⟩ = false := Lib.frozen_of_heap h2 3
  have y4 : V.cell? ⟨Q + 2, 4, none⟩ = some (.slice none 0 0) := by rw [Lib.cell_of_heap h2]; rfl
  have z4 : V.frozen? ⟨Q + 2, 4, none⟩ = false := Lib.frozen_of_heap h2 4
  have g0 : WZ.cell? ⟨Q + 2, 0, none⟩ = some (.int .i64 0) := by rw [Lib.cell_of_heap hbz]; rfl
  have g1 : WZ.cell? ⟨Q + 2, 1, none⟩ = some (.int .u64 0) := by rw [Lib.cell_of_heap hbz]; rfl
  have g2 : WZ.cell? ⟨Q + 2, 2, none⟩ = some (.int .i64 0) := by rw [Lib.cell_of_heap hbz]; rfl
  have g3 : WZ.cell? ⟨Q + 2, 3, none⟩ = some (.bool false) := by rw [Lib.cell_of_heap hbz]; rfl
  have g4 : WZ.cell? ⟨Q + 2, 4, none⟩ = some (.slice none 0 0) := by rw [Lib.cell_of_heap hbz]; rfl
  clear hbz fz
  go_enter Tryz.func22, Tryz.ntmps22
  go_upto_region 1 with fail
  try rw [hV]
  try rw [hQ]
  go_wp2_with fail
  try rw [hWZ]
  exact bodyPost_ret (v := .tuple #[.agg #[.int .i64 0, .int .u64 0, .int .i64 0, .bool false, .slice none 0 0], .int .i64 1]) (by simp [results, Tryz.results22, go_sem, g0, g1, g2, g3, g4]) rfl HFIN.out

set_option maxHeartbeats 4000000 in
set_option maxRecDepth 100000 in
theorem pfind_nil (fl sn t : Int) (typ : ByteArray) (pv : Value) (W : World) :
    Calls Tryz.prog 14 #[.pointer none, winV fl sn, .int .u64 t, .string typ, pv] W fun e w' => e = .returned (.tuple #[.slice none 0 0, .int .i64 1]) ∧ Below W.heap.size W w' := by
  obtain ⟨hb0, hbx, hs0⟩ := one_box14 W #[.int .u64 fl, .int .u64 sn] 36
  obtain ⟨V, hV⟩ : ∃ V, W.alloc (.cells #[.int .u64 fl, .int .u64 sn] 36) = V := ⟨_, rfl⟩
  obtain ⟨Q, hQ⟩ : ∃ Q, W.heap.size = Q := ⟨_, rfl⟩
  rw [hV] at hb0 hbx hs0
  rw [hQ] at hbx
  have HRE := hid (refused_nil fl sn t V)
  have a0 : V.cell? ⟨Q, 0, none⟩ = some (.int .u64 fl) := by rw [Lib.cell_of_heap hbx]; rfl
  have a1 : V.cell? ⟨Q, 1, none⟩ = some (.int .u64 sn) := by rw [Lib.cell_of_heap hbx]; rfl
  have HB0 := hid hb0
  clear hb0 hbx
  unfold winV at *
  go_enter Tryz.func14, Tryz.ntmps14
  go_wp2_with fail
  try rw [hV]
  try rw [hQ]
  go_wp2_with fail
  refine HRE.out.mono ?_
  rintro e w1 ⟨rfl, hb1⟩
  have HB1 : Hid (Below W.heap.size W w1) := bel_then HB0.out HB0.out.size hb1
  clear hb1
  go_wp2_with fail
  go_ret2
  exact ⟨rfl, HB1.out⟩

set_option maxHeartbeats 4000000 in
set_option maxRecDepth 100000 in
theorem phist_nil (fl sn : Int) (k : Ky) (t : Int) (W : World) :
    Calls Tryz.prog 17 #[.pointer none, winV fl sn, .agg #[.string k.1, .string k.2], .int .u64 t] W fun e w' => e = .returned (.tuple #[.slice none 0 0, .int .i64 1]) ∧ Below W.heap.size W w' := by
  obtain ⟨hb0, hbx, hbk, hs0⟩ := two_boxes14 W #[.int .u64 fl, .int .u64 sn] #[.string k.1, .string k.2] 36 31
  obtain ⟨V, hV⟩ : ∃ V, (W.alloc (.cells #[.int .u64 fl, .int .u64 sn] 36)).alloc (.cells #[.string k.1, .string k.2] 31) = V := ⟨_, rfl⟩
  obtain ⟨Q, hQ⟩ : ∃ Q, W.heap.size = Q := ⟨_, rfl⟩
  rw [hV] at hb0 hbx hbk hs0
  rw [hQ] at hbx hbk hs0
  have HRE := hid (refused_nil fl sn t V)
  have a0 : V.cell? ⟨Q, 0, none⟩ = some (.int .u64 fl) := by rw [Lib.cell_of_heap hbx]; rfl
  have a1 : V.cell? ⟨Q, 1, none⟩ = some (.int .u64 sn) := by rw [Lib.cell_of_heap hbx]; rfl
  have HB0 := hid hb0
  clear hb0 hbx
  unfold winV at *
  go_enter Tryz.func17, Tryz.ntmps17
  go_wp2_with fail
  try rw [hV]
  try rw [hQ]
  go_wp2_with fail
  refine HRE.out.mono ?_
  rintro e w1 ⟨rfl, hb1⟩
  have HB1 : Hid (Below W.heap.size W w1) := bel_then HB0.out HB0.out.size hb1
  clear hb1
  go_wp2_with fail
  go_ret2
  exact ⟨rfl, HB1.out⟩

set_option maxHeartbeats 4000000 in
set_option maxRecDepth 100000 in
theorem psince_nil (fl sn : Int) (typ : ByteArray) (t : Int) (W : World) :
    Calls Tryz.prog 20 #[.pointer none, winV fl sn, .string typ, .int .u64 t] W fun e w' => e = .returned (.tuple #[.slice none 0 0, .int .i64 1]) ∧ Below W.heap.size W w' := by
  obtain ⟨hb0, hbx, hs0⟩ := one_box14 W #[.int .u64 fl, .int .u64 sn] 36
  obtain ⟨V, hV⟩ : ∃ V, W.alloc (.cells #[.int .u64 fl, .int .u64 sn] 36) = V := ⟨_, rfl⟩
  obtain ⟨Q, hQ⟩ : ∃ Q, W.heap.size = Q := ⟨_, rfl⟩
  rw [hV] at hb0 hbx hs0
  rw [hQ] at hbx
  have HRE := hid (refused_nil fl sn t V)
  have a0 : V.cell? ⟨Q, 0, none⟩ = some (.int .u64 fl) := by rw [Lib.cell_of_heap hbx]; rfl
  have a1 : V.cell? ⟨Q, 1, none⟩ = some (.int .u64 sn) := by rw [Lib.cell_of_heap hbx]; rfl
  have HB0 := hid hb0
  clear hb0 hbx
  unfold winV at *
  go_enter Tryz.func20, Tryz.ntmps20
  go_wp2_with fail
  try rw [hV]
  try rw [hQ]
  go_wp2_with fail
  refine HRE.out.mono ?_
  rintro e w1 ⟨rfl, hb1⟩
  have HB1 : Hid (Below W.heap.size W w1) := bel_then HB0.out HB0.out.size hb1
  clear hb1
  go_wp2_with fail
  go_ret2
  exact ⟨rfl, HB1.out⟩

end Go.Proofs.YticfpkodoghnnaaGreat

/-
  Some row of elements lies there, whatever it holds: it stands whatever cell is set. No program. (Taken out of Yk1.)
-/
namespace Go.Proofs.YticfpkodoghnnaaGreat
open Go.RowKit

/-- Some row of n elements of k cells each lies there. -/
def RowE (N : Nat) (w : World) (T : TypeId) (k : Nat) (v : Value) (n : Nat) : Prop := ∃ xs, w.ownsRow N T k v n xs

theorem RowE.set {N : Nat} {w : World} {T : TypeId} {k n : Nat} {v : Value} (h : RowE N w T k v n) (a t : Nat) (x : Value) : RowE N (w.setCell ⟨a, t, none⟩ x) T k v n := by
  obtain ⟨xs, hl, h⟩ := h
  rcases h with ⟨h1, h2⟩ | ⟨g, cap, cur, hv, hb, hg, h1, h2, hc, ht⟩
  · exact ⟨xs, hl, Or.inl ⟨h1, h2⟩⟩
  · by_cases e : g = a
    · subst e
      have hs : (w.setCell ⟨g, t, none⟩ x).heap[g]? = some (.cells (cur.setIfInBounds t x) T (0, 0)) := heap_setCell_same w g t _ _ _ hg
      refine ⟨((cur.setIfInBounds t x).toList.take (n * k)), ?_, Or.inr ⟨g, cap, _, hv, hb, hs, h1, h2, by rw [Array.size_setIfInBounds]; exact hc, rfl⟩⟩
      rw [List.length_take, Array.length_toList, Array.size_setIfInBounds, hc]
      exact Nat.min_eq_left (Nat.mul_le_mul_right _ h1)
    · exact ⟨xs, hl, Or.inr ⟨g, cap, cur, hv, hb, (heap_setCell_other w _ g _ e).trans hg, h1, h2, hc, ht⟩⟩
theorem RowE.on {N : Nat} {w w' : World} {T : TypeId} {k n : Nat} {v : Value} (h : RowE N w T k v n) (hb : Below w.heap.size w w') : RowE N w' T k v n := by
  obtain ⟨xs, h⟩ := h
  exact ⟨xs, own_on h hb⟩
theorem RowE.of {α : Type} {K : Kind α} {N : Nat} {w : World} {v : Value} {l : List α} (h : K.Own N w v l) : RowE N w K.T K.k v l.length := ⟨_, h⟩
/-- Where it lies, and that it can be read and written. -/
theorem RowE.form {N : Nat} {w : World} {T : TypeId} {k n c : Nat} {p : Option Addr} (h : RowE N w T k (.slice p n c) n) (hn : 0 < n) : ∃ g cs, p = some ⟨g, 0, none⟩ ∧ w.heap[g]? = some (.cells cs T (0, 0)) ∧ N ≤ g ∧ (∀ t, t < n * k → ∃ z, w.cell? ⟨g, t, none⟩ = some z) ∧ ∀ t, w.frozen? ⟨g, t, none⟩ = false := by
  obtain ⟨xs, hl, h⟩ := h
  rcases h with ⟨h1, h2⟩ | ⟨g, cap, cur, hv, hb, hg, h1, h2, hc, ht⟩
  · omega
  · injection hv with e1 e2 e3
    refine ⟨g, cur, e1, hg, hb, fun t htt => ?_, fun t => Lib.frozen_of_heap hg t⟩
    have hlt : t < cur.size := by rw [hc]; exact Nat.lt_of_lt_of_le htt (Nat.mul_le_mul_right _ h1)
    exact ⟨cur[t], by rw [Lib.cell_of_heap hg]; exact Array.getElem?_eq_getElem hlt⟩
theorem RowE.blk {N : Nat} {w : World} {T : TypeId} {k n : Nat} {v : Value} (h : RowE N w T k v n) (b : Nat) (hb : v.ownBlock = some b) : ∃ cs, w.heap[b]? = some (.cells cs T (0, 0)) := by
  obtain ⟨xs, h⟩ := h
  exact own_type h hb

/-- The cell t of the slice at p holds v. -/
def SlotAt (w : World) (p : Option Addr) (t : Nat) (v : Value) : Prop := ∃ g, p = some ⟨g, 0, none⟩ ∧ w.cell? ⟨g, t, none⟩ = some v

theorem slot_set {w : World} {p : Option Addr} {t : Nat} {v : Value} (h : SlotAt w p t v) (a t' : Nat) (x : Value) (hne : ∀ g, p = some ⟨g, 0, none⟩ → ¬ (g = a ∧ t = t')) : SlotAt (w.setCell ⟨a, t', none⟩ x) p t v := by
  obtain ⟨g, hp, hc⟩ := h
  refine ⟨g, hp, ?_⟩
  rw [World.cell?_setCell_other]
  · exact hc
  · intro e
    injection e with e1 e2 _
    exact hne g hp ⟨e1.symm, e2.symm⟩

end Go.Proofs.YticfpkodoghnnaaGreat

/-
  PastKeeps (stage 14): values that are being written over, whether they share memory or not. No walk.
-/
namespace Go.Proofs.YticfpkodoghnnaaGreat
open Go.RowKit

/-- A slice of texts lies there. -/
def TxE (N : Nat) (w : World) (v : Value) : Prop := ∃ p n c, v = .slice p n c ∧ n ≤ maxLen ∧ RowE N w 9 1 v n
theorem TxE.nil (N : Nat) (w : World) : TxE N w (.slice none 0 0) := ⟨none, 0, 0, rfl, by unfold maxLen; omega, [], World.ownsRow_nil _ _ _ _⟩
theorem TxE.set {N : Nat} {w : World} {v : Value} (h : TxE N w v) (a t : Nat) (x : Value) : TxE N (w.setCell ⟨a, t, none⟩ x) v := by
  obtain ⟨p, n, c, rfl, h1, h2⟩ := h
  exact ⟨p, n, c, rfl, h1, h2.set a t x⟩
theorem TxE.on {N : Nat} {w w' : World} {v : Value} (h : TxE N w v) (hb : Below w.heap.size w w') : TxE N w' v := by
  obtain ⟨p, n, c, rfl, h1, h2⟩ := h
  exact ⟨p, n, c, rfl, h1, h2.on hb⟩

/-- Fields lie there, whatever they hold. -/
def FlE (N : Nat) (w : World) (u : Value) : Prop := ∃ p n c, u = .slice p n c ∧ n ≤ maxLen ∧ RowE N w 107 2 u n ∧ ∀ i, i < n → (∃ s, SlotAt w p (i * 2) (.string s)) ∧ ∃ t, SlotAt w p (i * 2 + 1) t ∧ TxE N w t

theorem SlotAt.on {w w' : World} {p : Option Addr} {t : Nat} {v : Value} (h : SlotAt w p t v) (hb : Below w.heap.size w w') : SlotAt w' p t v := by
  obtain ⟨g, hp, hc⟩ := h
  exact ⟨g, hp, (hb.cell (p := ⟨g, t, none⟩) (cell_block hc)).trans hc⟩
/-- The cell itself, written over. -/
theorem slot_same {w : World} {p : Option Addr} {t : Nat} {v : Value} (h : SlotAt w p t v) {a : Nat} (hp : p = some ⟨a, 0, none⟩) {cs : Array Value} {T : TypeId} (ha : w.heap[a]? = some (.cells cs T (0, 0))) (x : Value) : SlotAt (w.setCell ⟨a, t, none⟩ x) p t x := by
  obtain ⟨g, hp', hc⟩ := h
  rw [hp] at hp'
  injection hp' with e
  injection e with e _ _
  subst e
  refine ⟨a, hp, ?_⟩
  rw [Lib.cell_of_heap ha] at hc
  have ht := (Array.getElem?_eq_some_iff.1 hc).1
  rw [Lib.cell_of_heap (heap_setCell_same w a t _ _ _ ha), Array.getElem?_setIfInBounds_self_of_lt ht]

theorem FlE.on {N : Nat} {w w' : World} {u : Value} (h : FlE N w u) (hb : Below w.heap.size w w') : FlE N w' u := by
  obtain ⟨p, n, c, rfl, h1, h2, h3⟩ := h
  refine ⟨p, n, c, rfl, h1, h2.on hb, fun i hi => ?_⟩
  obtain ⟨⟨s, q1⟩, t, q2, q3⟩ := h3 i hi
  exact ⟨⟨s, q1.on hb⟩, t, q2.on hb, q3.on hb⟩
/-- A cell of another kind of row set. -/
theorem FlE.other {N : Nat} {w : World} {u : Value} (h : FlE N w u) {a : Nat} {cs : Array Value} {T : TypeId} (ha : w.heap[a]? = some (.cells cs T (0, 0))) (hT : T ≠ 107) (j : Nat) (x : Value) : FlE N (w.setCell ⟨a, j, none⟩ x) u := by
  obtain ⟨p, n, c, rfl, h1, h2, h3⟩ := h
  refine ⟨p, n, c, rfl, h1, h2.set a j x, fun i hi => ?_⟩
  have hne : ∀ t g, p = some ⟨g, 0, none⟩ → ¬ (g = a ∧ t = j) := fun t g hp e => by
    obtain ⟨c', hc'⟩ := h2.blk g (by rw [hp]; rfl)
    rw [e.1, ha] at hc'
    injection hc' with hc'
    injection hc' with _ hc'
    exact hT hc'
  obtain ⟨⟨s, q1⟩, t, q2, q3⟩ := h3 i hi
  exact ⟨⟨s, slot_set q1 a j x (hne _)⟩, t, slot_set q2 a j x (hne _), q3.set a j x⟩
/-- A field's name set. -/
theorem FlE.name {N : Nat} {w : World} {u : Value} (h : FlE N w u) {a : Nat} {cs : Array Value} {T : TypeId} (ha : w.heap[a]? = some (.cells cs T (0, 0))) (k : Nat) (s : ByteArray) : FlE N (w.setCell ⟨a, k * 2, none⟩ (.string s)) u := by
  obtain ⟨p, n, c, rfl, h1, h2, h3⟩ := h
  refine ⟨p, n, c, rfl, h1, h2.set a _ _, fun i hi => ?_⟩
  obtain ⟨⟨s', q1⟩, t, q2, q3⟩ := h3 i hi
  refine ⟨?_, t, slot_set q2 a _ _ (fun g _ e => by have := e.2; omega), q3.set a _ _⟩
  by_cases e : p = some ⟨a, 0, none⟩ ∧ i = k
  · obtain ⟨e1, rfl⟩ := e
    exact ⟨s, slot_same q1 e1 ha _⟩
  · exact ⟨s', slot_set q1 a _ _ fun g hp q => e ⟨by rw [hp, q.1], by have := q.2; omega⟩⟩
/-- A field's texts taken away. -/
theorem FlE.drop {N : Nat} {w : World} {u : Value} (h : FlE N w u) {a : Nat} {cs : Array Value} {T : TypeId} (ha : w.heap[a]? = some (.cells cs T (0, 0))) (k : Nat) : FlE N (w.setCell ⟨a, k * 2 + 1, none⟩ (.slice none 0 0)) u := by
  obtain ⟨p, n, c, rfl, h1, h2, h3⟩ := h
  refine ⟨p, n, c, rfl, h1, h2.set a _ _, fun i hi => ?_⟩
  obtain ⟨⟨s', q1⟩, t, q2, q3⟩ := h3 i hi
  refine ⟨⟨s', slot_set q1 a _ _ (fun g _ e => by have := e.2; omega)⟩, ?_⟩
  by_cases e : p = some ⟨a, 0, none⟩ ∧ i = k
  · obtain ⟨e1, rfl⟩ := e
    exact ⟨_, slot_same q2 e1 ha _, TxE.nil _ _⟩
  · exact ⟨t, slot_set q2 a _ _ fun g hp q => e ⟨by rw [hp, q.1], by have := q.2; omega⟩, q3.set a _ _⟩

/-- Values that are being written over. -/
structure Wip (N : Nat) (S : Value → Prop) (w : World) : Prop where
  base : N ≤ w.heap.size
  each : ∀ u, S u → FlE N w u

/-- Only rows of fields and of texts from N on have turned. -/
def BlkWp (N : Nat) (w : World) (b : Nat) : Prop := N ≤ b ∧ ∃ cs T, w.heap[b]? = some (.cells cs T (0, 0)) ∧ (T = 107 ∨ T = 9)
def Wfr (N : Nat) (w w' : World) : Prop := Fr (BlkWp N w) w w'
theorem Wfr.refl (N : Nat) (w : World) : Wfr N w w := Fr.refl _ _
theorem Wfr.trans {N : Nat} {a b c : World} (h : Wfr N a b) (k : Wfr N b c) : Wfr N a c := by
  refine Fr.then h k fun j hj => ?_
  by_cases hl : j < a.heap.size
  · by_cases hp : BlkWp N a j
    · exact Or.inl hp
    · obtain ⟨h1, cs, T, h2, h3⟩ := hj
      exact Or.inl ⟨h1, cs, T, (h.block j hl hp).symm.trans h2, h3⟩
  · exact Or.inr (by omega)
theorem Wfr.set {N : Nat} {w : World} {a : Nat} {cs : Array Value} {T : TypeId} (ha : w.heap[a]? = some (.cells cs T (0, 0))) (hT : T = 107 ∨ T = 9) (hN : N ≤ a) (j : Nat) (x : Value) : Wfr N w (w.setCell ⟨a, j, none⟩ x) :=
  Fr.of_grown (grown_set w a j x) fun k hk => by
    injection hk with hk
    subst hk
    exact ⟨hN, cs, T, ha, hT⟩
/-- A row of another kind stands. -/
theorem Wfr.row {N : Nat} {w w' : World} (f : Wfr N w w') {M : Nat} {e : TypeId} {size : Nat} {v : Value} {n : Nat} {xs : List Value} (h : w.ownsRow M e size v n xs) (h1 : e ≠ 107) (h2 : e ≠ 9) : w'.ownsRow M e size v n xs :=
  Fr.row f h fun k hk hb => by
    obtain ⟨_, cs, T, q1, q2⟩ := hb
    obtain ⟨cs', q3⟩ := own_type h hk
    rw [q1] at q3
    injection q3 with q3
    injection q3 with _ q3
    rw [q3] at q2
    exact q2.elim h1 h2

/-- A value told, as it lies. -/
theorem FlE.of {N M : Nat} {w : World} {u : Value} {o : List Fx} (h : OwnJ M w u o) (hm : mayB (o.map Fx.fld) = true) (hN : N ≤ M) : FlE N w u := by
  obtain ⟨⟨hl, hf⟩, _⟩ := may_fit hm
  obtain ⟨p, c, rfl, hx, _⟩ := h.1.is
  have hE : RowE N w 107 2 (.slice p o.length c) o.length := ⟨_, own_weak h.1.1 hN⟩
  refine ⟨p, o.length, c, rfl, hl, hE, fun i hi => ?_⟩
  obtain ⟨g, cs, e1, _, _, _, _⟩ := hE.form (by omega)
  rcases hx with hx | ⟨b, off, e2, hx⟩
  · rw [hx] at hi; simp at hi
  · rw [e1] at e2
    injection e2 with e2
    injection e2 with e2 e3 _
    subst e2 e3
    obtain ⟨q1, q2⟩ := hx i hi
    rw [Nat.zero_add] at q1 q2
    have hm' := List.getElem_mem hi
    exact ⟨⟨_, g, e1, q1⟩, _, ⟨g, e1, q2⟩, _, _, _, rfl, (hf _ hm').2.1, ⟨_, own_weak (h.1.2 _ hm') hN⟩⟩

end Go.Proofs.YticfpkodoghnnaaGreat

/-
  PastKeeps (stage 14): wipe.
-/
namespace Go.Proofs.YticfpkodoghnnaaGreat
open Go.RowKit

/-- What lies at a value's place i. -/
theorem FlE.form {N : Nat} {w : World} {p : Option Addr} {n c : Nat} (h : FlE N w (.slice p n c)) {i : Nat} (hi : i < n) : ∃ g cs s tp tn tc, p = some ⟨g, 0, none⟩ ∧ w.heap[g]? = some (.cells cs 107 (0, 0)) ∧ N ≤ g ∧ w.cell? ⟨g, i * 2, none⟩ = some (.string s) ∧ w.cell? ⟨g, i * 2 + 1, none⟩ = some (.slice tp tn tc) ∧ (w.frozen? ⟨g, i * 2, none⟩ = false ∧ w.frozen? ⟨g, i * 2 + 1, none⟩ = false) ∧ tn ≤ maxLen ∧ RowE N w 9 1 (.slice tp tn tc) tn := by
  obtain ⟨p', n', c', e, _, h2, h3⟩ := h
  injection e with e1 e2 e3
  subst e1 e2 e3
  obtain ⟨g, cs, hp, hg, hN, _, hf⟩ := h2.form (by omega)
  obtain ⟨⟨s, g1, hp1, q1⟩, t, ⟨g2, hp2, q2⟩, tp, tn, tc, rfl, q3, q4⟩ := h3 i hi
  rw [hp] at hp1 hp2
  injection hp1 with hp1
  injection hp1 with hp1 _ _
  injection hp2 with hp2
  injection hp2 with hp2 _ _
  subst hp1 hp2
  exact ⟨g, cs, s, tp, tn, tc, hp, hg, hN, q1, q2, ⟨hf _, hf _⟩, q3, q4⟩

/-- Being wiped, of a value's place i: the texts' slice is as it was. -/
structure WpT (N : Nat) (S : Value → Prop) (w : World) (g i : Nat) (tp : Option Addr) (tn tc : Nat) (W : World) : Prop where
  wip : Wip N S W
  fr : Wfr N w W
  blk : ∃ cs, W.heap[g]? = some (.cells cs 107 (0, 0))
  ng : N ≤ g
  c0 : ∃ s, W.cell? ⟨g, i * 2, none⟩ = some (.string s)
  c1 : W.cell? ⟨g, i * 2 + 1, none⟩ = some (.slice tp tn tc)
  txt : RowE N W 9 1 (.slice tp tn tc) tn

theorem WpT.frz {N : Nat} {S : Value → Prop} {w : World} {g i : Nat} {tp : Option Addr} {tn tc : Nat} {W : World} (h : WpT N S w g i tp tn tc W) (j : Nat) : W.frozen? ⟨g, j, none⟩ = false := by
  obtain ⟨cs, h⟩ := h.blk
  exact Lib.frozen_of_heap h j
theorem WpT.text {N : Nat} {S : Value → Prop} {w : World} {g i : Nat} {tp : Option Addr} {tn tc : Nat} {W : World} (h : WpT N S w g i tp tn tc W) {gt : Nat} {cs : Array Value} (hg : W.heap[gt]? = some (.cells cs 9 (0, 0))) (hN : N ≤ gt) (j : Nat) (s : ByteArray) : WpT N S w g i tp tn tc (W.setCell ⟨gt, j, none⟩ (.string s)) := by
  obtain ⟨cg, hcg⟩ := h.blk
  have hne : g ≠ gt := fun e => by
    rw [e, hg] at hcg
    injection hcg with hcg
    injection hcg with _ hcg
    exact absurd hcg (by decide)
  have hb : ∀ t, (W.setCell ⟨gt, j, none⟩ (.string s)).cell? ⟨g, t, none⟩ = W.cell? ⟨g, t, none⟩ := fun t => by
    rw [World.cell?_setCell_other]
    intro e
    injection e with e1 _ _
    exact hne e1.symm
  refine ⟨⟨by simpa using h.wip.base, fun u hu => (h.wip.each u hu).other hg (by decide) j _⟩, h.fr.trans (Wfr.set hg (Or.inr rfl) hN j _), ⟨cg, (heap_setCell_other W _ g _ hne).trans hcg⟩, h.ng, ?_, by rw [hb]; exact h.c1, h.txt.set gt j _⟩
  obtain ⟨s0, h0⟩ := h.c0
  exact ⟨s0, by rw [hb]; exact h0⟩
theorem WpT.field {N : Nat} {S : Value → Prop} {w : World} {g i : Nat} {tp : Option Addr} {tn tc : Nat} {W : World} (h : WpT N S w g i tp tn tc W) (s : ByteArray) : Wip N S ((W.setCell ⟨g, i * 2, none⟩ (.string s)).setCell ⟨g, i * 2 + 1, none⟩ (.slice none 0 0)) ∧ Wfr N w ((W.setCell ⟨g, i * 2, none⟩ (.string s)).setCell ⟨g, i * 2 + 1, none⟩ (.slice none 0 0)) := by
  obtain ⟨cg, hcg⟩ := h.blk
  have h1 : (W.setCell ⟨g, i * 2, none⟩ (.string s)).heap[g]? = some (.cells (cg.setIfInBounds (i * 2) (.string s)) 107 (0, 0)) := heap_setCell_same W g (i * 2) _ _ _ hcg
  exact ⟨⟨by simpa using h.wip.base, fun u hu => ((h.wip.each u hu).name hcg i s).drop h1 i⟩, (h.fr.trans (Wfr.set hcg (Or.inl rfl) h.ng _ _)).trans (Wfr.set h1 (Or.inl rfl) h.ng _ _)⟩

set_option maxHeartbeats 1000000 in
set_option maxRecDepth 100000 in
theorem wipe14_any (N : Nat) (S : Value → Prop) (u : Value) (w : World) (h : Wip N S w) (hu : S u) :
    Calls Tryz.prog 26 #[u] w fun e w' => e = .returned (.tuple #[]) ∧ Wip N S w' ∧ Wfr N w w' := by
  obtain ⟨p, n, c, rfl, hn, _⟩ := h.each u hu
  unfold maxLen at hn
  have HU := hid hu
  have H0 : Hid (Wip N S w ∧ Wfr N w w) := ⟨h, Wfr.refl _ _⟩
  clear h hu
  go_enter Tryz.func26, Tryz.ntmps26
  go_wp2_with fail
  go_loopg [6] n (fun gg vi wr => ∃ i : Nat, vi = .int .i64 i ∧ i ≤ n ∧ n - i ≤ gg ∧ Hid (Wip N S wr ∧ Wfr N w wr))
  case atStart => exact ⟨0, rfl, by omega, by omega, H0.out⟩
  case round =>
    clear H0
    obtain ⟨i, rfl, hi, hgk, HI⟩ := hrel
    by_cases hlt : i < n
    · have hltz : (i : Int) < (n : Int) := by omega
      have hiz : (0 : Int) ≤ i := by omega
      obtain ⟨g, cs, s0, tp, tn, tc, rfl, hg, hNg, y0, y1, ⟨y2, y3⟩, htn, htx⟩ := FlE.form (HI.out.1.each _ HU.out) hlt
      have HJ0 : Hid (WpT N S w g i tp tn tc wr) := ⟨HI.out.1, HI.out.2, ⟨cs, hg⟩, hNg, ⟨s0, y0⟩, y1, htx⟩
      unfold maxLen at htn
      clear HI hg htx
      go_wp2_with fail
      clear y0 y1 y2 y3
      go_loopg [15] tn (fun gg vj wr2 => ∃ j : Nat, vj = .int .i64 j ∧ j ≤ tn ∧ tn - j ≤ gg ∧ Hid (WpT N S w g i tp tn tc wr2))
      case atStart => exact ⟨0, rfl, by omega, by omega, HJ0.out⟩
      case round =>
        clear HJ0
        obtain ⟨j, rfl, hj, hgj, HJ⟩ := hrel
        obtain ⟨s1, y0⟩ := HJ.out.c0
        have y1 := HJ.out.c1
        have y2 := HJ.out.frz (i * 2)
        have y3 := HJ.out.frz (i * 2 + 1)
        by_cases hlj : j < tn
        · have hljz : (j : Int) < (tn : Int) := by omega
          have hjz : (0 : Int) ≤ j := by omega
          obtain ⟨gt, ct, rfl, hgt, hNt, htc, htf⟩ := HJ.out.txt.form (by omega)
          obtain ⟨z0, t0⟩ := htc j (by omega)
          have t1 := htf j
          have HNX := hid (HJ.out.text hgt hNt j ⟨#[119, 105, 112, 101, 100]⟩)
          clear hgt htc htf HJ
          go_wp2_with fail
          go_roundg (tn - (j + 1))
          case measure => omega
          exact ⟨j + 1, by go_num, by omega, by omega, HNX.out⟩
        · have hljz : ¬ (j : Int) < (tn : Int) := by omega
          have HNX := hid (HJ.out.field ⟨#[119, 105, 112, 101, 100]⟩)
          clear HJ
          go_wp2_with fail
          go_roundg (n - (i + 1))
          case measure => omega
          exact ⟨i + 1, by go_num, by omega, by omega, HNX.out⟩
    · have hltz : ¬ (i : Int) < (n : Int) := by omega
      have HFR := hid HI.out
      clear HI
      go_wp2_with fail
      go_end0
      exact ⟨rfl, HFR.out.1, HFR.out.2⟩

end Go.Proofs.YticfpkodoghnnaaGreat

/-
  PastKeeps (stage 14): what was told, while it is being written over. No walk.
-/
namespace Go.Proofs.YticfpkodoghnnaaGreat
open Go.RowKit

/-- Finds lie there, whatever they hold; their values are of S. -/
def FdE (N : Nat) (S : Value → Prop) (w : World) (v : Value) : Prop := ∃ p n c, v = .slice p n c ∧ n ≤ 2400000000000 ∧ RowE N w 70 7 v n ∧ ∀ i, i < n → ∃ u, SlotAt w p (i * 7 + 6) u ∧ S u

theorem FdE.on {N : Nat} {S : Value → Prop} {w w' : World} {v : Value} (h : FdE N S w v) (hb : Below w.heap.size w w') : FdE N S w' v := by
  obtain ⟨p, n, c, rfl, h1, h2, h3⟩ := h
  refine ⟨p, n, c, rfl, h1, h2.on hb, fun i hi => ?_⟩
  obtain ⟨u, q1, q2⟩ := h3 i hi
  exact ⟨u, q1.on hb, q2⟩
/-- A cell set: where a find's value lies, by one of S. -/
theorem FdE.set {N : Nat} {S : Value → Prop} {w : World} {v : Value} (h : FdE N S w v) {a : Nat} {cs : Array Value} {T : TypeId} (ha : w.heap[a]? = some (.cells cs T (0, 0))) (t : Nat) (x : Value) (hx : t % 7 = 6 → S x) : FdE N S (w.setCell ⟨a, t, none⟩ x) v := by
  obtain ⟨p, n, c, rfl, h1, h2, h3⟩ := h
  refine ⟨p, n, c, rfl, h1, h2.set a t x, fun i hi => ?_⟩
  obtain ⟨u, q1, q2⟩ := h3 i hi
  by_cases e : p = some ⟨a, 0, none⟩ ∧ i * 7 + 6 = t
  · obtain ⟨e1, e2⟩ := e
    rw [← e2]
    exact ⟨x, slot_same q1 e1 ha x, hx (by omega)⟩
  · exact ⟨u, slot_set q1 a t x fun g hp q => e ⟨by rw [hp, q.1], q.2⟩, q2⟩
/-- Values written over leave the finds' own rows. -/
theorem FdE.wiped {N : Nat} {S : Value → Prop} {w w' : World} {v : Value} (h : FdE N S w v) (f : Wfr N w w') : FdE N S w' v := by
  obtain ⟨p, n, c, rfl, h1, ⟨xs, h2⟩, h3⟩ := h
  refine ⟨p, n, c, rfl, h1, ⟨xs, f.row h2 (by decide) (by decide)⟩, fun i hi => ?_⟩
  obtain ⟨u, ⟨g, hp, hc⟩, q2⟩ := h3 i hi
  obtain ⟨cs, hg⟩ := own_type h2 (k := g) (by rw [hp]; rfl)
  have hlt := (Array.getElem?_eq_some_iff.1 hg).1
  have e : w'.heap[g]? = w.heap[g]? := f.block g hlt fun ⟨_, cs', T, q3, q4⟩ => by
    rw [hg] at q3
    injection q3 with q3
    injection q3 with _ q3
    rw [← q3] at q4
    rcases q4 with q4 | q4
    · exact absurd q4 (by decide)
    · exact absurd q4 (by decide)
  refine ⟨u, ⟨g, hp, ?_⟩, q2⟩
  rw [Lib.cell_of_heap hg] at hc
  rw [Lib.cell_of_heap (e.trans hg)]
  exact hc
theorem FdE.form {N : Nat} {S : Value → Prop} {w : World} {p : Option Addr} {n c : Nat} (h : FdE N S w (.slice p n c)) {i : Nat} (hi : i < n) : ∃ g cs u, p = some ⟨g, 0, none⟩ ∧ w.heap[g]? = some (.cells cs 70 (0, 0)) ∧ N ≤ g ∧ w.cell? ⟨g, i * 7 + 6, none⟩ = some u ∧ S u ∧ (∀ t, t < n * 7 → ∃ z, w.cell? ⟨g, t, none⟩ = some z) ∧ ∀ t, w.frozen? ⟨g, t, none⟩ = false := by
  obtain ⟨p', n', c', e, _, h2, h3⟩ := h
  injection e with e1 e2 e3
  subst e1 e2 e3
  obtain ⟨g, cs, hp, hg, hN, hc, hf⟩ := h2.form (by omega)
  obtain ⟨u, ⟨g2, hp2, q1⟩, q2⟩ := h3 i hi
  rw [hp] at hp2
  injection hp2 with hp2
  injection hp2 with hp2 _ _
  subst hp2
  exact ⟨g, cs, u, hp, hg, hN, q1, q2, hc, hf⟩
/-- Finds told. -/
theorem FdE.of {N M : Nat} {S : Value → Prop} {w : World} {u : Value} {fs : List Fd} (h : KFd.Own M w u fs) (hl : fs.length ≤ 2400000000000) (hN : N ≤ M) (hs : ∀ f ∈ fs, S f.v.sl) : FdE N S w u := by
  obtain ⟨p, c, rfl⟩ := Kind.own_shape h
  have hE : RowE N w 70 7 (.slice p fs.length c) fs.length := ⟨_, own_weak h hN⟩
  refine ⟨p, fs.length, c, rfl, hl, hE, fun i hi => ?_⟩
  obtain ⟨g, cs, e1, _, _, _, _⟩ := hE.form (by omega)
  obtain ⟨p', c', e2, hx⟩ := Kind.own_is h
  injection e2 with e2 _ _
  subst e2
  rcases hx with hx | ⟨b, off, e2, hx⟩
  · rw [hx] at hi; simp at hi
  · rw [e1] at e2
    injection e2 with e2
    injection e2 with e2 e3 _
    subst e2 e3
    have q := (kfd_at hx i hi).2.2.2.2.2.2
    rw [Nat.zero_add] at q
    exact ⟨_, ⟨g, e1, q⟩, hs _ (List.getElem_mem hi)⟩

/-- All that was told, while it is being written over: only what is new has turned. -/
structure Kp14 (w3 : World) (S : Value → Prop) (hv : Value) (hs : List Vx) (lv sv : Value) (W : World) : Prop where
  bel : Below w3.heap.size w3 W
  wip : Wip w3.heap.size S W
  ver : KV.Own w3.heap.size W hv hs
  lf : FdE w3.heap.size S W lv
  sf : FdE w3.heap.size S W sv

theorem Kp14.on {w3 : World} {S : Value → Prop} {hv : Value} {hs : List Vx} {lv sv : Value} {W W' : World} (h : Kp14 w3 S hv hs lv sv W) (hb : Below W.heap.size W W') : Kp14 w3 S hv hs lv sv W' :=
  ⟨bel_then h.bel h.bel.size hb, ⟨Nat.le_trans h.wip.base hb.size, fun u hu => (h.wip.each u hu).on hb⟩, Kind.own_on h.ver hb, h.lf.on hb, h.sf.on hb⟩
theorem Kp14.wiped {w3 : World} {S : Value → Prop} {hv : Value} {hs : List Vx} {lv sv : Value} {W W' : World} (h : Kp14 w3 S hv hs lv sv W) (h1 : Wip w3.heap.size S W') (f : Wfr w3.heap.size W W') : Kp14 w3 S hv hs lv sv W' :=
  ⟨h.bel.trans (Fr.below f h.bel.size fun k hk => hk.1), h1, f.row h.ver (by decide) (by decide), h.lf.wiped f, h.sf.wiped f⟩
/-- A find's cells written over, one behind the other. -/
theorem Kp14.sets {w3 : World} {S : Value → Prop} {hv : Value} {hs : List Vx} {lv sv : Value} {a o : Nat} (hN : w3.heap.size ≤ a) : ∀ (k : Nat) (us : List Value) (W : World) (cs : Array Value), Kp14 w3 S hv hs lv sv W → W.heap[a]? = some (.cells cs 70 (0, 0)) → (∀ j x, us[j]? = some x → (o + k + j) % 7 = 6 → S x) → Kp14 w3 S hv hs lv sv (setFrom W a o k us) ∧ ∀ b, b ≠ a → (setFrom W a o k us).heap[b]? = W.heap[b]?
  | _, [], _, _, h, _, _ => ⟨h, fun _ _ => rfl⟩
  | k, u :: r, W, cs, h, ha, hx => by
    unfold setFrom
    have h0 := hx 0 u rfl
    rw [Nat.add_zero] at h0
    have h1 : Kp14 w3 S hv hs lv sv (W.setCell ⟨a, o + k, none⟩ u) := by
      refine ⟨h.bel.setCell hN _, ⟨by simpa using h.wip.base, fun v hv => (h.wip.each v hv).other ha (by decide) _ _⟩, ?_, h.lf.set ha _ _ h0, h.sf.set ha _ _ h0⟩
      exact (Fr.of_grown (P := fun b => b = a) (grown_set W a (o + k) u) fun k hk => by injection hk with hk; exact hk.symm).row h.ver fun b hb e => by
        obtain ⟨cs', hb'⟩ := own_type h.ver hb
        rw [show b = a from e, ha] at hb'
        injection hb' with hb'
        injection hb' with _ hb'
        exact absurd hb' (by decide)
    obtain ⟨q1, q2⟩ := Kp14.sets (o := o) hN (k + 1) r _ _ h1 (heap_setCell_same W a (o + k) _ _ _ ha) fun j x hj hm => hx (j + 1) x (by simpa using hj) (by rw [← hm]; congr 1; omega)
    exact ⟨q1, fun b hb => (q2 b hb).trans (heap_setCell_other W _ b _ hb)⟩
theorem Kp14.clear {w3 : World} {S : Value → Prop} {hv : Value} {hs : List Vx} {lv sv : Value} {W : World} (h : Kp14 w3 S hv hs lv sv W) (hS : S (.slice none 0 0)) {a : Nat} (hN : w3.heap.size ≤ a) {cs : Array Value} (ha : W.heap[a]? = some (.cells cs 70 (0, 0))) (i : Nat) :
    Kp14 w3 S hv hs lv sv (setFrom W a (i * 7) 0 [.string ⟨#[]⟩, .string ⟨#[]⟩, .int .i64 0, .int .u64 0, .int .i64 0, .bool false, .slice none 0 0]) ∧ ∀ b, b ≠ a → (setFrom W a (i * 7) 0 [.string ⟨#[]⟩, .string ⟨#[]⟩, .int .i64 0, .int .u64 0, .int .i64 0, .bool false, .slice none 0 0]).heap[b]? = W.heap[b]? := by
  refine Kp14.sets hN 0 _ W cs h ha fun j x hj hm => ?_
  have hlt := (List.getElem?_eq_some_iff.1 hj).1
  simp only [List.length_cons, List.length_nil] at hlt
  have hj6 : j = 6 := by omega
  subst hj6
  injection hj with hj
  rw [← hj]
  exact hS

end Go.Proofs.YticfpkodoghnnaaGreat

/-
  What foliolaw14's 'fixed' answers (stage 14).
-/
namespace Go.Proofs.YticfpkodoghnnaaGreat
open Go.RowKit

/-- What fixed answers. -/
def Fixed14 : Prop := ∀ W : World, Calls Tryz.prog 8 #[] W fun e w' => e = .returned (.bool true) ∧ Below W.heap.size W w'

end Go.Proofs.YticfpkodoghnnaaGreat

/-
  A merge of two rows of finds (stage 14; the document's directory, Log). No program.
-/
namespace Go.Proofs.YticfpkodoghnnaaGreat
open Go.RowKit

/-- Those of one stamp stand as they should. -/
def EqF (x y : Fd) : Prop := x.v.stamp = y.v.stamp → ltFd y.fnd x.fnd = false
/-- One comes ahead of another. -/
def AhF (x y : Fd) : Prop := x.v.stamp ≤ y.v.stamp ∧ EqF x y

theorem ahF_lt {x y : Fd} (h : AhF x y) : ltFd y.fnd x.fnd = false := by
  by_cases e : x.v.stamp = y.v.stamp
  · exact h.2 e
  · unfold ltFd
    have h1 : ¬ y.fnd.2.stamp < x.fnd.2.stamp := by
      show ¬ y.v.stamp < x.v.stamp
      have := h.1
      omega
    have h2 : ¬ y.fnd.2.stamp = x.fnd.2.stamp := fun q => e (Eq.symm q)
    rw [decide_eq_false h1, decide_eq_false h2]
    rfl

theorem ahF_sort {l : List Fd} (h : l.Pairwise AhF) : SortN (l.map Fd.fnd) := by
  unfold SortN
  rw [List.pairwise_map]
  exact h.imp fun q => ahF_lt q

/-- i of a and j of b are merged. -/
structure MgSt (a b : List Fd) (i j : Nat) (r : List Fd) : Prop where
  perm : r.Perm (a.take i ++ b.take j)
  srt : r.Pairwise AhF
  low : ∀ x ∈ r, ∀ y, (y ∈ a.drop i ∨ y ∈ b.drop j) → AhF x y

theorem mg_start (a b : List Fd) : MgSt a b 0 0 [] := ⟨by simp, List.Pairwise.nil, fun x hx => by cases hx⟩

theorem pw_drop {l : List Fd} (h : l.Pairwise AhF) (i : Nat) (hi : i < l.length) : ∀ y ∈ l.drop (i + 1), AhF l[i] y := by
  have h1 : (l.drop i).Pairwise AhF := h.sublist (List.drop_sublist _ _)
  rw [List.drop_eq_getElem_cons hi] at h1
  exact (List.pairwise_cons.1 h1).1

theorem mg_left {a b : List Fd} {i j : Nat} {r : List Fd} (ha : a.Pairwise AhF) (hb : b.Pairwise AhF) (hc : ∀ x ∈ a, ∀ y ∈ b, EqF x y) (h : MgSt a b i j r) (hi : i < a.length) (hle : (hj : j < b.length) → (a[i]).v.stamp ≤ (b[j]).v.stamp) : MgSt a b (i + 1) j (r ++ [a[i]]) := by
  have hx : ∀ y, (y ∈ a.drop (i + 1) ∨ y ∈ b.drop j) → AhF a[i] y := by
    rintro y (hy | hy)
    · exact pw_drop ha i hi y hy
    · have hym : y ∈ b := (List.drop_sublist _ _).subset hy
      have hj : j < b.length := by
        have := List.length_pos_of_mem hy
        rw [List.length_drop] at this
        omega
      refine ⟨?_, hc _ (List.getElem_mem hi) _ hym⟩
      rw [List.drop_eq_getElem_cons hj] at hy
      rcases List.mem_cons.1 hy with e | e
      · rw [e]; exact hle hj
      · have q := (pw_drop hb j hj y e).1
        have := hle hj
        omega
  refine ⟨?_, ?_, ?_⟩
  · rw [List.take_succ_eq_append_getElem hi, List.append_assoc]
    refine (List.Perm.append_right _ h.perm).trans ?_
    rw [List.append_assoc]
    exact List.Perm.append_left _ List.perm_append_comm
  · rw [List.pairwise_append]
    exact ⟨h.srt, List.pairwise_singleton _ _, fun x hx y hy => by
      rw [List.mem_singleton.1 hy]
      exact h.low x hx _ (Or.inl (by rw [List.drop_eq_getElem_cons hi]; exact List.mem_cons_self))⟩
  · intro x hxr y hy
    rcases List.mem_append.1 hxr with q | q
    · exact h.low x q y (hy.imp (fun z => by rw [List.drop_eq_getElem_cons hi]; exact List.mem_cons_of_mem _ z) id)
    · rw [List.mem_singleton.1 q]; exact hx y hy

theorem mg_right {a b : List Fd} {i j : Nat} {r : List Fd} (ha : a.Pairwise AhF) (hb : b.Pairwise AhF) (h : MgSt a b i j r) (hj : j < b.length) (hgt : (hi : i < a.length) → (b[j]).v.stamp < (a[i]).v.stamp) : MgSt a b i (j + 1) (r ++ [b[j]]) := by
  have hx : ∀ y, (y ∈ a.drop i ∨ y ∈ b.drop (j + 1)) → AhF b[j] y := by
    rintro y (hy | hy)
    · have hi : i < a.length := by
        have := List.length_pos_of_mem hy
        rw [List.length_drop] at this
        omega
      have hlt : (b[j]).v.stamp < y.v.stamp := by
        rw [List.drop_eq_getElem_cons hi] at hy
        rcases List.mem_cons.1 hy with e | e
        · rw [e]; exact hgt hi
        · have q := (pw_drop ha i hi y e).1
          have := hgt hi
          omega
      exact ⟨by omega, fun e => by omega⟩
    · exact pw_drop hb j hj y hy
  refine ⟨?_, ?_, ?_⟩
  · rw [List.take_succ_eq_append_getElem hj, ← List.append_assoc]
    exact List.Perm.append_right _ h.perm
  · rw [List.pairwise_append]
    exact ⟨h.srt, List.pairwise_singleton _ _, fun x hx y hy => by
      rw [List.mem_singleton.1 hy]
      exact h.low x hx _ (Or.inr (by rw [List.drop_eq_getElem_cons hj]; exact List.mem_cons_self))⟩
  · intro x hxr y hy
    rcases List.mem_append.1 hxr with q | q
    · exact h.low x q y (hy.imp id (fun z => by rw [List.drop_eq_getElem_cons hj]; exact List.mem_cons_of_mem _ z))
    · rw [List.mem_singleton.1 q]; exact hx y hy

theorem mg_len {a b : List Fd} {i j : Nat} {r : List Fd} (h : MgSt a b i j r) : r.length ≤ i + j := by
  have := h.perm.length_eq
  rw [List.length_append, List.length_take, List.length_take] at this
  omega

theorem mg_end {a b : List Fd} {i j : Nat} {r : List Fd} (h : MgSt a b i j r) (hi : a.length ≤ i) (hj : b.length ≤ j) : r.Perm (a ++ b) := by
  have := h.perm
  rwa [List.take_of_length_le hi, List.take_of_length_le hj] at this

theorem kfd_drop {w : World} {b off : Nat} {d : List Fd} (m : Nat) (h : KFd.At w b off d) : KFd.At w b (off + m * 7) (d.drop m) := fun i hi j u hu => by
  rw [List.length_drop] at hi
  rw [List.getElem_drop] at hu
  have := h (m + i) (by omega) j u hu
  have e : off + (m + i) * KFd.k + j = off + m * 7 + i * KFd.k + j := by rw [Nat.add_mul]; show off + (m * 7 + i * 7) + j = _; show _ = off + m * 7 + i * 7 + j; omega
  rwa [e] at this

theorem kfd_take {w : World} {b off : Nat} {d : List Fd} (m : Nat) (h : KFd.At w b off d) : KFd.At w b off (d.take m) := fun i hi j u hu => by
  rw [List.length_take] at hi
  rw [List.getElem_take] at hu
  exact h i (by omega) j u hu

theorem half_all (n c : Nat) (h : ¬ n < 2) (hc : n ≤ c) : ∃ k : Nat, k < n ∧ 0 < k ∧ ¬ (n : Int) < 2 ∧ (n : Int) / 2 = (k : Int) ∧ (0 : Int) ≤ (k : Int) ∧ (k : Int) ≤ (n : Int) ∧ (k : Int) ≤ (c : Int) ∧ (n : Int) ≤ (c : Int) ∧ ¬ c = k := ⟨n / 2, by omega, by omega, by omega, by omega, by omega, by omega, by omega, by omega, by omega⟩

end Go.Proofs.YticfpkodoghnnaaGreat

/-
  'l = append(l, x)' up to what a machine holds, by Go's own rule of growing. No program.
-/
namespace Go.Proofs.YticfpkodoghnnaaGreat
open Go.RowKit

section
variable {P : Program} {α : Type} {w : World} {o : Oper} {a : Act} {Q : Exit → Act → World → Prop}
/-- At the operation. -/
theorem wp_push_wide {Kx : Act → World → Prop} (K : Kind α) (s x : Operand) (t : TypeId) (ho : o.op = .call { callee := .builtin .append, args := #[s, x], argTypes := #[t, t] })
    (i : TypeInfo) (z : Value) (bytes : Nat) (ht : P.underlying t = some (.slice K.T)) (hi : P.info? K.T = some i) (hz : i.zero = some z) (hsize : i.size = K.k) (hby : i.bytes = bytes) (hzs : z.cells.size = K.k)
    (N : Nat) (W : World) (v : Value) (l : List α) (hs : a.eval s = v) (hst : RowSt K N W v l w) (y : α) (B m c : Nat) (hm : m = 1) (hx : a.eval x = .slice (some ⟨B, 0, none⟩) m c) (te : TypeId) (fz : Nat × Nat) (hB : w.heap[B]? = some (.cells (K.enc y).toArray te fz))
    (hlen : l.length + 1 ≤ maxLen) (hbytes : ((l.length + 1) + (l.length + 1) / 4 + 192) * bytes ≤ 281474976710656)
    (h : ∀ g cap w', RowSt K N W (.slice (some ⟨g, 0, none⟩) (l.length + 1) cap) (l ++ [y]) w' → w.grownBy w' v.ownBlock → Kx (a.put o.dst (.slice (some ⟨g, 0, none⟩) (l.length + 1) cap)) w') :
    Oper.wp P o a w Kx Q := by
  subst hm
  refine wp_append_own_wide w s x t ho N K.T i z K.k bytes ht hi hz hsize hby hzs K.pos v l.length (K.cells l) hs hst.own ⟨B, 0, none⟩ 1 c (K.cells [y]) hx ?_ (news_box K hB) (K.cells_ones _) hlen hbytes hst.base ?_
  · rw [K.cells_len]; rfl
  · intro v' w' h1 h2 _
    obtain ⟨g, cap, rfl, _, _⟩ := h1.form (by omega)
    exact h g cap w' (hst.push h1 h2) h2
/-- At a plain region's list. -/
theorem wpList_push_wide {ops : Array Oper} {rest : List Oper} (K : Kind α) (hgd : o.guard = none) (s x : Operand) (t : TypeId) (ho : o.op = .call { callee := .builtin .append, args := #[s, x], argTypes := #[t, t] })
    (i : TypeInfo) (z : Value) (bytes : Nat) (ht : P.underlying t = some (.slice K.T)) (hi : P.info? K.T = some i) (hz : i.zero = some z) (hsize : i.size = K.k) (hby : i.bytes = bytes) (hzs : z.cells.size = K.k)
    (N : Nat) (W : World) (v : Value) (l : List α) (hs : a.eval s = v) (hst : RowSt K N W v l w) (y : α) (B m c : Nat) (hm : m = 1) (hx : a.eval x = .slice (some ⟨B, 0, none⟩) m c) (te : TypeId) (fz : Nat × Nat) (hB : w.heap[B]? = some (.cells (K.enc y).toArray te fz))
    (hlen : l.length + 1 ≤ maxLen) (hbytes : ((l.length + 1) + (l.length + 1) / 4 + 192) * bytes ≤ 281474976710656)
    (h : ∀ g cap w', RowSt K N W (.slice (some ⟨g, 0, none⟩) (l.length + 1) cap) (l ++ [y]) w' → w.grownBy w' v.ownBlock → wpList P ops Q rest (a.put o.dst (.slice (some ⟨g, 0, none⟩) (l.length + 1) cap)) w') : wpList P ops Q (o :: rest) a w :=
  wpList_plain hgd fun _ hK => wp_push_wide K s x t ho i z bytes ht hi hz hsize hby hzs N W v l hs hst y B m c hm hx te fz hB hlen hbytes fun g cap w' h1 h2 => hK _ _ (h g cap w' h1 h2)
end

end Go.Proofs.YticfpkodoghnnaaGreat

/-
  The document's directory (stage 14; folioref07.Dir): Walk of a type, Scan; folioref14.Find.
-/
namespace Go.Proofs.YticfpkodoghnnaaGreat
open Go.RowKit

theorem scan_snoc (D : List RowD) (r : RowD) (typ : ByteArray) (t : Int) (P : List Fld → Bool) : scanD (D ++ [r]) typ t P = scanD D typ t P ++ (match atV r.2 t with | some v => if (v.live && (decide (r.1.1 = typ) && P v.val)) = true then [(r.1, v)] else [] | none => []) := by
  unfold scanD walkD
  rw [List.filterMap_append, List.filter_append]
  congr 1
  rw [List.filterMap_cons, List.filterMap_nil]
  unfold liveAt
  cases atV r.2 t with
  | none => rfl
  | some v =>
    cases hv : v.live with
    | false => simp [hv]
    | true =>
      simp only [Option.bind_some, hv, if_true, Bool.true_and]
      cases hc : (decide (r.1.1 = typ) && P v.val) <;> simp [hc]

theorem row_offV {N : Nat} {W w : World} {v : Value} {L : List Fd} {X : Nat} {cs : Array Value} {fz : Nat × Nat} (h : RowSt KFd N W v L w) (hx : w.heap[X]? = some (.cells cs 39 fz)) : v.ownBlock ≠ some X := fun e => by
  obtain ⟨cs', q⟩ := own_type (show w.ownsRow N 70 KFd.k v L.length (KFd.cells L) from h.own) e
  rw [q] at hx
  injection hx with hx
  injection hx with _ hx
  exact absurd hx (by decide)

set_option linter.unusedSimpArgs false in
set_option maxHeartbeats 16000000 in
set_option maxRecDepth 100000 in
theorem rwalk_any {n0 : Nat} {W : World} {h : Nat} {R : List Rr} {vs : Value} (x : RefD n0 W h R vs) (hl : R.length ≤ 1760000000000) (typ : ByteArray) (t : Int) (pa : Option Addr) (pc : Nat) (pt : List Tm) (hp : KM.Is W (.slice pa pt.length pc) pt) (hpf : FitM pt) :
    Calls Tryz.prog 66 #[.pointer (some ⟨h, 0, none⟩), .string typ, .bool false, .int .u64 t, .slice pa pt.length pc] W fun e w' => ∃ p c fs, e = .returned (.slice p fs.length c) ∧ KFd.Is w' (.slice p fs.length c) fs ∧ (∀ f ∈ fs, f.v.at w' ∧ FitX f.v.o) ∧ fs.map Fd.fnd = scanD (R.map Rr.row) typ t (matchM pt) ∧ fs.length ≤ 2400000000000 ∧ Below W.heap.size W w' := by
  obtain ⟨i0, hi0, hz0, hz1, hz2⟩ := info_parts Tryz.infoFd
  have HI0 := hid hi0
  clear hi0
  obtain ⟨p, cap, hvs⟩ := Kind.own_shape x.row
  rw [List.length_map] at hvs
  subst hvs
  have HBX : Hid (∀ W', Below W.heap.size W W' → W'.cell? ⟨h, 0, none⟩ = some (.slice p R.length cap) ∧ (∀ i (hi : i < R.length), ∃ b off, p = some ⟨b, off, none⟩ ∧ W'.cell? ⟨b, off + i * 3, none⟩ = some (.string (R[i]).a) ∧ W'.cell? ⟨b, off + i * 3 + 1, none⟩ = some (.string (R[i]).b) ∧ W'.cell? ⟨b, off + i * 3 + 2, none⟩ = some (.pointer (some ⟨(R[i]).g, 0, none⟩)) ∧ b < W.heap.size)) := fun W' hW => by
    have hx := x.on hW
    refine ⟨hx.cell, fun i hi => ?_⟩
    obtain ⟨p', c', he, hd⟩ := Kind.own_is hx.row
    injection he with e2 _ _
    rcases hd with hd | ⟨b, off, e3, hat⟩
    · have : R.length = 0 := by simpa using congrArg List.length hd
      omega
    · obtain ⟨q0, q1, q2⟩ := krw_at hat i (by simpa using hi)
      rw [List.getElem_map] at q0 q1 q2
      refine ⟨b, off, e2.trans e3, q0, q1, q2, ?_⟩
      have hs := x.row
      have hpb : (Value.slice p R.length cap).ownBlock = some b ∨ True := Or.inr trivial
      rcases (show W.ownsRow n0 KRw.T KRw.k (.slice p R.length cap) (R.map Rr.rw).length (KRw.cells (R.map Rr.rw)) from hs).2 with ⟨_, h0⟩ | ⟨g', c'', cur, hv, _, hg, _⟩
      · rw [List.length_map] at h0; omega
      · injection hv with hv1 _ _
        have e4 : (some ⟨b, off, none⟩ : Option Addr) = some ⟨g', 0, none⟩ := (e2.trans e3).symm.trans hv1
        injection e4 with e4
        injection e4 with e4 _ _
        rw [e4]
        exact (Array.getElem?_eq_some_iff.1 hg).1
  have HAT : Hid (∀ W', Below W.heap.size W W' → ∀ i (hi : i < R.length), Calls Tryz.prog 34 #[.pointer (some ⟨(R[i]).g, 0, none⟩), .int .u64 t] W' fun e w' => ∃ x b, e = .returned (.tuple #[.agg (encVx x).toArray, .bool b]) ∧ b = (atV (R[i]).row.2 t).isSome ∧ x.ver = (atV (R[i]).row.2 t).getD zeroV ∧ (x.at W ∧ FitX x.o) ∧ Below W'.heap.size W' w') := fun W' hW i hi => by
    obtain ⟨q1, _⟩ := (x.on hW).each _ (List.getElem_mem hi)
    obtain ⟨q2, _⟩ := x.each _ (List.getElem_mem hi)
    refine (rat_any _ _ _ _ t W' q1.ref q1.prg.ok.rise).mono ?_
    rintro e w' ⟨⟨y, b, he, hax⟩, hb⟩
    obtain ⟨r1, r2, r3⟩ := ansX_is hax
    rw [List.map_drop] at r1 r2
    exact ⟨y, b, he, r1, r2, rcx_rd q2 r3, hb⟩
  have HPM : Hid (∀ W', Below W.heap.size W W' → KM.Is W' (.slice pa pt.length pc) pt) := fun W' hW => Kind.is_kept hp hW
  have hhl : h < W.heap.size := (Array.getElem?_eq_some_iff.1 x.obj).1
  clear x hp
  go_enter Tryz.func66, Tryz.ntmps66
  go_wp2_with fail
  go_loopg [11, 12] R.length (fun gg v11 v12 wr => ∃ (i : Nat) (L : List Fd) (lp : Option Addr) (lc : Nat), v11 = .slice lp L.length lc ∧ v12 = .int .i64 i ∧ i ≤ R.length ∧ R.length - i ≤ gg ∧ L.length ≤ i ∧ Hid (RowSt KFd W.heap.size W (.slice lp L.length lc) L wr ∧ (∀ f ∈ L, f.v.at W ∧ FitX f.v.o) ∧ L.map Fd.fnd = scanD ((R.take i).map Rr.row) typ t (matchM pt)))
  case atStart => exact ⟨0, [], none, 0, rfl, rfl, by omega, by omega, by simp, RowSt.nil KFd (Below.refl _ _) (Nat.le_refl _), (fun f hf => by cases hf), by simp [scanD, walkD]⟩
  case round =>
    obtain ⟨i, L, lp, lc, rfl, rfl, hi, hgk, hLi, HS⟩ := hrel
    obtain ⟨c0, hat⟩ := HBX.out wr HS.out.1.bel
    by_cases hlt : i < R.length
    · obtain ⟨hltz, hiz⟩ := lt_num i R.length hlt
      obtain ⟨b1, o1, rfl, y0, y1, y2, hb1l⟩ := hat i hlt
      have HC := hid (HAT.out wr HS.out.1.bel i hlt)
      have HRC : Hid (∀ W', Below W.heap.size W W' → W'.cell? ⟨h, 0, none⟩ = some (.slice (some ⟨b1, o1, none⟩) R.length cap) ∧ W'.cell? ⟨b1, o1 + i * 3, none⟩ = some (.string (R[i]).a) ∧ W'.cell? ⟨b1, o1 + i * 3 + 1, none⟩ = some (.string (R[i]).b)) := fun W' hW => by
        obtain ⟨q0, q1⟩ := HBX.out W' hW
        obtain ⟨b', off', e, z4, z5, _, _⟩ := q1 i hlt
        injection e with e
        injection e with e1 e2 _
        subst e1 e2
        exact ⟨q0, z4, z5⟩
      have HSN : Hid (scanD ((R.take (i + 1)).map Rr.row) typ t (matchM pt) = L.map Fd.fnd ++ (match atV (R[i]).row.2 t with | some v => if (v.live && (decide ((R[i]).a = typ) && matchM pt v.val)) = true then [(((R[i]).a, (R[i]).b), v)] else [] | none => [])) := by
        show _ = _
        rw [List.take_succ_eq_append_getElem hlt, List.map_append, List.map_cons, List.map_nil, scan_snoc, HS.out.2.2]
        rfl
      generalize atV (R[i]).row.2 t = o at *
      generalize (R[i]).a = ra at *
      generalize (R[i]).b = rb at *
      generalize (R[i]).g = rg at *
      clear hat
      go_wp2_with fail
      clear c0 y0 y1 y2
      refine HC.out.mono ?_
      rintro e w2 ⟨x, b, rfl, hbo, hxv, hxr, hb2⟩
      obtain ⟨X, hX⟩ : ∃ X, w2.heap.size = X := ⟨_, rfl⟩
      obtain ⟨W3, hW3⟩ : ∃ W3, w2.alloc (.cells (encVx x).toArray 39) = W3 := ⟨_, rfl⟩
      have hal : Below w2.heap.size w2 W3 := by rw [← hW3]; exact (Below.refl _ _).alloc (Nat.le_refl _) _
      have hxb : W3.heap[X]? = some (.cells (encVx x).toArray 39 (0, 0)) := by rw [← hW3, ← hX]; exact heap_alloc_new w2 _
      have hb3 : Below wr.heap.size wr W3 := bel_then hb2 hb2.size hal
      have HB3 : Hid (Below W.heap.size W W3) := bel_then HS.out.1.bel HS.out.1.bel.size hb3
      have HS3 : Hid (RowSt KFd W.heap.size W (.slice lp L.length lc) L W3 ∧ ∀ f ∈ L, f.v.at W ∧ FitX f.v.o) := ⟨HS.out.1.on hb3, HS.out.2.1⟩
      have HXR := hid hxr
      have HXV := hid hxv
      obtain ⟨c0, y0, y1⟩ := HRC.out W3 HB3.out
      clear hxr hxv hb2 hal hb3 HC HS
      /- where nothing is appended -/
      have HSK : Hid (∀ w', Below W3.heap.size W3 w' → scanD ((R.take (i + 1)).map Rr.row) typ t (matchM pt) = L.map Fd.fnd → RowSt KFd W.heap.size W (.slice lp L.length lc) L w' ∧ (∀ f ∈ L, f.v.at W ∧ FitX f.v.o) ∧ L.map Fd.fnd = scanD ((R.take (i + 1)).map Rr.row) typ t (matchM pt)) := fun w' hw e => ⟨HS3.out.1.on hw, HS3.out.2, e.symm⟩
      obtain ⟨xn, xs, xt, xl, xp, xc, xo⟩ := x
      cases o with
      | none =>
        obtain rfl : b = false := hbo
        simp only [encVx, Vx.sl] at *
        have HF := hid (HSK.out W3 (Below.refl _ _) (by rw [HSN.out]; exact List.append_nil _))
        clear hxb c0 y0 y1 HSN HXV HXR
        go_upto_region 6 with fail
        try rw [hX]
        try rw [hW3]
        clear hX hW3
        go_wp2_with fail
        go_roundg (R.length - (i + 1))
        case measure => omega
        exact ⟨i + 1, L, lp, lc, rfl, by go_num, by omega, by omega, by omega, HF.out⟩
      | some v0 =>
        obtain rfl : b = true := hbo
        obtain rfl : (⟨xn, xs, xt, xl, xp, xc, xo⟩ : Vx).ver = v0 := HXV.out
        have HSN2 : Hid (scanD ((R.take (i + 1)).map Rr.row) typ t (matchM pt) = L.map Fd.fnd ++ if (xl && (decide (ra = typ) && matchM pt (xo.map Fx.fld))) = true then [Fd.fnd ⟨ra, rb, ⟨xn, xs, xt, xl, xp, xc, xo⟩⟩] else []) := HSN.out
        clear HSN HXV
        simp only [encVx, Vx.sl] at hW3 hxb ⊢
        have d0 : W3.cell? ⟨X, 0, none⟩ = some (.int .i64 xn) := by rw [Lib.cell_of_heap hxb]; rfl
        have d1 : W3.cell? ⟨X, 1, none⟩ = some (.int .u64 xs) := by rw [Lib.cell_of_heap hxb]; rfl
        have d2 : W3.cell? ⟨X, 2, none⟩ = some (.int .i64 xt) := by rw [Lib.cell_of_heap hxb]; rfl
        have d3 : W3.cell? ⟨X, 3, none⟩ = some (.bool xl) := by rw [Lib.cell_of_heap hxb]; rfl
        have d4 : W3.cell? ⟨X, 4, none⟩ = some (.slice xp xo.length xc) := by rw [Lib.cell_of_heap hxb]; rfl
        have HXB := hid hxb
        clear hxb
        go_upto_region 6 with fail
        try rw [hX]
        try rw [hW3]
        clear hX hW3
        cases xl with
        | false =>
          have HF := hid (HSK.out W3 (Below.refl _ _) (by rw [HSN2.out]; exact List.append_nil _))
          clear HSN2 HXR HXB
          go_wp2_with fail
          go_roundg (R.length - (i + 1))
          case measure => omega
          exact ⟨i + 1, L, lp, lc, rfl, by go_num, by omega, by omega, by omega, HF.out⟩
        | true =>
          by_cases hra : ra = typ
          · have hsq := seq_true hra
            have HRA : Hid (decide (ra = typ) = true) := decide_eq_true hra
            rw [HRA.out] at HSN2
            obtain ⟨BM, hBM⟩ : ∃ BM, matchM pt (xo.map Fx.fld) = BM := ⟨_, rfl⟩
            have HM : Hid (Calls Tryz.prog 93 #[.slice pa pt.length pc, .slice xp xo.length xc] W3 fun e w' => e = .returned (.bool BM) ∧ Grown W3 w') := by
              rw [← hBM]
              exact rmatch_any _ _ pt xo W3 (HPM.out W3 HB3.out) hpf (HXR.out.1.kept HB3.out) HXR.out.2
            rw [hBM] at HSN2
            have HBM := hid hBM
            clear hBM hra HRA
            go_wp2_with fail
            refine HM.out.mono ?_
            rintro e w4 ⟨rfl, hg4⟩
            have HB4 := hid (Grown.below hg4)
            clear hg4 HM c0 y0 y1 d0 d1 d2 d3 d4
            cases BM with
            | false =>
              have HF := hid (HSK.out w4 HB4.out (by rw [HSN2.out]; exact List.append_nil _))
              clear HSN2 HXR HXB
              go_wp2_with fail
              go_roundg (R.length - (i + 1))
              case measure => omega
              exact ⟨i + 1, L, lp, lc, rfl, by go_num, by omega, by omega, by omega, HF.out⟩
            | true =>
              have HB4W : Hid (Below W.heap.size W w4) := bel_then HB3.out HB3.out.size HB4.out
              have HXB4 : Hid (∀ W', Below w4.heap.size w4 W' → W'.heap[X]? = some (.cells #[.int .i64 xn, .int .u64 xs, .int .i64 xt, .bool true, .slice xp xo.length xc] 39 (0, 0))) := fun W' hW => by
                have q := bel_then HB4.out HB4.out.size hW
                exact (q.block X (Array.getElem?_eq_some_iff.1 HXB.out).1).trans HXB.out
              have HSS : Hid (∀ W', Below W.heap.size W W' → W'.heap[X]? = some (.cells #[.int .i64 xn, .int .u64 xs, .int .i64 xt, .bool true, .slice xp xo.length xc] 39 (0, 0)) → (W'.cell? ⟨h, 0, none⟩ = some (.slice (some ⟨b1, o1, none⟩) R.length cap) ∧ W'.cell? ⟨b1, o1 + i * 3, none⟩ = some (.string ra) ∧ W'.cell? ⟨b1, o1 + i * 3 + 1, none⟩ = some (.string rb)) ∧ W'.cell? ⟨X, 0, none⟩ = some (.int .i64 xn) ∧ W'.cell? ⟨X, 1, none⟩ = some (.int .u64 xs) ∧ W'.cell? ⟨X, 2, none⟩ = some (.int .i64 xt) ∧ W'.cell? ⟨X, 3, none⟩ = some (.bool true) ∧ W'.cell? ⟨X, 4, none⟩ = some (.slice xp xo.length xc)) := fun W' h1 h2 =>
                ⟨HRC.out W' h1, by rw [Lib.cell_of_heap h2]; rfl, by rw [Lib.cell_of_heap h2]; rfl, by rw [Lib.cell_of_heap h2]; rfl, by rw [Lib.cell_of_heap h2]; rfl, by rw [Lib.cell_of_heap h2]; rfl⟩
              have hS4 := HSS.out w4 HB4W.out (HXB4.out w4 (Below.refl _ _))
              obtain ⟨W5, hW5⟩ : ∃ W5, (w4.alloc (.cells #[.string ra, .string rb, .int .i64 xn, .int .u64 xs, .int .i64 xt, .bool true, .slice xp xo.length xc] 70)).drew = W5 := ⟨_, rfl⟩
              have hb5 : Below w4.heap.size w4 W5 := by rw [← hW5]; exact ((Below.refl _ w4).alloc (Nat.le_refl _) _).drew
              have HBX5 : Hid (W5.heap[w4.heap.size]? = some (.cells #[.string ra, .string rb, .int .i64 xn, .int .u64 xs, .int .i64 xt, .bool true, .slice xp xo.length xc] 70 (0, 0))) := by rw [← hW5]; exact heap_alloc_new w4 _
              have hS5 := HSS.out W5 (bel_then HB4W.out HB4W.out.size hb5) (HXB4.out W5 hb5)
              have HROW5 := hid (HS3.out.1.on (bel_then HB4.out HB4.out.size hb5))
              have HX5 := hid (HXB4.out W5 hb5)
              have HSN3 : Hid (scanD ((R.take (i + 1)).map Rr.row) typ t (matchM pt) = (L ++ [(⟨ra, rb, ⟨xn, xs, xt, true, xp, xc, xo⟩⟩ : Fd)]).map Fd.fnd) := by
                show _ = _
                rw [HSN2.out, List.map_append]
                rfl
              clear hb5 HSN2 HXB HSK HXB4
              go_upto_region 7 with fail
              refine wp_region_held_drew (S := fun w' => (w'.cell? ⟨h, 0, none⟩ = some (.slice (some ⟨b1, o1, none⟩) R.length cap) ∧ w'.cell? ⟨b1, o1 + i * 3, none⟩ = some (.string ra) ∧ w'.cell? ⟨b1, o1 + i * 3 + 1, none⟩ = some (.string rb)) ∧ w'.cell? ⟨X, 0, none⟩ = some (.int .i64 xn) ∧ w'.cell? ⟨X, 1, none⟩ = some (.int .u64 xs) ∧ w'.cell? ⟨X, 2, none⟩ = some (.int .i64 xt) ∧ w'.cell? ⟨X, 3, none⟩ = some (.bool true) ∧ w'.cell? ⟨X, 4, none⟩ = some (.slice xp xo.length xc)) (by kernel_rfl) hS4 (fun hHeld => ?_)
              refine take_val (i := 0) (.slice lp L.length lc) rfl (by kernel_rfl) (by kernel_rfl) (by kernel_rfl) (fun _ _ _ h => h) (by rfl) (fun w hSw => by go_simp) hHeld ?_
              simp only [Act.put, List.setIfInBounds_toArray, List.set_cons_zero, List.set_cons_succ]
              refine take_val (i := 1) (.pointer (some ⟨h, 0, none⟩)) rfl (by kernel_rfl) (by kernel_rfl) (by kernel_rfl) (fun _ _ _ h => h) (by rfl) (fun w hSw => by go_simp) hHeld ?_
              simp only [Act.put, List.setIfInBounds_toArray, List.set_cons_zero, List.set_cons_succ]
              refine take_val (i := 2) (.pointer (some ⟨h, 0, none⟩)) rfl (by kernel_rfl) (by kernel_rfl) (by kernel_rfl) (fun _ _ _ h => h) (by rfl) (fun w hSw => by go_simp) hHeld ?_
              simp only [Act.put, List.setIfInBounds_toArray, List.set_cons_zero, List.set_cons_succ]
              refine take_val (i := 3) (.pointer (some ⟨h, 0, none⟩)) rfl (by kernel_rfl) (by kernel_rfl) (by kernel_rfl) (fun _ _ _ h => h) (by rfl) (fun w hSw => by go_simp) hHeld ?_
              simp only [Act.put, List.setIfInBounds_toArray, List.set_cons_zero, List.set_cons_succ]
              refine take_val (i := 4) (.slice (some ⟨b1, o1, none⟩) R.length cap) rfl (by kernel_rfl) (by kernel_rfl) (by kernel_rfl) (fun _ _ _ h => h) (by rfl) (fun w hSw => by go_simp) hHeld ?_
              simp only [Act.put, List.setIfInBounds_toArray, List.set_cons_zero, List.set_cons_succ]
              refine take_val (i := 5) (.int .i64 i) rfl (by kernel_rfl) (by kernel_rfl) (by kernel_rfl) (fun _ _ _ h => h) (by rfl) (fun w hSw => by go_simp) hHeld ?_
              simp only [Act.put, List.setIfInBounds_toArray, List.set_cons_zero, List.set_cons_succ]
              refine take_val (i := 6) (.pointer (some ⟨b1, o1 + i * 3, none⟩)) rfl (by kernel_rfl) (by kernel_rfl) (by kernel_rfl) (fun _ _ _ h => h) (by rfl) (fun w hSw => by go_simp) hHeld ?_
              simp only [Act.put, List.setIfInBounds_toArray, List.set_cons_zero, List.set_cons_succ]
              refine take_val (i := 7) (.pointer (some ⟨b1, o1 + i * 3, none⟩)) rfl (by kernel_rfl) (by kernel_rfl) (by kernel_rfl) (fun _ _ _ h => h) (by rfl) (fun w hSw => by go_simp) hHeld ?_
              simp only [Act.put, List.setIfInBounds_toArray, List.set_cons_zero, List.set_cons_succ]
              refine take_val (i := 8) (.agg #[.string ra, .string rb]) rfl (by kernel_rfl) (by kernel_rfl) (by kernel_rfl) (fun _ _ _ h => h) (by rfl) (fun w hSw => by go_simp) hHeld ?_
              simp only [Act.put, List.setIfInBounds_toArray, List.set_cons_zero, List.set_cons_succ]
              refine take_val (i := 9) (.agg #[.int .i64 xn, .int .u64 xs, .int .i64 xt, .bool true, .slice xp xo.length xc]) rfl (by kernel_rfl) (by kernel_rfl) (by kernel_rfl) (fun _ _ _ h => h) (by rfl) (fun w hSw => by go_simp) hHeld ?_
              simp only [Act.put, List.setIfInBounds_toArray, List.set_cons_zero, List.set_cons_succ]
              refine take_val (i := 10) (.agg #[.string ra, .string rb, .int .i64 xn, .int .u64 xs, .int .i64 xt, .bool true, .slice xp xo.length xc]) rfl (by kernel_rfl) (by kernel_rfl) (by kernel_rfl) (fun _ _ _ h => h) (by rfl) (fun w hSw => by go_simp) hHeld ?_
              simp only [Act.put, List.setIfInBounds_toArray, List.set_cons_zero, List.set_cons_succ]
              clear hHeld
              refine wpAnyH_ready (rs := [11]) (by kernel_rfl) (by simp) ?_
              refine AllReadyH.cons (at_drop0 rfl) (fun K hK => ?_) AllReadyH.nil
              rw [if_pos (by rfl)]
              go_simp
              go_wp2_with fail
              subst hW5
              refine hK.out _ _ hS5 (fun hHeld => ?_)
              clear hK K
              try simp only [Act.put, List.setIfInBounds_toArray, List.set_cons_zero, List.set_cons_succ]
              refine wpAnyH_ready (rs := [12]) (by kernel_rfl) (by simp) ?_
              refine AllReadyH.cons (at_drop0 rfl) (fun K hK => ?_) AllReadyH.nil
              rw [if_pos (by rfl)]
              refine wp_push_wide KFd _ _ 46 rfl i0 _ 88 Tryz.underlying46 HI0.out hz0 hz1 hz2 rfl W.heap.size W (.slice lp L.length lc) L (by rfl) HROW5.out ⟨ra, rb, ⟨xn, xs, xt, true, xp, xc, xo⟩⟩ w4.heap.size 1 1 rfl (by rfl) 70 (0, 0) HBX5.out (by unfold maxLen; omega) (by omega) ?_
              intro g8 c8 w8 h1 h2
              have hS8 := HSS.out w8 h1.bel ((h2.block X (Array.getElem?_eq_some_iff.1 HX5.out).1 (Ne.symm (row_offV HROW5.out HX5.out))).trans HX5.out)
              have HS8 := hid h1
              clear h1 h2 hHeld
              refine hK.out _ _ hS8 (fun hHeld => ?_)
              clear hK K
              try simp only [Act.put, List.setIfInBounds_toArray, List.set_cons_zero, List.set_cons_succ]
              refine take_val (i := 13) (.slice (some ⟨g8, 0, none⟩) (L.length + 1) c8) rfl (by kernel_rfl) (by kernel_rfl) (by kernel_rfl) (fun _ _ _ h => h) (by rfl) (fun w hSw => by go_simp) hHeld ?_
              simp only [Act.put, List.setIfInBounds_toArray, List.set_cons_zero, List.set_cons_succ]
              refine wpAnyH_done (by kernel_rfl) ?_ _
              clear hHeld hS8
              go_wp2_with fail
              go_roundg (R.length - (i + 1))
              case measure => omega
              exact ⟨i + 1, L ++ [⟨ra, rb, ⟨xn, xs, xt, true, xp, xc, xo⟩⟩], some ⟨g8, 0, none⟩, c8, by rw [List.length_append]; rfl, by go_num, by omega, by omega, by rw [List.length_append, List.length_singleton]; omega, by rw [List.length_append]; exact HS8.out, (fun f hf => by
                rcases List.mem_append.1 hf with q | q
                · exact HS3.out.2 f q
                · rw [List.mem_singleton.1 q]; exact HXR.out), HSN3.out.symm⟩
          · have hsq := seq_false hra
            have HRA : Hid (decide (ra = typ) = false) := decide_eq_false hra
            rw [HRA.out] at HSN2
            have HF := hid (HSK.out W3 (Below.refl _ _) (by rw [HSN2.out]; exact List.append_nil _))
            clear HSN2 HXR HXB HRA hra
            go_wp2_with fail
            go_roundg (R.length - (i + 1))
            case measure => omega
            exact ⟨i + 1, L, lp, lc, rfl, by go_num, by omega, by omega, by omega, HF.out⟩
    · have hltz := ge_num i R.length hlt
      have hti : R.take i = R := List.take_of_length_le (by omega)
      rw [hti] at HS
      clear hat
      go_wp2_with fail
      go_ret
      exact ⟨lp, lc, L, rfl, Kind.own_is HS.out.1.own, fun f hf => vat_on (HS.out.2.1 f hf) HS.out.1.bel, HS.out.2.2, by omega, HS.out.1.bel⟩

end Go.Proofs.YticfpkodoghnnaaGreat

/-
  The document's directory (stage 14): sorted, a merge sort that calls itself. Written by mklu1.py.
-/
namespace Go.Proofs.YticfpkodoghnnaaGreat
open Go.RowKit

def SrtPost (W : World) (l : List Fd) (e : Ending) (w' : World) : Prop :=
  ∃ p c r, e = .returned (.slice p r.length c) ∧ KFd.Is w' (.slice p r.length c) r ∧ r.Perm l ∧ r.Pairwise AhF ∧ Below W.heap.size W w'

set_option linter.unusedSimpArgs false in
set_option maxHeartbeats 16000000 in
set_option maxRecDepth 100000 in
theorem rsorted_any : ∀ (n : Nat) (l : List Fd) (W : World) (p : Option Addr) (c : Nat), l.length ≤ n → l.length ≤ c → l.length ≤ 1760000000000 → (l = [] ∨ ∃ b off, p = some ⟨b, off, none⟩ ∧ KFd.At W b off l) → l.Pairwise EqF → Calls Tryz.prog 72 #[.slice p l.length c] W fun e w' => SrtPost W l e w' := by
  intro n
  induction n with
  | zero =>
    intro l W p c h0 hc hm hr hp
    obtain rfl := List.length_eq_zero_iff.1 (Nat.le_zero.1 h0)
    have HP := hid hp
    clear hr hp
    go_enter Tryz.func72, Tryz.ntmps72
    go_wp2_with fail
    go_ret
    exact ⟨p, c, [], rfl, ⟨_, _, rfl, Or.inl rfl⟩, List.Perm.refl _, List.Pairwise.nil, Below.refl _ _⟩
  | succ n ih =>
    intro l W p c h0 hc hm hr hp
    by_cases h2 : l.length < 2
    · have h2z : (l.length : Int) < 2 := by omega
      have HF : Hid (KFd.Is W (.slice p l.length c) l ∧ l.Pairwise AhF) := by
        refine ⟨⟨_, _, rfl, hr⟩, ?_⟩
        match l, h2 with
        | [], _ => exact List.Pairwise.nil
        | [x], _ => exact List.pairwise_singleton _ _
      clear hr hp ih
      go_enter Tryz.func72, Tryz.ntmps72
      go_wp2_with fail
      go_ret
      exact ⟨p, c, l, rfl, HF.out.1, List.Perm.refl _, HF.out.2, Below.refl _ _⟩
    · obtain ⟨k, hkn, hk0, h2z, hq, i1, i2, i3, i4, i5⟩ := half_all l.length c h2 hc
      obtain ⟨i0, hi0, hz0, hz1, hz2⟩ := info_parts Tryz.infoFd
      have HI0 := hid hi0
      clear hi0
      obtain ⟨b, off, rfl, hat⟩ : ∃ b off, p = some ⟨b, off, none⟩ ∧ KFd.At W b off l := by
        rcases hr with h | h
        · rw [h] at h2; simp at h2
        · exact h
      have HA : Hid (∀ W', Below W.heap.size W W' → Calls Tryz.prog 72 #[.slice (some ⟨b, off, none⟩) k c] W' fun e w' => SrtPost W' (l.take k) e w') := fun W' hW => by
        have q := ih (l.take k) W' (some ⟨b, off, none⟩) c (by rw [List.length_take]; omega) (by rw [List.length_take]; omega) (by rw [List.length_take]; omega) (Or.inr ⟨_, _, rfl, kfd_take k (Kind.at_kept hat hW)⟩) (hp.sublist (List.take_sublist _ _))
        rw [List.length_take, Nat.min_eq_left (by omega)] at q
        exact q
      have HB : Hid (∀ W', Below W.heap.size W W' → Calls Tryz.prog 72 #[.slice (some ⟨b, off + k * 7, none⟩) (l.length - k) (c - k)] W' fun e w' => SrtPost W' (l.drop k) e w') := fun W' hW => by
        have q := ih (l.drop k) W' (some ⟨b, off + k * 7, none⟩) (c - k) (by rw [List.length_drop]; omega) (by rw [List.length_drop]; omega) (by rw [List.length_drop]; omega) (Or.inr ⟨_, _, rfl, kfd_drop k (Kind.at_kept hat hW)⟩) (hp.sublist (List.drop_sublist _ _))
        rw [List.length_drop] at q
        exact q
      have HC : Hid (∀ x ∈ l.take k, ∀ y ∈ l.drop k, EqF x y) := by
        have q := hp
        rw [← List.take_append_drop k l, List.pairwise_append] at q
        exact fun x hx y hy => q.2.2 x hx y hy
      have HTD : Hid ((l.take k ++ l.drop k).Perm l) := by show List.Perm _ _; rw [List.take_append_drop]
      have HLN : Hid ((l.take k).length + (l.drop k).length ≤ 1760000000000) := by show _ ≤ _; rw [List.length_take, List.length_drop]; omega
      have hkw : IntKind.i64.wrap (k : Int) = (k : Int) := by simp [IntKind.wrap, IntKind.signed, IntKind.bits]; omega
      clear hat hp hr ih h2
      go_enter Tryz.func72, Tryz.ntmps72
      go_upto_region 3 with fail
      refine wp_region_held_drew (S := fun _ => True) (by kernel_rfl) trivial (fun hHeld => ?_)
      refine take_val (i := 0) (.slice (some ⟨b, off, none⟩) l.length c) rfl (by kernel_rfl) (by kernel_rfl) (by kernel_rfl) (fun _ _ _ h => h) (by rfl) (fun w hSw => by go_simp) hHeld ?_
      simp only [Act.put, List.setIfInBounds_toArray, List.set_cons_zero, List.set_cons_succ]
      refine take_val (i := 1) (.slice (some ⟨b, off, none⟩) l.length c) rfl (by kernel_rfl) (by kernel_rfl) (by kernel_rfl) (fun _ _ _ h => h) (by rfl) (fun w hSw => by go_simp) hHeld ?_
      simp only [Act.put, List.setIfInBounds_toArray, List.set_cons_zero, List.set_cons_succ]
      refine take_val (i := 2) (.int .i64 l.length) rfl (by kernel_rfl) (by kernel_rfl) (by kernel_rfl) (fun _ _ _ h => h) (by rfl) (fun w hSw => by go_simp) hHeld ?_
      simp only [Act.put, List.setIfInBounds_toArray, List.set_cons_zero, List.set_cons_succ]
      refine take_val (i := 3) (.int .i64 k) rfl (by kernel_rfl) (by kernel_rfl) (by kernel_rfl) (fun _ _ _ h => h) (by rfl) (fun w hSw => by go_simp) hHeld ?_
      simp only [Act.put, List.setIfInBounds_toArray, List.set_cons_zero, List.set_cons_succ]
      refine take_val (i := 4) (.slice (some ⟨b, off, none⟩) k c) rfl (by kernel_rfl) (by kernel_rfl) (by kernel_rfl) (fun _ _ _ h => h) (by rfl) (fun w hSw => by go_simp) hHeld ?_
      simp only [Act.put, List.setIfInBounds_toArray, List.set_cons_zero, List.set_cons_succ]
      refine take_val (i := 6) (.slice (some ⟨b, off, none⟩) l.length c) rfl (by kernel_rfl) (by kernel_rfl) (by kernel_rfl) (fun _ _ _ h => h) (by rfl) (fun w hSw => by go_simp) hHeld ?_
      simp only [Act.put, List.setIfInBounds_toArray, List.set_cons_zero, List.set_cons_succ]
      refine take_val (i := 7) (.slice (some ⟨b, off, none⟩) l.length c) rfl (by kernel_rfl) (by kernel_rfl) (by kernel_rfl) (fun _ _ _ h => h) (by rfl) (fun w hSw => by go_simp) hHeld ?_
      simp only [Act.put, List.setIfInBounds_toArray, List.set_cons_zero, List.set_cons_succ]
      refine take_val (i := 8) (.int .i64 l.length) rfl (by kernel_rfl) (by kernel_rfl) (by kernel_rfl) (fun _ _ _ h => h) (by rfl) (fun w hSw => by go_simp) hHeld ?_
      simp only [Act.put, List.setIfInBounds_toArray, List.set_cons_zero, List.set_cons_succ]
      refine take_val (i := 9) (.int .i64 k) rfl (by kernel_rfl) (by kernel_rfl) (by kernel_rfl) (fun _ _ _ h => h) (by rfl) (fun w hSw => by go_simp) hHeld ?_
      simp only [Act.put, List.setIfInBounds_toArray, List.set_cons_zero, List.set_cons_succ]
      refine take_val (i := 10) (.slice (some ⟨b, off + k * 7, none⟩) (l.length - k) (c - k)) rfl (by kernel_rfl) (by kernel_rfl) (by kernel_rfl) (fun _ _ _ h => h) (by rfl) (fun w hSw => by go_simp) hHeld ?_
      simp only [Act.put, List.setIfInBounds_toArray, List.set_cons_zero, List.set_cons_succ]
      clear hHeld
      refine wpAnyH_ready (rs := [5]) (by kernel_rfl) (by simp) ?_
      refine AllReadyH.cons (at_drop0 rfl) (fun K hK => ?_) AllReadyH.nil
      rw [if_pos (by rfl)]
      go_simp
      refine (HA.out _ (by first | exact (Below.refl _ _).drew | exact bel_drewN (Below.refl _ W) 1)).mono ?_
      rintro e w1 ⟨pa, ca, a, rfl, ha1, ha2, ha3, ha4⟩
      have hb1 : Below W.heap.size W w1 := bel_then (bel_drewN (Below.refl _ W) 1) (Nat.le_refl _) ha4
      have HB1 := hid hb1
      have HA1 := hid ha1
      have HA2 := hid ha2
      have HA3 := hid ha3
      clear hb1 ha1 ha2 ha3 ha4 HA
      go_wp2_with fail
      refine hK.out _ _ trivial (fun hHeld => ?_)
      clear hK K
      try simp only [Act.put, List.setIfInBounds_toArray, List.set_cons_zero, List.set_cons_succ]
      clear hHeld
      refine wpAnyH_ready (rs := [11]) (by kernel_rfl) (by simp) ?_
      refine AllReadyH.cons (at_drop0 rfl) (fun K hK => ?_) AllReadyH.nil
      rw [if_pos (by rfl)]
      go_simp
      refine (HB.out _ HB1.out).mono ?_
      rintro e w2 ⟨pb, cb, d, rfl, hd1, hd2, hd3, hd4⟩
      have HB2 : Hid (Below W.heap.size W w2) := bel_then HB1.out HB1.out.size hd4
      have HD1 := hid hd1
      have HD2 := hid hd2
      have HD3 := hid hd3
      have HA1' : Hid (KFd.Is w2 (.slice pa a.length ca) a) := Kind.is_kept HA1.out hd4
      have HCC : Hid (∀ x ∈ a, ∀ y ∈ d, EqF x y) := fun x hx y hy => HC.out x (HA2.out.mem_iff.1 hx) y (HD2.out.mem_iff.1 hy)
      have HPM : Hid ((a ++ d).Perm l) := (List.Perm.append HA2.out HD2.out).trans HTD.out
      have hln : a.length + d.length ≤ 1760000000000 := by rw [HA2.out.length_eq, HD2.out.length_eq]; exact HLN.out
      clear hd1 hd2 hd3 hd4 HB HB1 HA1 HC HTD HLN HA2 HD2
      go_wp2_with fail
      refine hK.out _ _ trivial (fun hHeld => ?_)
      clear hK K
      try simp only [Act.put, List.setIfInBounds_toArray, List.set_cons_zero, List.set_cons_succ]
      refine take_val (i := 12) (.slice pa a.length ca) rfl (by kernel_rfl) (by kernel_rfl) (by kernel_rfl) (fun _ _ _ h => h) (by rfl) (fun w hSw => by go_simp) hHeld ?_
      simp only [Act.put, List.setIfInBounds_toArray, List.set_cons_zero, List.set_cons_succ]
      refine take_val (i := 13) (.slice pb d.length cb) rfl (by kernel_rfl) (by kernel_rfl) (by kernel_rfl) (fun _ _ _ h => h) (by rfl) (fun w hSw => by go_simp) hHeld ?_
      simp only [Act.put, List.setIfInBounds_toArray, List.set_cons_zero, List.set_cons_succ]
      refine wpAnyH_done (by kernel_rfl) ?_ _
      clear hHeld hkw hq i1 i2 i3 i4 i5 h2z
      obtain ⟨pa', ca', ea, hda⟩ := HA1'.out
      injection ea with ea1 _ ea3
      subst ea1 ea3
      obtain ⟨pb', cb', eb, hdb⟩ := HD1.out
      injection eb with eb1 _ eb3
      subst eb1 eb3
      have HDA := hid hda
      have HDB := hid hdb
      clear hda hdb HA1' HD1
      go_wp2_with fail
      go_loopg [5, 6, 7] (a.length + d.length) (fun gg v5 v6 v7 wr => ∃ (i j : Nat) (L : List Fd) (lp : Option Addr) (lc : Nat), v5 = .slice lp L.length lc ∧ v6 = .int .i64 i ∧ v7 = .int .i64 j ∧ i ≤ a.length ∧ j ≤ d.length ∧ (a.length - i) + (d.length - j) ≤ gg ∧ L.length ≤ i + j ∧ Hid (RowSt KFd w2.heap.size w2 (.slice lp L.length lc) L wr ∧ MgSt a d i j L))
      case atStart => exact ⟨0, 0, [], none, 0, rfl, rfl, rfl, by omega, by omega, by omega, by simp, RowSt.nil KFd (by first | exact Below.refl _ _ | exact (Below.refl _ _).drew) (by first | exact Nat.le_refl _ | simp), mg_start a d⟩
      case round =>
        obtain ⟨i, j, L, lp, lc, rfl, rfl, rfl, hi, hj, hgk, hLi, HS⟩ := hrel
        by_cases hlt : i < a.length
        · have hltz : (i : Int) < (a.length : Int) := by omega
          have hiz : (0 : Int) ≤ i := by omega
          obtain ⟨b1, o1, rfl, k1⟩ : ∃ b off, pa = some ⟨b, off, none⟩ ∧ KFd.At w2 b off a := by
            rcases HDA.out with h | h
            · rw [h] at hlt; simp at hlt
            · exact h
          obtain ⟨c0, c1, c2, c3, c4, c5, c6⟩ := kfd_at (Kind.at_kept k1 HS.out.1.bel) i hlt
          clear k1
          by_cases hlu : j < d.length
          · have hluz : (j : Int) < (d.length : Int) := by omega
            have hjz : (0 : Int) ≤ j := by omega
            have hjne : ¬ (j : Int) = (d.length : Int) := by omega
            have hjbq : ((j : Int) == (d.length : Int)) = false := by simpa using hjne
            obtain ⟨b2, o2, rfl, k2⟩ : ∃ b off, pb = some ⟨b, off, none⟩ ∧ KFd.At w2 b off d := by
              rcases HDB.out with h | h
              · rw [h] at hlu; simp at hlu
              · exact h
            obtain ⟨e0, e1, e2, e3, e4, e5, e6⟩ := kfd_at (Kind.at_kept k2 HS.out.1.bel) j hlu
            clear k2
            by_cases hst : (a[i]).v.stamp ≤ (d[j]).v.stamp
            · have HMG := hid (mg_left HA3.out HD3.out HCC.out HS.out.2 hlt fun _ => hst)
              generalize a[i] = z at *
              obtain ⟨za, zb, ⟨zn, zs, zt, zl, zp, zc, zo⟩⟩ := z
              generalize d[j] = y at *
              obtain ⟨ya, yb, ⟨yn, ys, yt, yl, yp, yc, yo⟩⟩ := y
              simp only [Vx.sl] at *
              go_upto_region 7 with fail
              go_quiet (fail)
              go_wp2_with (at_builtin; refine wpList_push_wide KFd rfl _ _ 46 rfl i0 _ 88 Tryz.underlying46 HI0.out hz0 hz1 hz2 rfl w2.heap.size w2 _ L rfl (HS.out.1.on ((bel_drewN (Below.refl _ _) _).alloc (Nat.le_refl _) _)) ⟨za, zb, ⟨zn, zs, zt, zl, zp, zc, zo⟩⟩ _ _ _ rfl rfl _ _ (heap_alloc_new _ _) (by unfold maxLen; omega) (by omega) ?_; intro g8 c8 w8 hst8 hg8; have HS8 := hid hst8; clear hst8 hg8)
              go_roundg ((a.length - (i + 1)) + (d.length - (j)))
              case measure => omega
              exact ⟨i + 1, j, L ++ [⟨za, zb, ⟨zn, zs, zt, zl, zp, zc, zo⟩⟩], some ⟨g8, 0, none⟩, c8, by rw [List.length_append]; rfl, by go_num, by go_num, by omega, by omega, by omega, by rw [List.length_append, List.length_singleton]; omega, by rw [List.length_append]; exact HS8.out, HMG.out⟩
            · have HMG := hid (mg_right HA3.out HD3.out HS.out.2 hlu fun _ => by omega)
              generalize a[i] = z at *
              obtain ⟨za, zb, ⟨zn, zs, zt, zl, zp, zc, zo⟩⟩ := z
              generalize d[j] = y at *
              obtain ⟨ya, yb, ⟨yn, ys, yt, yl, yp, yc, yo⟩⟩ := y
              simp only [Vx.sl] at *
              go_upto_region 7 with fail
              go_quiet (fail)
              go_wp2_with (at_builtin; refine wpList_push_wide KFd rfl _ _ 46 rfl i0 _ 88 Tryz.underlying46 HI0.out hz0 hz1 hz2 rfl w2.heap.size w2 _ L rfl (HS.out.1.on ((bel_drewN (Below.refl _ _) _).alloc (Nat.le_refl _) _)) ⟨ya, yb, ⟨yn, ys, yt, yl, yp, yc, yo⟩⟩ _ _ _ rfl rfl _ _ (heap_alloc_new _ _) (by unfold maxLen; omega) (by omega) ?_; intro g8 c8 w8 hst8 hg8; have HS8 := hid hst8; clear hst8 hg8)
              go_roundg ((a.length - (i)) + (d.length - (j + 1)))
              case measure => omega
              exact ⟨i, j + 1, L ++ [⟨ya, yb, ⟨yn, ys, yt, yl, yp, yc, yo⟩⟩], some ⟨g8, 0, none⟩, c8, by rw [List.length_append]; rfl, by go_num, by go_num, by omega, by omega, by omega, by rw [List.length_append, List.length_singleton]; omega, by rw [List.length_append]; exact HS8.out, HMG.out⟩
          · have hluz : ¬ (j : Int) < (d.length : Int) := by omega
            have hjne : (j : Int) = (d.length : Int) := by omega
            have hjbq : ((j : Int) == (d.length : Int)) = true := by simpa using hjne
            have HJQ := hid hjne
            clear hjne
            have HMG := hid (mg_left HA3.out HD3.out HCC.out HS.out.2 hlt fun q => absurd q hlu)
            generalize a[i] = z at *
            obtain ⟨za, zb, ⟨zn, zs, zt, zl, zp, zc, zo⟩⟩ := z
            simp only [Vx.sl] at *
            go_upto_region 7 with fail
            go_quiet (fail)
            go_wp2_with (at_builtin; refine wpList_push_wide KFd rfl _ _ 46 rfl i0 _ 88 Tryz.underlying46 HI0.out hz0 hz1 hz2 rfl w2.heap.size w2 _ L rfl (HS.out.1.on ((bel_drewN (Below.refl _ _) _).alloc (Nat.le_refl _) _)) ⟨za, zb, ⟨zn, zs, zt, zl, zp, zc, zo⟩⟩ _ _ _ rfl rfl _ _ (heap_alloc_new _ _) (by unfold maxLen; omega) (by omega) ?_; intro g8 c8 w8 hst8 hg8; have HS8 := hid hst8; clear hst8 hg8)
            go_roundg ((a.length - (i + 1)) + (d.length - (j)))
            case measure => omega
            exact ⟨i + 1, j, L ++ [⟨za, zb, ⟨zn, zs, zt, zl, zp, zc, zo⟩⟩], some ⟨g8, 0, none⟩, c8, by rw [List.length_append]; rfl, by go_num, by go_num, by omega, by omega, by omega, by rw [List.length_append, List.length_singleton]; omega, by rw [List.length_append]; exact HS8.out, HMG.out⟩
        · have hltz : ¬ (i : Int) < (a.length : Int) := by omega
          by_cases hlu : j < d.length
          · have hluz : (j : Int) < (d.length : Int) := by omega
            have hjz : (0 : Int) ≤ j := by omega
            have hjne : ¬ (j : Int) = (d.length : Int) := by omega
            have hjbq : ((j : Int) == (d.length : Int)) = false := by simpa using hjne
            obtain ⟨b2, o2, rfl, k2⟩ : ∃ b off, pb = some ⟨b, off, none⟩ ∧ KFd.At w2 b off d := by
              rcases HDB.out with h | h
              · rw [h] at hlu; simp at hlu
              · exact h
            obtain ⟨e0, e1, e2, e3, e4, e5, e6⟩ := kfd_at (Kind.at_kept k2 HS.out.1.bel) j hlu
            clear k2
            have HMG := hid (mg_right HA3.out HD3.out HS.out.2 hlu fun q => absurd q hlt)
            generalize d[j] = y at *
            obtain ⟨ya, yb, ⟨yn, ys, yt, yl, yp, yc, yo⟩⟩ := y
            simp only [Vx.sl] at *
            go_upto_region 7 with fail
            go_quiet (fail)
            go_wp2_with (at_builtin; refine wpList_push_wide KFd rfl _ _ 46 rfl i0 _ 88 Tryz.underlying46 HI0.out hz0 hz1 hz2 rfl w2.heap.size w2 _ L rfl (HS.out.1.on ((bel_drewN (Below.refl _ _) _).alloc (Nat.le_refl _) _)) ⟨ya, yb, ⟨yn, ys, yt, yl, yp, yc, yo⟩⟩ _ _ _ rfl rfl _ _ (heap_alloc_new _ _) (by unfold maxLen; omega) (by omega) ?_; intro g8 c8 w8 hst8 hg8; have HS8 := hid hst8; clear hst8 hg8)
            go_roundg ((a.length - (i)) + (d.length - (j + 1)))
            case measure => omega
            exact ⟨i, j + 1, L ++ [⟨ya, yb, ⟨yn, ys, yt, yl, yp, yc, yo⟩⟩], some ⟨g8, 0, none⟩, c8, by rw [List.length_append]; rfl, by go_num, by go_num, by omega, by omega, by omega, by rw [List.length_append, List.length_singleton]; omega, by rw [List.length_append]; exact HS8.out, HMG.out⟩
          · have hluz : ¬ (j : Int) < (d.length : Int) := by omega
            have HFI := hid ((mg_end HS.out.2 (by omega) (by omega)).trans HPM.out)
            go_wp2_with fail
            go_ret
            exact ⟨lp, lc, L, rfl, Kind.own_is HS.out.1.own, HFI.out, HS.out.2.srt, bel_then HB2.out HB2.out.size HS.out.1.bel⟩

end Go.Proofs.YticfpkodoghnnaaGreat

/-
  The document's directory (stage 14; folioref07.Dir): Log.
-/
namespace Go.Proofs.YticfpkodoghnnaaGreat
open Go.RowKit

theorem since_app (A B : List RowD) (typ : ByteArray) (t : Int) : sinceD (A ++ B) typ t = sinceD A typ t ++ sinceD B typ t := by
  unfold sinceD
  rw [List.filter_append, List.flatMap_append]

theorem since_one_row (r : RowD) (typ : ByteArray) (t : Int) : sinceD [r] typ t = if r.1.1 = typ then (sinceV r.2 t).map fun v => (r.1, v) else [] := by
  unfold sinceD
  by_cases h : r.1.1 = typ
  · rw [if_pos h]; simp [h]
  · rw [if_neg h]; simp [h]

theorem since_lenD (D : List RowD) (typ : ByteArray) (t : Int) : (sinceD D typ t).length ≤ countD D := by
  induction D with
  | nil => exact Nat.zero_le _
  | cons r d ih =>
    have h1 := since_app [r] d typ t
    rw [List.singleton_append] at h1
    rw [h1, List.length_append, since_one_row]
    have h2 : (if r.1.1 = typ then (sinceV r.2 t).map fun v => (r.1, v) else []).length ≤ r.2.length := by
      split
      · rw [List.length_map]
        unfold sinceV
        rw [List.length_drop]
        omega
      · exact Nat.zero_le _
    simp only [countD, List.map_cons, List.sum_cons] at ih ⊢
    omega

theorem since_prefix (D : List RowD) (typ : ByteArray) (t : Int) (i : Nat) : (sinceD (D.take i) typ t).length ≤ (sinceD D typ t).length := by
  have h := since_app (D.take i) (D.drop i) typ t
  rw [List.take_append_drop] at h
  rw [h, List.length_append]
  omega

theorem since_keys_up {D : List RowD} (h : OkD D) (typ : ByteArray) (t : Int) : (sinceD D typ t).Pairwise fun x y => ltKy y.1 x.1 = false := by
  unfold sinceD
  rw [List.pairwise_flatMap]
  refine ⟨fun r _ => ?_, ?_⟩
  · rw [List.pairwise_map]
    exact List.pairwise_of_forall fun a b => totK.irr _
  · have h1 : D.Pairwise fun a b => ltKy a.1 b.1 = true := List.pairwise_map.1 h.rise
    refine (h1.sublist List.filter_sublist).imp ?_
    intro a b hab x hx y hy
    obtain ⟨u, _, rfl⟩ := List.mem_map.1 hx
    obtain ⟨v, _, rfl⟩ := List.mem_map.1 hy
    cases hq : ltKy b.1 a.1 with
    | false => rfl
    | true => exact absurd (totK.tr _ _ _ hab hq) (by rw [totK.irr]; exact Bool.false_ne_true)

theorem since_eqF {D : List RowD} (h : OkD D) {typ : ByteArray} {t : Int} {L : List Fd} (hL : L.map Fd.fnd = sinceD D typ t) : L.Pairwise EqF := by
  have q := since_keys_up h typ t
  rw [← hL, List.pairwise_map] at q
  refine q.imp fun {x y} hxy e => ?_
  unfold ltFd
  have e' : ¬ y.fnd.2.stamp < x.fnd.2.stamp := by
    show ¬ y.v.stamp < x.v.stamp
    omega
  rw [decide_eq_false e', hxy]
  simp

theorem row_cap {N : Nat} {w : World} {p : Option Addr} {c : Nat} {L : List Fd} (h : KFd.Own N w (.slice p L.length c) L) : L.length ≤ c := by
  rcases h.2 with ⟨e, h0⟩ | ⟨g, cap, cur, e, hc, _⟩
  · omega
  · injection e with _ _ e3
    omega

set_option linter.unusedSimpArgs false in
set_option maxHeartbeats 16000000 in
set_option maxRecDepth 100000 in
theorem rlog_any {n0 : Nat} {W : World} {h : Nat} {R : List Rr} {vs : Value} (x : RefD n0 W h R vs) (hl : R.length ≤ 2400000000000) (hn : countD (R.map Rr.row) ≤ 1760000000000) (typ : ByteArray) (t : Int) :
    Calls Tryz.prog 46 #[.pointer (some ⟨h, 0, none⟩), .string typ, .int .u64 t] W fun e w' => ∃ p c fs, e = .returned (.slice p fs.length c) ∧ KFd.Is w' (.slice p fs.length c) fs ∧ (∀ f ∈ fs, f.v.at w' ∧ FitX f.v.o) ∧ (fs.map Fd.fnd).Perm (sinceD (R.map Rr.row) typ t) ∧ SortN (fs.map Fd.fnd) ∧ fs.length ≤ 1760000000000 ∧ Below W.heap.size W w' := by
  obtain ⟨i0, hi0, hz0, hz1, hz2⟩ := info_parts Tryz.infoFd
  have HI0 := hid hi0
  clear hi0
  obtain ⟨p, cap, hvs⟩ := Kind.own_shape x.row
  rw [List.length_map] at hvs
  subst hvs
  have HBX : Hid (∀ W', Below W.heap.size W W' → W'.cell? ⟨h, 0, none⟩ = some (.slice p R.length cap) ∧ (∀ i (hi : i < R.length), ∃ b off, p = some ⟨b, off, none⟩ ∧ W'.cell? ⟨b, off + i * 3, none⟩ = some (.string (R[i]).a) ∧ W'.cell? ⟨b, off + i * 3 + 1, none⟩ = some (.string (R[i]).b) ∧ W'.cell? ⟨b, off + i * 3 + 2, none⟩ = some (.pointer (some ⟨(R[i]).g, 0, none⟩)) ∧ b < W.heap.size)) := fun W' hW => by
    have hx := x.on hW
    refine ⟨hx.cell, fun i hi => ?_⟩
    obtain ⟨p', c', he, hd⟩ := Kind.own_is hx.row
    injection he with e2 _ _
    rcases hd with hd | ⟨b, off, e3, hat⟩
    · have : R.length = 0 := by simpa using congrArg List.length hd
      omega
    · obtain ⟨q0, q1, q2⟩ := krw_at hat i (by simpa using hi)
      rw [List.getElem_map] at q0 q1 q2
      refine ⟨b, off, e2.trans e3, q0, q1, q2, ?_⟩
      have hs := x.row
      have hpb : (Value.slice p R.length cap).ownBlock = some b ∨ True := Or.inr trivial
      rcases (show W.ownsRow n0 KRw.T KRw.k (.slice p R.length cap) (R.map Rr.rw).length (KRw.cells (R.map Rr.rw)) from hs).2 with ⟨_, h0⟩ | ⟨g', c'', cur, hv, _, hg, _⟩
      · rw [List.length_map] at h0; omega
      · injection hv with hv1 _ _
        have e4 : (some ⟨b, off, none⟩ : Option Addr) = some ⟨g', 0, none⟩ := (e2.trans e3).symm.trans hv1
        injection e4 with e4
        injection e4 with e4 _ _
        rw [e4]
        exact (Array.getElem?_eq_some_iff.1 hg).1
  have HSI : Hid (∀ W', Below W.heap.size W W' → ∀ i (hi : i < R.length), Calls Tryz.prog 42 #[.pointer (some ⟨(R[i]).g, 0, none⟩), .int .u64 t] W' fun e w' => ∃ NN p c S, e = .returned (.slice p S.length c) ∧ KV.Own NN w' (.slice p S.length c) S ∧ S.map Vx.ver = sinceV (R[i]).row.2 t ∧ (∀ z ∈ S, z.at W ∧ FitX z.o) ∧ Below W'.heap.size W' w') := fun W' hW i hi => by
    obtain ⟨q1, _⟩ := (x.on hW).each _ (List.getElem_mem hi)
    obtain ⟨q2, _⟩ := x.each _ (List.getElem_mem hi)
    refine (rsince_any _ _ _ _ t W' q1.ref).mono ?_
    rintro e w' ⟨u, rfl, ho, hb⟩
    obtain ⟨p, c, rfl⟩ := Kind.own_shape ho
    refine ⟨_, p, c, _, rfl, ho, ?_, fun z hz => rcx_rd q2 (Or.inl (List.mem_filter.1 hz).1), hb⟩
    rw [sinceX_ver (by rw [List.map_drop]; exact (ok_drop q1.prg.ok _).rise), List.map_drop]
    rfl
  have hok := x.ok
  have HLEN : Hid (∀ i, (sinceD ((R.take i).map Rr.row) typ t).length ≤ 1760000000000) := fun i => by
    have h1 := since_prefix (R.map Rr.row) typ t i
    rw [← List.map_take] at h1
    have h2 := since_lenD (R.map Rr.row) typ t
    omega
  have HEQF : Hid (∀ L : List Fd, L.map Fd.fnd = sinceD (R.map Rr.row) typ t → L.Pairwise EqF) := fun L hL => since_eqF hok hL
  have hhl : h < W.heap.size := (Array.getElem?_eq_some_iff.1 x.obj).1
  clear x hn hok
  go_enter Tryz.func46, Tryz.ntmps46
  go_wp2_with fail
  go_loopg [7, 8] R.length (fun gg v7 v8 wr => ∃ (i : Nat) (L : List Fd) (lp : Option Addr) (lc : Nat), v7 = .slice lp L.length lc ∧ v8 = .int .i64 i ∧ i ≤ R.length ∧ R.length - i ≤ gg ∧ Hid (RowSt KFd W.heap.size W (.slice lp L.length lc) L wr ∧ (∀ f ∈ L, f.v.at W ∧ FitX f.v.o) ∧ L.map Fd.fnd = sinceD ((R.take i).map Rr.row) typ t))
  case atStart => exact ⟨0, [], none, 0, rfl, rfl, by omega, by omega, RowSt.nil KFd (Below.refl _ _) (Nat.le_refl _), (fun f hf => by cases hf), by simp [sinceD]⟩
  case round =>
    obtain ⟨i, L, lp, lc, rfl, rfl, hi, hgk, HS⟩ := hrel
    obtain ⟨c0, hat⟩ := HBX.out wr HS.out.1.bel
    by_cases hlt : i < R.length
    · obtain ⟨hltz, hiz⟩ := lt_num i R.length hlt
      obtain ⟨b1, o1, rfl, y0, y1, y2, hb1l⟩ := hat i hlt
      have HC := hid (HSI.out wr HS.out.1.bel i hlt)
      have HRC : Hid (∀ W', Below W.heap.size W W' → W'.cell? ⟨h, 0, none⟩ = some (.slice (some ⟨b1, o1, none⟩) R.length cap) ∧ W'.cell? ⟨b1, o1 + i * 3, none⟩ = some (.string (R[i]).a) ∧ W'.cell? ⟨b1, o1 + i * 3 + 1, none⟩ = some (.string (R[i]).b)) := fun W' hW => by
        obtain ⟨q0, q1⟩ := HBX.out W' hW
        obtain ⟨b', off', e, z4, z5, _, _⟩ := q1 i hlt
        injection e with e
        injection e with e1 e2 _
        subst e1 e2
        exact ⟨q0, z4, z5⟩
      have HSN : Hid (sinceD ((R.take (i + 1)).map Rr.row) typ t = L.map Fd.fnd ++ (if (R[i]).a = typ then (sinceV (R[i]).row.2 t).map fun v => (((R[i]).a, (R[i]).b), v) else [])) := by
        show _ = _
        rw [List.take_succ_eq_append_getElem hlt, List.map_append, List.map_cons, List.map_nil, since_app, since_one_row, HS.out.2.2]
        rfl
      generalize sinceV (R[i]).row.2 t = sv at *
      generalize (R[i]).a = ra at *
      generalize (R[i]).b = rb at *
      generalize (R[i]).g = rg at *
      clear hat
      by_cases hra : ra = typ
      · have hsq := seq_true hra
        have HSN2 : Hid (sinceD ((R.take (i + 1)).map Rr.row) typ t = L.map Fd.fnd ++ sv.map fun v => ((ra, rb), v)) := by
          show _ = _
          rw [HSN.out, if_pos hra]
        have HLN := hid (HLEN.out (i + 1))
        clear HSN hra
        go_wp2_with fail
        refine HC.out.mono ?_
        rintro e w2 ⟨NN, sp, sc, S, rfl, hs1, hs2, hs3, hb2⟩
        have HB2 : Hid (Below W.heap.size W w2) := bel_then HS.out.1.bel HS.out.1.bel.size hb2
        have HS2 : Hid (RowSt KFd W.heap.size W (.slice lp L.length lc) L w2 ∧ ∀ f ∈ L, f.v.at W ∧ FitX f.v.o) := ⟨HS.out.1.on hb2, HS.out.2.1⟩
        have HS3 := hid hs3
        have HSV := hid hs2
        have hSl : L.length + S.length ≤ 1760000000000 := by
          have q := HLN.out
          rw [HSN2.out, List.length_append, List.length_map, List.length_map, ← hs2, List.length_map] at q
          exact q
        have HOS := hid hs1
        clear hs1 hs2 hs3 hb2 HC HS c0 y0 y1 y2 hsq HLN
        go_wp2_with fail
        go_loopg [7, 10] S.length (fun gg2 v7 v10 wr2 => ∃ (j : Nat) (M : List Fd) (mp : Option Addr) (mc : Nat), v7 = .slice mp M.length mc ∧ v10 = .int .i64 j ∧ j ≤ S.length ∧ S.length - j ≤ gg2 ∧ M.length = L.length + j ∧ Hid (RowSt KFd W.heap.size W (.slice mp M.length mc) M wr2 ∧ KV.Own NN wr2 (.slice sp S.length sc) S ∧ M = L ++ (S.take j).map fun z => (⟨ra, rb, z⟩ : Fd)))
        case atStart => exact ⟨0, L, lp, lc, rfl, rfl, by omega, by omega, rfl, HS2.out.1, HOS.out, by simp⟩
        case round =>
          obtain ⟨j, M, mp, mc, rfl, rfl, hj, hg2, hMl, HM⟩ := hrel
          by_cases hjs : j < S.length
          · obtain ⟨hjz, hj0⟩ := lt_num j S.length hjs
            obtain ⟨b2, o2, rfl⟩ : ∃ b off, sp = some ⟨b, off, none⟩ := by
              obtain ⟨p', c', he, hd⟩ := Kind.own_is HM.out.2.1
              injection he with e1 _ _
              rcases hd with hd | ⟨b, off, e3, _⟩
              · rw [hd] at hjs; simp at hjs
              · exact ⟨b, off, e1.trans e3⟩
            have HSS : Hid (∀ W', Below W.heap.size W W' → KV.Own NN W' (.slice (some ⟨b2, o2, none⟩) S.length sc) S → (W'.cell? ⟨h, 0, none⟩ = some (.slice (some ⟨b1, o1, none⟩) R.length cap) ∧ W'.cell? ⟨b1, o1 + i * 3, none⟩ = some (.string ra) ∧ W'.cell? ⟨b1, o1 + i * 3 + 1, none⟩ = some (.string rb)) ∧ W'.cell? ⟨b2, o2 + j * 5, none⟩ = some (.int .i64 (S[j]).num) ∧ W'.cell? ⟨b2, o2 + j * 5 + 1, none⟩ = some (.int .u64 (S[j]).stamp) ∧ W'.cell? ⟨b2, o2 + j * 5 + 2, none⟩ = some (.int .i64 (S[j]).tick) ∧ W'.cell? ⟨b2, o2 + j * 5 + 3, none⟩ = some (.bool (S[j]).live) ∧ W'.cell? ⟨b2, o2 + j * 5 + 4, none⟩ = some (S[j]).sl) := fun W' h1 h2 => by
              refine ⟨HRC.out W' h1, ?_⟩
              obtain ⟨p', c', he, hd⟩ := Kind.own_is h2
              injection he with e1 _ _
              rcases hd with hd | ⟨b, off, e3, hat⟩
              · rw [hd] at hjs; simp at hjs
              · have e4 := e1.trans e3
                injection e4 with e4
                injection e4 with e5 e6 _
                subst e5 e6
                exact kv_at hat j hjs
            have HNX : Hid (M ++ [(⟨ra, rb, S[j]⟩ : Fd)] = L ++ (S.take (j + 1)).map fun z => (⟨ra, rb, z⟩ : Fd)) := by
              show _ = _
              rw [HM.out.2.2, List.take_succ_eq_append_getElem hjs, List.map_append, List.append_assoc]
              rfl
            generalize S[j] = z at *
            obtain ⟨zn, zs, zt, zl, zp, zc, zo⟩ := z
            simp only [Vx.sl] at HSS
            have hS4 := HSS.out wr HM.out.1.bel HM.out.2.1
            obtain ⟨W5, hW5⟩ : ∃ W5, (wr.alloc (.cells #[.string ra, .string rb, .int .i64 zn, .int .u64 zs, .int .i64 zt, .bool zl, .slice zp zo.length zc] 70)).drew = W5 := ⟨_, rfl⟩
            have hb5 : Below wr.heap.size wr W5 := by rw [← hW5]; exact ((Below.refl _ wr).alloc (Nat.le_refl _) _).drew
            have HBX5 : Hid (W5.heap[wr.heap.size]? = some (.cells #[.string ra, .string rb, .int .i64 zn, .int .u64 zs, .int .i64 zt, .bool zl, .slice zp zo.length zc] 70 (0, 0))) := by rw [← hW5]; exact heap_alloc_new wr _
            have HROW5 := hid (HM.out.1.on hb5)
            have HOS5 := hid (Kind.own_on HM.out.2.1 hb5)
            have hS5 := HSS.out W5 HROW5.out.bel HOS5.out
            have HML := hid hMl
            have hMb : M.length + 1 ≤ 1760000000000 := by omega
            clear hb5 hMl
            go_upto_region 10 with fail
            refine wp_region_held_drew (S := fun W' => (W'.cell? ⟨h, 0, none⟩ = some (.slice (some ⟨b1, o1, none⟩) R.length cap) ∧ W'.cell? ⟨b1, o1 + i * 3, none⟩ = some (.string ra) ∧ W'.cell? ⟨b1, o1 + i * 3 + 1, none⟩ = some (.string rb)) ∧ W'.cell? ⟨b2, o2 + j * 5, none⟩ = some (.int .i64 zn) ∧ W'.cell? ⟨b2, o2 + j * 5 + 1, none⟩ = some (.int .u64 zs) ∧ W'.cell? ⟨b2, o2 + j * 5 + 2, none⟩ = some (.int .i64 zt) ∧ W'.cell? ⟨b2, o2 + j * 5 + 3, none⟩ = some (.bool zl) ∧ W'.cell? ⟨b2, o2 + j * 5 + 4, none⟩ = some (.slice zp zo.length zc)) (by kernel_rfl) hS4 (fun hHeld => ?_)
            refine take_val (i := 0) (.slice mp M.length mc) rfl (by kernel_rfl) (by kernel_rfl) (by kernel_rfl) (fun _ _ _ h => h) (by rfl) (fun w hSw => by go_simp) hHeld ?_
            simp only [Act.put, List.setIfInBounds_toArray, List.set_cons_zero, List.set_cons_succ]
            refine take_val (i := 1) (.pointer (some ⟨h, 0, none⟩)) rfl (by kernel_rfl) (by kernel_rfl) (by kernel_rfl) (fun _ _ _ h => h) (by rfl) (fun w hSw => by go_simp) hHeld ?_
            simp only [Act.put, List.setIfInBounds_toArray, List.set_cons_zero, List.set_cons_succ]
            refine take_val (i := 2) (.pointer (some ⟨h, 0, none⟩)) rfl (by kernel_rfl) (by kernel_rfl) (by kernel_rfl) (fun _ _ _ h => h) (by rfl) (fun w hSw => by go_simp) hHeld ?_
            simp only [Act.put, List.setIfInBounds_toArray, List.set_cons_zero, List.set_cons_succ]
            refine take_val (i := 3) (.pointer (some ⟨h, 0, none⟩)) rfl (by kernel_rfl) (by kernel_rfl) (by kernel_rfl) (fun _ _ _ h => h) (by rfl) (fun w hSw => by go_simp) hHeld ?_
            simp only [Act.put, List.setIfInBounds_toArray, List.set_cons_zero, List.set_cons_succ]
            refine take_val (i := 4) (.slice (some ⟨b1, o1, none⟩) R.length cap) rfl (by kernel_rfl) (by kernel_rfl) (by kernel_rfl) (fun _ _ _ h => h) (by rfl) (fun w hSw => by go_simp) hHeld ?_
            simp only [Act.put, List.setIfInBounds_toArray, List.set_cons_zero, List.set_cons_succ]
            refine take_val (i := 5) (.int .i64 i) rfl (by kernel_rfl) (by kernel_rfl) (by kernel_rfl) (fun _ _ _ h => h) (by rfl) (fun w hSw => by go_simp) hHeld ?_
            simp only [Act.put, List.setIfInBounds_toArray, List.set_cons_zero, List.set_cons_succ]
            refine take_val (i := 6) (.pointer (some ⟨b1, o1 + i * 3, none⟩)) rfl (by kernel_rfl) (by kernel_rfl) (by kernel_rfl) (fun _ _ _ h => h) (by rfl) (fun w hSw => by go_simp) hHeld ?_
            simp only [Act.put, List.setIfInBounds_toArray, List.set_cons_zero, List.set_cons_succ]
            refine take_val (i := 7) (.pointer (some ⟨b1, o1 + i * 3, none⟩)) rfl (by kernel_rfl) (by kernel_rfl) (by kernel_rfl) (fun _ _ _ h => h) (by rfl) (fun w hSw => by go_simp) hHeld ?_
            simp only [Act.put, List.setIfInBounds_toArray, List.set_cons_zero, List.set_cons_succ]
            refine take_val (i := 8) (.agg #[.string ra, .string rb]) rfl (by kernel_rfl) (by kernel_rfl) (by kernel_rfl) (fun _ _ _ h => h) (by rfl) (fun w hSw => by go_simp) hHeld ?_
            simp only [Act.put, List.setIfInBounds_toArray, List.set_cons_zero, List.set_cons_succ]
            refine take_val (i := 9) (.slice (some ⟨b2, o2, none⟩) S.length sc) rfl (by kernel_rfl) (by kernel_rfl) (by kernel_rfl) (fun _ _ _ h => h) (by rfl) (fun w hSw => by go_simp) hHeld ?_
            simp only [Act.put, List.setIfInBounds_toArray, List.set_cons_zero, List.set_cons_succ]
            refine take_val (i := 10) (.int .i64 j) rfl (by kernel_rfl) (by kernel_rfl) (by kernel_rfl) (fun _ _ _ h => h) (by rfl) (fun w hSw => by go_simp) hHeld ?_
            simp only [Act.put, List.setIfInBounds_toArray, List.set_cons_zero, List.set_cons_succ]
            refine take_val (i := 11) (.pointer (some ⟨b2, o2 + j * 5, none⟩)) rfl (by kernel_rfl) (by kernel_rfl) (by kernel_rfl) (fun _ _ _ h => h) (by rfl) (fun w hSw => by go_simp) hHeld ?_
            simp only [Act.put, List.setIfInBounds_toArray, List.set_cons_zero, List.set_cons_succ]
            refine take_val (i := 12) (.agg #[.int .i64 zn, .int .u64 zs, .int .i64 zt, .bool zl, .slice zp zo.length zc]) rfl (by kernel_rfl) (by kernel_rfl) (by kernel_rfl) (fun _ _ _ h => h) (by rfl) (fun w hSw => by go_simp) hHeld ?_
            simp only [Act.put, List.setIfInBounds_toArray, List.set_cons_zero, List.set_cons_succ]
            refine take_val (i := 13) (.agg #[.string ra, .string rb, .int .i64 zn, .int .u64 zs, .int .i64 zt, .bool zl, .slice zp zo.length zc]) rfl (by kernel_rfl) (by kernel_rfl) (by kernel_rfl) (fun _ _ _ h => h) (by rfl) (fun w hSw => by go_simp) hHeld ?_
            simp only [Act.put, List.setIfInBounds_toArray, List.set_cons_zero, List.set_cons_succ]
            clear hHeld
            refine wpAnyH_ready (rs := [14]) (by kernel_rfl) (by simp) ?_
            refine AllReadyH.cons (at_drop0 rfl) (fun K hK => ?_) AllReadyH.nil
            rw [if_pos (by rfl)]
            go_simp
            go_wp2_with fail
            subst hW5
            refine hK.out _ _ hS5 (fun hHeld => ?_)
            clear hK K
            try simp only [Act.put, List.setIfInBounds_toArray, List.set_cons_zero, List.set_cons_succ]
            refine wpAnyH_ready (rs := [15]) (by kernel_rfl) (by simp) ?_
            refine AllReadyH.cons (at_drop0 rfl) (fun K hK => ?_) AllReadyH.nil
            rw [if_pos (by rfl)]
            refine wp_push_wide KFd _ _ 46 rfl i0 _ 88 Tryz.underlying46 HI0.out hz0 hz1 hz2 rfl W.heap.size W (.slice mp M.length mc) M (by rfl) HROW5.out ⟨ra, rb, ⟨zn, zs, zt, zl, zp, zc, zo⟩⟩ wr.heap.size 1 1 rfl (by rfl) 70 (0, 0) HBX5.out (by unfold maxLen; omega) (by omega) ?_
            intro g8 c8 w8 h1 h2
            have hos8 : KV.Own NN w8 (.slice (some ⟨b2, o2, none⟩) S.length sc) S := own_else HOS5.out HROW5.out.own (by decide) h2
            have hS8 := HSS.out w8 h1.bel hos8
            have HS8 := hid h1
            have HOS8 := hid hos8
            clear h1 h2 hHeld hos8
            refine hK.out _ _ hS8 (fun hHeld => ?_)
            clear hK K
            try simp only [Act.put, List.setIfInBounds_toArray, List.set_cons_zero, List.set_cons_succ]
            refine take_val (i := 16) (.slice (some ⟨g8, 0, none⟩) (M.length + 1) c8) rfl (by kernel_rfl) (by kernel_rfl) (by kernel_rfl) (fun _ _ _ h => h) (by rfl) (fun w hSw => by go_simp) hHeld ?_
            simp only [Act.put, List.setIfInBounds_toArray, List.set_cons_zero, List.set_cons_succ]
            refine wpAnyH_done (by kernel_rfl) ?_ _
            clear hHeld hS8
            go_wp2_with fail
            go_roundg (S.length - (j + 1))
            case measure => omega
            exact ⟨j + 1, M ++ [⟨ra, rb, ⟨zn, zs, zt, zl, zp, zc, zo⟩⟩], some ⟨g8, 0, none⟩, c8, by rw [List.length_append]; rfl, by go_num, by omega, by omega, by rw [List.length_append, List.length_singleton, HML.out]; omega, by rw [List.length_append]; exact HS8.out, HOS8.out, HNX.out⟩
          · have hjz := ge_num j S.length hjs
            have hts : S.take j = S := List.take_of_length_le (by omega)
            have HFO : Hid ((∀ f ∈ M, f.v.at W ∧ FitX f.v.o) ∧ M.map Fd.fnd = sinceD ((R.take (i + 1)).map Rr.row) typ t) := by
              refine ⟨fun f hf => ?_, ?_⟩
              · rw [HM.out.2.2, hts] at hf
                rcases List.mem_append.1 hf with q | q
                · exact HS2.out.2 f q
                · obtain ⟨z, hz, rfl⟩ := List.mem_map.1 q
                  exact HS3.out z hz
              · rw [HSN2.out, HM.out.2.2, hts, List.map_append, List.map_map, ← HSV.out, List.map_map]
                rfl
            clear hMl hts
            go_wp2_with fail
            go_roundg (R.length - (i + 1))
            case measure => omega
            exact ⟨i + 1, M, mp, mc, rfl, by go_num, by omega, by omega, HM.out.1, HFO.out⟩
      · have hsq := seq_false hra
        have HSN2 : Hid (L.map Fd.fnd = sinceD ((R.take (i + 1)).map Rr.row) typ t) := by
          show _ = _
          rw [HSN.out, if_neg hra]
          exact (List.append_nil _).symm
        clear HSN HC
        go_wp2_with fail
        go_roundg (R.length - (i + 1))
        case measure => omega
        exact ⟨i + 1, L, lp, lc, rfl, by go_num, by omega, by omega, HS.out.1, HS.out.2.1, HSN2.out⟩
    · have hltz := ge_num i R.length hlt
      have hti : R.take i = R := List.take_of_length_le (by omega)
      have hll : L.length ≤ 1760000000000 := by
        have q := HLEN.out i
        rw [← HS.out.2.2, List.length_map] at q
        exact q
      rw [hti] at HS
      have HSO : Hid (Calls Tryz.prog 72 #[.slice lp L.length lc] wr fun e w' => SrtPost wr L e w') := by
        have hc : L.length ≤ lc := row_cap HS.out.1.own
        obtain ⟨p', c', he, hd⟩ := Kind.own_is HS.out.1.own
        injection he with e1 _ e3
        subst e1 e3
        exact rsorted_any L.length L wr lp lc (Nat.le_refl _) hc hll hd (HEQF.out L HS.out.2.2)
      clear hat
      go_wp2_with fail
      refine HSO.out.mono ?_
      rintro e w5 ⟨p5, c5, r, rfl, h1, h2, h3, h4⟩
      have HFI : Hid ((∀ f ∈ r, f.v.at w5 ∧ FitX f.v.o) ∧ (r.map Fd.fnd).Perm (sinceD (R.map Rr.row) typ t) ∧ SortN (r.map Fd.fnd) ∧ r.length ≤ 1760000000000 ∧ Below W.heap.size W w5) := by
        have hb := bel_then HS.out.1.bel HS.out.1.bel.size h4
        refine ⟨fun f hf => vat_on (HS.out.2.1 f (h2.mem_iff.1 hf)) hb, ?_, ahF_sort h3, by rw [h2.length_eq]; exact hll, hb⟩
        rw [← HS.out.2.2]
        exact h2.map _
      have H1 := hid h1
      clear h1 h2 h3 h4 HSO c0
      go_wp2_with fail
      go_ret
      exact ⟨p5, c5, r, rfl, H1.out, HFI.out⟩

end Go.Proofs.YticfpkodoghnnaaGreat

/-
  The document's answers of the past (stage 14; folioref14): Since.
-/
namespace Go.Proofs.YticfpkodoghnnaaGreat
open Go.RowKit

set_option maxHeartbeats 8000000 in
set_option maxRecDepth 100000 in
theorem rpsince_any {n0 : Nat} {W : World} {h : Nat} {R : List Rr} {vs : Value} (x : RefD n0 W h R vs) (hl : R.length ≤ 2400000000000) (hn : countD (R.map Rr.row) ≤ 1760000000000) (fl sn : Int) (typ : ByteArray) (s : Int) :
    Calls Tryz.prog 21 #[.pointer (some ⟨h, 0, none⟩), .int .u64 fl, .int .u64 sn, .string typ, .int .u64 s] W fun e w' => ∃ L, PastSince (R.map Rr.row) fl sn typ s L ∧ RdF W L e w' := by
  obtain ⟨i0, hi0, hz0, hz1, hz2⟩ := info_parts Tryz.infoFd
  have HI0 := hid hi0
  clear hi0
  have HLG := hid (rlog_any x hl hn typ s)
  clear x hl hn
  by_cases hlow : s < fl
  · have HA : Hid (PastSince (R.map Rr.row) fl sn typ s ([], 8)) := by show PastSince _ _ _ _ _ _; unfold PastSince; rw [if_pos hlow]
    clear HLG
    go_enter Tryz.func21, Tryz.ntmps21
    go_wp2_with fail
    go_ret2
    exact ⟨([], 8), HA.out, none, 0, [], rfl, Kind.is_nil _ _, (fun x hx => by cases hx), rfl, by simp, Below.refl _ _⟩
  · have HA : Hid (∀ r : List Fnd, r.Perm (sinceD (R.map Rr.row) typ s) → SortN r → PastSince (R.map Rr.row) fl sn typ s (r.filter (fun x => decide (x.2.stamp ≤ sn)), 0)) := fun r h1 h2 => by
      unfold PastSince
      rw [if_neg hlow]
      exact ⟨rfl, r, h1, h2, rfl⟩
    go_enter Tryz.func21, Tryz.ntmps21
    go_wp2_with fail
    refine HLG.out.mono ?_
    rintro e w2 ⟨up, uc, SX, rfl, hi2, hr2, hp2, hs2, hSl, hb2⟩
    obtain ⟨up', uc', he', hd'⟩ := hi2
    injection he' with e1 e2 e3
    subst e1 e3
    have HD := hid hd'
    have HB2 := hid hb2
    have HRD2 := hid hr2
    have HPA := hid (HA.out _ hp2 hs2)
    clear hd' hb2 hr2 hp2 hs2 e2 HA HLG
    go_wp2_with fail
    go_loopg [13, 14] SX.length (fun gg v13 v14 wr => ∃ (i : Nat) (L : List Fd) (lp : Option Addr) (lc : Nat), v13 = .slice lp L.length lc ∧ v14 = .int .i64 i ∧ i ≤ SX.length ∧ SX.length - i ≤ gg ∧ L.length ≤ i ∧ Hid (RowSt KFd w2.heap.size w2 (.slice lp L.length lc) L wr ∧ L = (SX.take i).filter fun z => decide (z.v.stamp ≤ sn)))
    case atStart => exact ⟨0, [], none, 0, rfl, rfl, by omega, by omega, by simp, RowSt.nil KFd (Below.refl _ _) (Nat.le_refl _), by simp⟩
    case round =>
      obtain ⟨i, L, lp, lc, rfl, rfl, hi, hgk, hLi, HS⟩ := hrel
      by_cases hlt : i < SX.length
      · have hltz : (i : Int) < (SX.length : Int) := by omega
        have hiz : (0 : Int) ≤ i := by omega
        obtain ⟨b1, o1, rfl, k1⟩ : ∃ b off, up = some ⟨b, off, none⟩ ∧ KFd.At w2 b off SX := by
          rcases HD.out with h | h
          · rw [h] at hlt; simp at hlt
          · exact h
        obtain ⟨c0, c1, c2, c3, c4, c5, c6⟩ := kfd_at (Kind.at_kept k1 HS.out.1.bel) i hlt
        have HTF := hid (take_filter_snoc SX (fun z => decide (z.v.stamp ≤ sn)) i hlt)
        generalize SX[i] = z at *
        obtain ⟨za, zb, ⟨zn, zs, zt, zl, zp, zc, zo⟩⟩ := z
        simp only [Vx.sl] at *
        clear k1
        by_cases hzs : zs ≤ sn
        · have HNX : Hid (L ++ [⟨za, zb, ⟨zn, zs, zt, zl, zp, zc, zo⟩⟩] = (SX.take (i + 1)).filter fun z => decide (z.v.stamp ≤ sn)) := by
            show _ = _
            rw [HTF.out, ← HS.out.2, decide_eq_true hzs]
            rfl
          clear HTF
          go_wp2_with (at_builtin; refine wpList_push_wide KFd rfl _ _ 46 rfl i0 _ 88 Tryz.underlying46 HI0.out hz0 hz1 hz2 rfl w2.heap.size w2 _ L rfl (HS.out.1.on ((Below.refl _ _).alloc (Nat.le_refl _) _)) ⟨za, zb, ⟨zn, zs, zt, zl, zp, zc, zo⟩⟩ _ _ _ rfl rfl _ _ (heap_alloc_new _ _) (by unfold maxLen; omega) (by omega) ?_; intro g8 c8 w8 hst8 hg8; have HS8 := hid hst8; clear hst8 hg8)
          go_roundg (SX.length - (i + 1))
          case measure => omega
          exact ⟨i + 1, L ++ [⟨za, zb, ⟨zn, zs, zt, zl, zp, zc, zo⟩⟩], some ⟨g8, 0, none⟩, c8, by rw [List.length_append]; rfl, by go_num, by omega, by omega, by rw [List.length_append, List.length_singleton]; omega, by rw [List.length_append]; exact HS8.out, HNX.out⟩
        · have HNX : Hid (L = (SX.take (i + 1)).filter fun z => decide (z.v.stamp ≤ sn)) := by
            show _ = _
            rw [HTF.out, ← HS.out.2, decide_eq_false hzs]
            simp
          clear HTF
          go_wp2_with fail
          go_roundg (SX.length - (i + 1))
          case measure => omega
          exact ⟨i + 1, L, lp, lc, rfl, by go_num, by omega, by omega, by omega, HS.out.1, HNX.out⟩
      · have hltz : ¬ (i : Int) < (SX.length : Int) := by omega
        have hti : SX.take i = SX := List.take_of_length_le (by omega)
        rw [hti] at HS
        have HFI : Hid (L.map Fd.fnd = (SX.map Fd.fnd).filter (fun x => decide (x.2.stamp ≤ sn))) := by
          show _ = _
          rw [HS.out.2, List.filter_map]
          rfl
        have HLS : Hid (∀ z ∈ L, z ∈ SX) := fun z hz => by rw [HS.out.2] at hz; exact (List.mem_filter.1 hz).1
        go_wp2_with fail
        go_ret2
        exact ⟨_, _, HPA.out, lp, lc, L, rfl, Kind.own_is HS.out.1.own, fun z hz => vat_on (HRD2.out z (HLS.out z hz)) HS.out.1.bel, HFI.out, by omega, bel_then HB2.out HB2.out.size HS.out.1.bel⟩

end Go.Proofs.YticfpkodoghnnaaGreat

/-
  PastKeeps (stage 14), at package past as it landed.
-/
namespace Go.Proofs.YticfpkodoghnnaaGreat
open Go.RowKit

theorem FlE.nil (N : Nat) (w : World) : FlE N w (.slice none 0 0) := ⟨none, 0, 0, rfl, by unfold maxLen; omega, ⟨[], World.ownsRow_nil _ _ _ _⟩, fun i hi => by omega⟩
/-- The values of what was told. -/
def Told14 (hs : List Vx) (fs ss : List Fd) (u : Value) : Prop := u = .slice none 0 0 ∨ (∃ x ∈ hs, u = x.sl) ∨ (∃ f ∈ fs, u = f.v.sl) ∨ ∃ f ∈ ss, u = f.v.sl

theorem kp_start {w3 w4 w5 w6 : World} {hv lv sv : Value} {hs : List Vx} {fs ss : List Fd} (h4 : Below w3.heap.size w3 w4) (h5 : Below w4.heap.size w4 w5) (h6 : Below w5.heap.size w5 w6)
    (f1 : KFd.Own w3.heap.size w4 lv fs) (f2 : ∀ f ∈ fs, OwnJ w3.heap.size w4 f.v.sl f.v.o ∧ mayB (f.v.o.map Fx.fld) = true) (fl : fs.length ≤ 2400000000000)
    (v1 : KV.Own w4.heap.size w5 hv hs) (v2 : ∀ x ∈ hs, OwnJ w4.heap.size w5 x.sl x.o ∧ mayB (x.o.map Fx.fld) = true)
    (s1 : KFd.Own w5.heap.size w6 sv ss) (s2 : ∀ f ∈ ss, OwnJ w5.heap.size w6 f.v.sl f.v.o ∧ mayB (f.v.o.map Fx.fld) = true) (sl : ss.length ≤ 2400000000000) : Kp14 w3 (Told14 hs fs ss) hv hs lv sv w6 := by
  have b56 : Below w4.heap.size w4 w6 := bel_then h5 h5.size h6
  have b36 : Below w3.heap.size w3 w6 := bel_then h4 h4.size b56
  have z4 := h4.size
  have z5 := h5.size
  refine ⟨b36, ⟨b36.size, fun u hu => ?_⟩, Kind.own_weak (Kind.own_on v1 h6) z4, FdE.of (Kind.own_on f1 b56) fl (Nat.le_refl _) fun f hf => Or.inr (Or.inr (Or.inl ⟨f, hf, rfl⟩)), FdE.of s1 sl (by omega) fun f hf => Or.inr (Or.inr (Or.inr ⟨f, hf, rfl⟩))⟩
  rcases hu with rfl | ⟨x, hx, rfl⟩ | ⟨f, hf, rfl⟩ | ⟨f, hf, rfl⟩
  · exact FlE.nil _ _
  · exact FlE.of ((v2 x hx).1.on h6) (v2 x hx).2 z4
  · exact FlE.of ((f2 f hf).1.on b56) (f2 f hf).2 (Nat.le_refl _)
  · exact FlE.of (s2 f hf).1 (s2 f hf).2 (by omega)

/-- A box of another kind stands. -/
theorem Wfr.box {N : Nat} {w w' : World} (f : Wfr N w w') {b : Nat} {cs : Array Value} {T : TypeId} (h : w.heap[b]? = some (.cells cs T (0, 0))) (h1 : T ≠ 107) (h2 : T ≠ 9) : w'.heap[b]? = some (.cells cs T (0, 0)) :=
  (f.block b (Array.getElem?_eq_some_iff.1 h).1 fun ⟨_, cs', T', q3, q4⟩ => by
    rw [h] at q3
    injection q3 with q3
    injection q3 with _ q3
    rw [← q3] at q4
    exact q4.elim h1 h2).trans h

set_option linter.unusedSimpArgs false in
set_option maxHeartbeats 32000000 in
set_option maxRecDepth 100000 in
theorem keeps14_any (HFX : Fixed14) (v : Value) (l : List Pt) (q : Ak) (w : World) (hv : KPt.Is w v l) (hx : ∀ x ∈ l, PtIn w x) (hq : AkIn w q) (hl : l.length ≤ 1760000000000) :
    Calls Tryz.prog 6 #[v, .agg (encAk q).toArray] w fun e w' => e = .returned (.bool true) ∧ Below w.heap.size w w' := by
  obtain ⟨hb0, h0, hs0⟩ := one_box14 w (encAk q).toArray 34
  obtain ⟨V, hV⟩ : ∃ V, w.alloc (.cells (encAk q).toArray 34) = V := ⟨_, rfl⟩
  obtain ⟨Q, hQ⟩ : ∃ Q, w.heap.size = Q := ⟨_, rfl⟩
  rw [hV] at hb0 h0 hs0
  rw [hQ] at h0
  have HL1 : Hid (∀ W, Below w.heap.size w W → Calls Tryz.prog 9 #[v, .bool true] W fun e w' => LaidP W true l e w') := fun W hW => laidP_any v l true W (Kind.is_kept hv hW) (fun x h => (hx x h).on hW) (by omega)
  obtain ⟨p, cap, rfl, hd⟩ := hv
  have HBX : Hid (∀ W', Below V.heap.size V W' → W'.cell? ⟨Q, 0, none⟩ = some (.int .u64 q.fl) ∧ W'.cell? ⟨Q, 1, none⟩ = some (.int .u64 q.sn) ∧ W'.cell? ⟨Q, 2, none⟩ = some (.int .u64 q.t) ∧ W'.cell? ⟨Q, 3, none⟩ = some (.string q.a) ∧ W'.cell? ⟨Q, 4, none⟩ = some (.string q.b)) := fun W' hW => by
    have e1 := (hW.block Q (by rw [hs0, hQ]; omega)).trans h0
    exact ⟨by rw [Lib.cell_of_heap e1]; rfl, by rw [Lib.cell_of_heap e1]; rfl, by rw [Lib.cell_of_heap e1]; rfl, by rw [Lib.cell_of_heap e1]; rfl, by rw [Lib.cell_of_heap e1]; rfl⟩
  have HF := hid (HFX V)
  have HB0 := hid hb0
  have HKF : Hid (FitK (q.a, q.b)) := hq.kfit
  have HQQ := hid hQ
  clear hd hx hb0 h0 hs0 hq
  obtain ⟨qfl, qsn, qt, qa, qb, qq, qqc, qtm, qn⟩ := q
  simp only [encAk] at *
  go_enter Tryz.func6, Tryz.ntmps6
  go_wp2_with fail
  try rw [hV]
  try rw [hQ]
  clear hV hQ
  refine HF.out.mono ?_
  rintro e w1 ⟨rfl, hb1⟩
  have HB1 := hid hb1
  have HC1 := hid (HL1.out w1 (bel_then HB0.out HB0.out.size hb1))
  clear hb1 HF HL1
  go_wp2_with fail
  refine HC1.out.mono ?_
  rintro e w2 ⟨ga, gh, rfl, hA2⟩
  have hb2 : Below V.heap.size V w2 := bel_then HB1.out HB1.out.size hA2.choose_spec.2
  obtain ⟨DD, hDD⟩ : ∃ DD, laidP true l = DD := ⟨_, rfl⟩
  rw [hDD] at hA2
  obtain ⟨a0, a1, a2, a3, a4⟩ := HBX.out w2 hb2
  obtain ⟨hbw, hw0, hws⟩ := one_box14 w2 #[.int .u64 qfl, .int .u64 qsn] 36
  obtain ⟨w3, hw3⟩ : ∃ w3, w2.alloc (.cells #[.int .u64 qfl, .int .u64 qsn] 36) = w3 := ⟨_, rfl⟩
  obtain ⟨X, hX⟩ : ∃ X, w2.heap.size = X := ⟨_, rfl⟩
  rw [hw3] at hbw hw0 hws
  rw [hX] at hw0
  have HK : Hid (∀ W, Below w3.heap.size w3 W → (W.cell? ⟨Q, 0, none⟩ = some (.int .u64 qfl) ∧ W.cell? ⟨Q, 1, none⟩ = some (.int .u64 qsn) ∧ W.cell? ⟨Q, 2, none⟩ = some (.int .u64 qt) ∧ W.cell? ⟨Q, 3, none⟩ = some (.string qa) ∧ W.cell? ⟨Q, 4, none⟩ = some (.string qb)) ∧ (W.cell? ⟨X, 0, none⟩ = some (.int .u64 qfl) ∧ W.cell? ⟨X, 1, none⟩ = some (.int .u64 qsn)) ∧ DirS w1.heap.size ga l.length DD W ∧ ∃ R vs, RefD w1.heap.size W gh R vs ∧ R.map Rr.row = DD ∧ R.length ≤ l.length ∧ countD DD ≤ l.length) := fun W hW => by
    have h1 : Below w2.heap.size w2 W := bel_then hbw hbw.size hW
    have e1 := (hW.block X (by rw [hws, hX]; omega)).trans hw0
    obtain ⟨B, h2, _⟩ := hA2.on h1
    obtain ⟨R, vs, q1, q2, q3, _⟩ := h2.refS
    obtain ⟨_, _, q5⟩ := h2.dirS
    exact ⟨HBX.out W (bel_then hb2 hb2.size h1), ⟨by rw [Lib.cell_of_heap e1]; rfl, by rw [Lib.cell_of_heap e1]; rfl⟩, h2.dirS, R, vs, q1, q2, q3, q5.few⟩
  have HB3 : Hid (Below w.heap.size w w3) := bel_then HB0.out HB0.out.size (bel_then hb2 hb2.size hbw)
  clear hA2 hb2 HC1 HB1 HBX hDD hbw hw0 hws
  go_upto_region 5 with fail
  try rw [hX]
  try rw [hw3]
  clear hw3 hX a0 a1 a2 a3 a4
  obtain ⟨⟨c0, c1, c2, c3, c4⟩, ⟨x0, x1⟩, hds, _⟩ := HK.out w3 (Below.refl _ _)
  have HFI : Hid (Calls Tryz.prog 14 #[.pointer (some ⟨ga, 0, none⟩), .agg #[.int .u64 qfl, .int .u64 qsn], .int .u64 qt, .string qa, .slice none 0 0] w3 fun e w' => NwF w3 (pastFind DD qfl qsn qt qa (matchM [])) e w') := pfind_any hds hl qfl qsn qt qa none 0 [] (KM.is_nil _) ⟨by decide, fun x hx => by cases hx⟩
  have HFL := hid (find_len14 hds hl qfl qsn qt qa (matchM []))
  clear hds
  go_wp2_with fail
  refine HFI.out.mono ?_
  rintro e w4 ⟨u4, fs, rfl, f1, f2, f3, f4⟩
  obtain ⟨lp, lc, rfl⟩ := Kind.own_shape f1
  have hfl : fs.length ≤ 2400000000000 := by have := HFL.out; rw [← f3, List.length_map] at this; exact this
  have H4 := hid f4
  have HF1 := hid f1
  have HF2 := hid f2
  clear f1 f2 f3 HFI HFL c0 c1 c2 c3 c4 x0 x1
  generalize (pastFind DD qfl qsn qt qa (matchM [])).2 = code4 at *
  obtain ⟨⟨c0, c1, c2, c3, c4⟩, ⟨x0, x1⟩, hds, _⟩ := HK.out w4 f4
  have HHI : Hid (Calls Tryz.prog 17 #[.pointer (some ⟨ga, 0, none⟩), .agg #[.int .u64 qfl, .int .u64 qsn], .agg #[.string qa, .string qb], .int .u64 qt] w4 fun e w' => NwVs w4 (pastHist DD qfl qsn (qa, qb) qt) e w') := phist_any hds hl qfl qsn (qa, qb) qt HKF.out
  have HHL := hid (hist_len14 hds hl qfl qsn (qa, qb) qt)
  clear hds f4
  go_wp2_with fail
  refine HHI.out.mono ?_
  rintro e w5 ⟨u5, hs, rfl, v1, v2, v3, v4⟩
  obtain ⟨hp, hc, rfl⟩ := Kind.own_shape v1
  have hhl : hs.length ≤ 2400000000000 := by have := HHL.out; rw [← v3, List.length_map] at this; exact this
  have b35 : Below w3.heap.size w3 w5 := bel_then H4.out H4.out.size v4
  have H5 := hid v4
  have HV1 := hid v1
  have HV2 := hid v2
  clear v1 v2 v3 v4 HHI HHL c0 c1 c2 c3 c4 x0 x1
  generalize (pastHist DD qfl qsn (qa, qb) qt).2 = code5 at *
  obtain ⟨⟨c0, c1, c2, c3, c4⟩, ⟨x0, x1⟩, hds, _⟩ := HK.out w5 b35
  have HSI : Hid (Calls Tryz.prog 20 #[.pointer (some ⟨ga, 0, none⟩), .agg #[.int .u64 qfl, .int .u64 qsn], .string qa, .int .u64 qt] w5 fun e w' => ∃ L, PastSince DD qfl qsn qa qt L ∧ NwF w5 L e w') := psince_any hds hl qfl qsn qa qt
  have HSL : Hid (∀ L, PastSince DD qfl qsn qa qt L → L.1.length ≤ 1760000000000) := fun L hL => since_len14 hds hl hL
  clear hds b35
  go_wp2_with fail
  refine HSI.out.mono ?_
  rintro e w6 ⟨⟨L1, L2⟩, hL, u6, ss, rfl, s1, s2, s3, s4⟩
  obtain ⟨sp, sc, rfl⟩ := Kind.own_shape s1
  have hsl : ss.length ≤ 2400000000000 := by
    have := HSL.out _ hL
    simp only at s3
    rw [← s3, List.length_map] at this
    omega
  have HKP : Hid (Kp14 w3 (Told14 hs fs ss) (.slice hp hs.length hc) hs (.slice lp fs.length lc) (.slice sp ss.length sc) w6) := kp_start H4.out H5.out s4 HF1.out HF2.out hfl HV1.out HV2.out s1 s2 hsl
  have HSV : Hid (∀ x ∈ hs, Told14 hs fs ss x.sl) := fun x hx => Or.inr (Or.inl ⟨x, hx, rfl⟩)
  have HSN : Hid (Told14 hs fs ss (.slice none 0 0)) := Or.inl rfl
  clear s1 s2 s3 s4 hL HSI HSL c0 c1 c2 c3 c4 x0 x1 HF1 HF2 HV1 HV2 H4 H5
  generalize Told14 hs fs ss = SS at *
  go_wp2_with fail
  go_loopg [78] hs.length (fun gg vi wr => ∃ i : Nat, vi = .int .i64 i ∧ i ≤ hs.length ∧ hs.length - i ≤ gg ∧ Hid (Kp14 w3 SS (.slice hp hs.length hc) hs (.slice lp fs.length lc) (.slice sp ss.length sc) wr))
  case atStart => exact ⟨0, rfl, by omega, by omega, HKP.out⟩
  case round =>
    clear HKP
    obtain ⟨i, rfl, hi, hgi, HI⟩ := hrel
    by_cases hlt : i < hs.length
    · have hltz : (i : Int) < (hs.length : Int) := by omega
      have hiz : (0 : Int) ≤ i := by omega
      obtain ⟨p', c', e', hd'⟩ := Kind.own_is HI.out.ver
      injection e' with e1 e2 e3
      subst e1
      clear e2 e3
      obtain ⟨bh, oh, rfl, hat⟩ : ∃ b off, hp = some ⟨b, off, none⟩ ∧ KV.At wr b off hs := by
        rcases hd' with h | h
        · rw [h] at hlt; simp at hlt
        · exact h
      obtain ⟨_, _, _, _, y4⟩ := kv_at hat i hlt
      have HWI := hid (wipe14_any w3.heap.size SS (hs[i]).sl wr HI.out.wip (HSV.out _ (List.getElem_mem hlt)))
      clear hd' hat
      generalize hs[i] = x at *
      simp only [Vx.sl] at *
      go_wp2_with fail
      refine HWI.out.mono ?_
      rintro e w7 ⟨rfl, h1, h2⟩
      have HN := hid (HI.out.wiped h1 h2)
      clear h1 h2 HWI HI y4
      go_wp2_with fail
      go_roundg (hs.length - (i + 1))
      case measure => omega
      exact ⟨i + 1, by go_num, by omega, by omega, HN.out⟩
    · have hltz : ¬ (i : Int) < (hs.length : Int) := by omega
      obtain ⟨W8, hW8⟩ : ∃ W8, wr.alloc (.cells #[.slice lp fs.length lc, .slice sp ss.length sc] 46) = W8 := ⟨_, rfl⟩
      obtain ⟨Z, hZ⟩ : ∃ Z, wr.heap.size = Z := ⟨_, rfl⟩
      have HZ0 : Hid (Kp14 w3 SS (.slice hp hs.length hc) hs (.slice lp fs.length lc) (.slice sp ss.length sc) W8 ∧ W8.heap[Z]? = some (.cells #[.slice lp fs.length lc, .slice sp ss.length sc] 46 (0, 0))) := by
        rw [← hW8, ← hZ]
        exact ⟨HI.out.on ((Below.refl _ _).alloc (Nat.le_refl _) _), heap_alloc_new wr _⟩
      clear HI hi hgi hlt
      go_wp2_with fail
      try rw [hZ]
      try rw [hW8]
      clear hW8 hZ
      go_loopg [92] 2 (fun gg vj wr2 => ∃ j : Nat, vj = .int .i64 j ∧ j ≤ 2 ∧ 2 - j ≤ gg ∧ Hid (Kp14 w3 SS (.slice hp hs.length hc) hs (.slice lp fs.length lc) (.slice sp ss.length sc) wr2 ∧ wr2.heap[Z]? = some (.cells #[.slice lp fs.length lc, .slice sp ss.length sc] 46 (0, 0))))
      case atStart => exact ⟨0, rfl, by omega, by omega, HZ0.out⟩
      case round =>
        clear HZ0
        obtain ⟨j, rfl, hj, hgj, HJ⟩ := hrel
        by_cases hjt : j < 2
        · have hjz : (j : Int) < 2 := by omega
          have hj0 : (0 : Int) ≤ j := by omega
          obtain ⟨mp, mn, mc, z0, hmn, HMF⟩ : ∃ mp mn mc, wr.cell? ⟨Z, j, none⟩ = some (.slice mp mn mc) ∧ mn ≤ 2400000000000 ∧ Hid (∀ W, Kp14 w3 SS (.slice hp hs.length hc) hs (.slice lp fs.length lc) (.slice sp ss.length sc) W → FdE w3.heap.size SS W (.slice mp mn mc)) := by
            rcases (show j = 0 ∨ j = 1 by omega) with rfl | rfl
            · exact ⟨lp, fs.length, lc, by rw [Lib.cell_of_heap HJ.out.2]; rfl, hfl, fun W h => h.lf⟩
            · exact ⟨sp, ss.length, sc, by rw [Lib.cell_of_heap HJ.out.2]; rfl, hsl, fun W h => h.sf⟩
          have HJ0 := hid HJ.out
          clear HJ
          go_wp2_with fail
          clear z0
          go_loopg [98] mn (fun gg vi wr3 => ∃ i : Nat, vi = .int .i64 i ∧ i ≤ mn ∧ mn - i ≤ gg ∧ Hid (Kp14 w3 SS (.slice hp hs.length hc) hs (.slice lp fs.length lc) (.slice sp ss.length sc) wr3 ∧ wr3.heap[Z]? = some (.cells #[.slice lp fs.length lc, .slice sp ss.length sc] 46 (0, 0))))
          case atStart => exact ⟨0, rfl, by omega, by omega, HJ0.out⟩
          case round =>
            clear HJ0
            obtain ⟨i, rfl, hi, hgi, HI⟩ := hrel
            by_cases hlt : i < mn
            · have hltz : (i : Int) < (mn : Int) := by omega
              have hiz : (0 : Int) ≤ i := by omega
              obtain ⟨g, cs, u, rfl, hg, hNg, hu6, hSu, _, _⟩ := (HMF.out wr HI.out.1).form hlt
              obtain ⟨up, un, uc, rfl, _⟩ := HI.out.1.wip.each u hSu
              have HWI := hid (wipe14_any w3.heap.size SS _ wr HI.out.1.wip hSu)
              clear hg
              go_wp2_with fail
              refine HWI.out.mono ?_
              rintro e w7 ⟨rfl, h1, h2⟩
              have hk7 := HI.out.1.wiped h1 h2
              have hz7 := Wfr.box h2 HI.out.2 (by decide) (by decide)
              obtain ⟨g', cs', u', hg', hgb, hNg', _, _, hcc, hff⟩ := (HMF.out w7 hk7).form hlt
              injection hg' with hg'
              injection hg' with hg' _ _
              subst hg'
              obtain ⟨r0, t0⟩ := hcc (i * 7) (by omega)
              obtain ⟨r1, t1⟩ := hcc (i * 7 + 1) (by omega)
              obtain ⟨r2, t2⟩ := hcc (i * 7 + 2) (by omega)
              obtain ⟨r3, t3⟩ := hcc (i * 7 + 3) (by omega)
              obtain ⟨r4, t4⟩ := hcc (i * 7 + 4) (by omega)
              obtain ⟨r5, t5⟩ := hcc (i * 7 + 5) (by omega)
              obtain ⟨r6, t6⟩ := hcc (i * 7 + 6) (by omega)
              have l0 := hff (i * 7)
              have l1 := hff (i * 7 + 1)
              have l2 := hff (i * 7 + 2)
              have l3 := hff (i * 7 + 3)
              have l4 := hff (i * 7 + 4)
              have l5 := hff (i * 7 + 5)
              have l6 := hff (i * 7 + 6)
              have hcl := hk7.clear HSN.out hNg' hgb i
              have hzg : Z ≠ g := fun e => by
                rw [e, hgb] at hz7
                injection hz7 with hz7
                injection hz7 with _ hz7
                exact absurd hz7 (by decide)
              have HN : Hid (Kp14 w3 SS (.slice hp hs.length hc) hs (.slice lp fs.length lc) (.slice sp ss.length sc) (setFrom w7 g (i * 7) 0 [.string ⟨#[]⟩, .string ⟨#[]⟩, .int .i64 0, .int .u64 0, .int .i64 0, .bool false, .slice none 0 0]) ∧ (setFrom w7 g (i * 7) 0 [.string ⟨#[]⟩, .string ⟨#[]⟩, .int .i64 0, .int .u64 0, .int .i64 0, .bool false, .slice none 0 0]).heap[Z]? = some (.cells #[.slice lp fs.length lc, .slice sp ss.length sc] 46 (0, 0))) := ⟨hcl.1, (hcl.2 Z hzg).trans hz7⟩
              clear h1 h2 hk7 hz7 hgb hcc hff hcl hzg HWI HI hu6 hSu
              go_wp2_with fail
              go_roundg (mn - (i + 1))
              case measure => omega
              exact ⟨i + 1, by go_num, by omega, by omega, HN.out⟩
            · have hltz : ¬ (i : Int) < (mn : Int) := by omega
              go_wp2_with fail
              go_roundg (2 - (j + 1))
              case measure => omega
              exact ⟨j + 1, by go_num, by omega, by omega, HI.out⟩
        · have hjz : ¬ (j : Int) < 2 := by omega
          have b9 := HJ.out.1.bel
          obtain ⟨⟨c0, c1, c2, c3, c4⟩, ⟨x0, x1⟩, hds, _⟩ := HK.out wr b9
          have HSI : Hid (Calls Tryz.prog 20 #[.pointer (some ⟨ga, 0, none⟩), .agg #[.int .u64 qfl, .int .u64 qsn], .string qa, .int .u64 qt] wr fun e w' => ∃ L, PastSince DD qfl qsn qa qt L ∧ NwF wr L e w') := psince_any hds hl qfl qsn qa qt
          have HSL : Hid (∀ L, PastSince DD qfl qsn qa qt L → L.1.length ≤ 1760000000000) := fun L hL => since_len14 hds hl hL
          have HOK := hid hds.ok
          have HB9 := hid b9
          clear hds HJ
          go_wp2_with fail
          refine HSI.out.mono ?_
          rintro e wa ⟨L, hL, hnw⟩
          obtain ⟨pm, cm, fm, rfl, g1, g2, g3, g4, g5⟩ := hnw.rd (by have := HSL.out L hL; omega)
          have ba := bel_then b9 b9.size g5
          have HPL := hid hL
          have HG1 := hid g1
          have HG2 := hid g2
          have HG3 := hid g3
          have HBA := hid ba
          clear hnw g1 g2 g3 g5 hL HSI HSL c0 c1 c2 c3 c4 x0 x1 b9
          obtain ⟨⟨c0, c1, c2, c3, c4⟩, _, _, R, vs, xr, eR, lR, cR⟩ := HK.out wa ba
          have HRS : Hid (Calls Tryz.prog 21 #[.pointer (some ⟨gh, 0, none⟩), .int .u64 qfl, .int .u64 qsn, .string qa, .int .u64 qt] wa fun e w' => ∃ M, PastSince DD qfl qsn qa qt M ∧ RdF wa M e w') := by
            have := rpsince_any xr (by omega) (by rw [eR]; omega) qfl qsn qa qt
            rwa [eR] at this
          clear xr eR ba
          go_wp2_with fail
          refine HRS.out.mono ?_
          rintro e wb ⟨M, hM, pn, cn, fn, rfl, k1, k2, k3, k4, k5⟩
          obtain rfl : L = M := since_uniq HOK.out HPL.out hM fun _ => List.Perm.refl _
          have HSF : Hid (∀ W, Below wb.heap.size wb W → Calls Tryz.prog 16 #[.slice pm fm.length cm, .slice pn fn.length cn] W fun e w' => e = .returned (.bool true) ∧ Below W.heap.size W w') := fun W hW => by
            have hbW : Below wa.heap.size wa W := bel_then k5 k5.size hW
            exact eq14F (HG3.out.trans k3.symm) (Kind.is_kept HG1.out hbW) (Kind.is_kept k1 hW) (fun f hf => vat_on (HG2.out f hf) hbW) (fun f hf => vat_on (k2 f hf) hW) g4
          have bb := bel_then HBA.out HBA.out.size k5
          have HBB := hid bb
          obtain ⟨LL, code⟩ := L
          simp only at *
          clear hM k1 k2 k3 k5 HRS HPL HG1 HG2 HG3 c0 c1 c2 c3 c4 HBA HB9
          obtain ⟨⟨c0, c1, c2, c3, c4⟩, ⟨x0, x1⟩, _⟩ := HK.out wb bb
          have HN1 : Hid (Calls Tryz.prog 10 #[.pointer none, .agg #[.int .u64 qfl, .int .u64 qsn], .int .u64 qt, .agg #[.string qa, .string qb]] wb fun e w' => RdV wb (none, 1) e w') := pat_nil qfl qsn qt (qa, qb) wb
          clear bb
          go_wp2_with fail
          refine HN1.out.mono ?_
          rintro e wc ⟨xc, rfl, _, _, n1⟩
          obtain ⟨xn, xs, xt, xl, xp, xcc, xo⟩ := xc
          simp only [encVx, Vx.sl] at *
          obtain ⟨wd, hwd⟩ : ∃ wd, wc.alloc (.cells #[.int .i64 xn, .int .u64 xs, .int .i64 xt, .bool xl, .slice xp xo.length xcc] 39) = wd := ⟨_, rfl⟩
          have bd0 : Below wb.heap.size wb wd := by rw [← hwd]; exact bel_then n1 n1.size ((Below.refl _ _).alloc (Nat.le_refl _) _)
          have bd := bel_then HBB.out HBB.out.size bd0
          have HD0 := hid bd0
          clear n1 HN1 bd0 c0 c1 c2 c3 c4 x0 x1
          obtain ⟨⟨c0, c1, c2, c3, c4⟩, ⟨x0, x1⟩, _⟩ := HK.out wd bd
          have HN2 : Hid (Calls Tryz.prog 14 #[.pointer none, .agg #[.int .u64 qfl, .int .u64 qsn], .int .u64 qt, .string ⟨#[65]⟩, .slice none 0 0] wd fun e w' => e = .returned (.tuple #[.slice none 0 0, .int .i64 1]) ∧ Below wd.heap.size wd w') := pfind_nil qfl qsn qt ⟨#[65]⟩ _ wd
          have HBD := hid bd
          clear bd
          go_upto_region 26 with fail
          try rw [hwd]
          clear hwd
          go_wp2_with fail
          refine HN2.out.mono ?_
          rintro e we ⟨rfl, n2⟩
          have be := bel_then HBD.out HBD.out.size n2
          have HE0 := hid (bel_then HD0.out HD0.out.size n2)
          clear n2 HN2 HBD HD0 c0 c1 c2 c3 c4 x0 x1
          obtain ⟨⟨c0, c1, c2, c3, c4⟩, ⟨x0, x1⟩, _⟩ := HK.out we be
          have HN3 : Hid (Calls Tryz.prog 17 #[.pointer none, .agg #[.int .u64 qfl, .int .u64 qsn], .agg #[.string qa, .string qb], .int .u64 qt] we fun e w' => e = .returned (.tuple #[.slice none 0 0, .int .i64 1]) ∧ Below we.heap.size we w') := phist_nil qfl qsn (qa, qb) qt we
          have HBE := hid be
          clear be
          go_wp2_with fail
          refine HN3.out.mono ?_
          rintro e wf ⟨rfl, n3⟩
          have bf := bel_then HBE.out HBE.out.size n3
          have HF0 := hid (bel_then HE0.out HE0.out.size n3)
          clear n3 HN3 HBE HE0 c0 c1 c2 c3 c4 x0 x1
          obtain ⟨⟨c0, c1, c2, c3, c4⟩, ⟨x0, x1⟩, _⟩ := HK.out wf bf
          have HN4 : Hid (Calls Tryz.prog 20 #[.pointer none, .agg #[.int .u64 qfl, .int .u64 qsn], .string ⟨#[65]⟩, .int .u64 qt] wf fun e w' => e = .returned (.tuple #[.slice none 0 0, .int .i64 1]) ∧ Below wf.heap.size wf w') := psince_nil qfl qsn ⟨#[65]⟩ qt wf
          have HBF := hid bf
          clear bf
          go_wp2_with fail
          refine HN4.out.mono ?_
          rintro e wg ⟨rfl, n4⟩
          have bg := bel_then HBF.out HBF.out.size n4
          have HG0 := hid (bel_then HF0.out HF0.out.size n4)
          clear n4 HN4 HBF HF0 c0 c1 c2 c3 c4 x0 x1
          obtain ⟨⟨c0, c1, c2, c3, c4⟩, ⟨x0, x1⟩, _⟩ := HK.out wg bg
          have HN5 : Hid (Calls Tryz.prog 22 #[.pointer none, .agg #[.int .u64 qfl, .int .u64 qsn], .agg #[.string qa, .string qb], .int .i64 1] wg fun e w' => RdV wg (none, 1) e w') := pnum_nil qfl qsn (qa, qb) 1 wg
          have HBG := hid bg
          clear bg
          go_wp2_with fail
          refine HN5.out.mono ?_
          rintro e wh ⟨xc, rfl, _, _, n5⟩
          obtain ⟨yn, ys, yt, yl, yp, ycc, yo⟩ := xc
          simp only [encVx, Vx.sl] at *
          obtain ⟨wi, hwi⟩ : ∃ wi, wh.alloc (.cells #[.int .i64 yn, .int .u64 ys, .int .i64 yt, .bool yl, .slice yp yo.length ycc] 39) = wi := ⟨_, rfl⟩
          have bi0 : Below wg.heap.size wg wi := by rw [← hwi]; exact bel_then n5 n5.size ((Below.refl _ _).alloc (Nat.le_refl _) _)
          have HSF2 := hid (HSF.out wi (bel_then HG0.out HG0.out.size bi0))
          have HBI : Hid (Below w.heap.size w wi) := bel_then HB3.out HB3.out.size (bel_then HBG.out HBG.out.size bi0)
          clear n5 bi0 HN5 HSF HG0 HBG c0 c1 c2 c3 c4 x0 x1
          go_upto_region 30 with fail
          try rw [hwi]
          clear hwi
          go_wp2_with fail
          refine HSF2.out.mono ?_
          rintro e wj ⟨rfl, n6⟩
          have HBJ := hid (bel_then HBI.out HBI.out.size n6)
          clear n6 HSF2 HBI
          go_wp2_with fail
          go_ret
          exact ⟨rfl, HBJ.out⟩

end Go.Proofs.YticfpkodoghnnaaGreat

/-
  The chapter's examples (stage 14): fixed, over the contracts of package past.
-/
namespace Go.Proofs.YticfpkodoghnnaaGreat
open Go.RowKit

def gv1 : Vr := ⟨1, 2, 0, true, []⟩
def gv2 : Vr := ⟨2, 5, 0, true, []⟩
def gv3 : Vr := ⟨3, 9, 0, true, []⟩
def gD1 : List RowD := [(fxa, [gv1])]
def gD2 : List RowD := [(fxa, [gv1, gv2])]
def gD3 : List RowD := [(fxa, [gv1, gv2, gv3])]
theorem go1 : ofD gD1 fxa = [gv1] := by unfold gD1 ofD; rw [if_pos rfl]
theorem go2 : ofD gD2 fxa = [gv1, gv2] := by unfold gD2 ofD; rw [if_pos rfl]
theorem go3 : ofD gD3 fxa = [gv1, gv2, gv3] := by unfold gD3 ofD; rw [if_pos rfl]
theorem gc1 : codeD [] fxa 2 true [] = 0 := by unfold codeD; rw [if_pos fx_ka]; show putC [] 2 true [] = 0; unfold putC; rw [may_nil]; rfl
theorem gp1 : putD [] fxa 2 0 true [] = gD1 := by unfold putD; rw [if_pos gc1]; rfl
theorem gc2 : codeD gD1 fxa 5 true [] = 0 := by unfold codeD; rw [if_pos fx_ka, go1]; unfold putC; rw [may_nil]; rfl
theorem gp2 : putD gD1 fxa 5 0 true [] = gD2 := by unfold putD; rw [if_pos gc2, go1]; unfold gD1 setD; rw [totK.irr, if_neg (by simp), if_pos rfl]; rfl
theorem gc3 : codeD gD2 fxa 9 true [] = 0 := by unfold codeD; rw [if_pos fx_ka, go2]; unfold putC; rw [may_nil]; rfl
theorem gp3 : putD gD2 fxa 9 0 true [] = gD3 := by unfold putD; rw [if_pos gc3, go2]; unfold gD2 setD; rw [totK.irr, if_neg (by simp), if_pos rfl]; rfl
theorem ga1 : pastAt gD3 3 7 2 fxa = (none, 8) := by unfold pastAt; rw [if_pos (by decide)]
theorem ga2 : pastAt gD3 3 7 99 fxa = (some gv2, 0) := by unfold pastAt; rw [if_neg (by decide), go3]; rfl
theorem gh1 : pastHist gD3 3 7 fxa 3 = ([gv2], 0) := by unfold pastHist; rw [if_neg (by decide), go3]; rfl
theorem gn1 : pastNum (ofD gD3 fxa) 7 1 = (some gv1, 0) := by unfold pastNum; rw [if_neg (by decide), go3]; rfl
theorem gf1 : (pastFind gD3 3 7 6 fxT (matchM [])).1.length = 1 ∧ (pastFind gD3 3 7 6 fxT (matchM [])).2 = 0 := by
  unfold pastFind
  rw [if_neg (by decide)]
  refine ⟨?_, rfl⟩
  show (scanD gD3 fxT 6 (matchM [])).length = 1
  unfold scanD
  have : walkD gD3 6 = [(fxa, gv2)] := rfl
  rw [this]
  simp [fxa, fxT, matchM]
theorem gs1 {L : List Fnd × Int} (h : PastSince gD3 3 7 fxT 3 L) : L.1.length = 1 ∧ L.2 = 0 := by
  unfold PastSince at h
  rw [if_neg (by decide)] at h
  obtain ⟨h1, r, h2, _, h4⟩ := h
  refine ⟨?_, h1⟩
  rw [h4, (h2.filter _).length_eq]
  have : sinceD gD3 fxT 3 = [(fxa, gv2), (fxa, gv3)] := by
    unfold sinceD gD3
    have h3 : sinceV [gv1, gv2, gv3] 3 = [gv2, gv3] := rfl
    simp [fxa, fxT, h3]
  rw [this]
  rfl

theorem u64_lit {s : Int} (h0 : 0 ≤ s) (h : s ≤ 100) : U64 s := ⟨h0, by omega⟩
theorem fit_fxa : FitK fxa := by decide
theorem fit_nilX : FitX [] := ⟨by decide, fun x hx => by cases hx⟩
theorem isXs_nil14 (w : World) : IsXs w (.slice none ([] : List Fx).length 0) [] := ⟨none, 0, rfl, Or.inl rfl, fun x hx => by cases hx⟩

set_option maxHeartbeats 16000000 in
set_option maxRecDepth 100000 in
theorem fixed14_any (S : PastApi) : Fixed14 := by
  intro W
  have HN := hid (s_new W)
  obtain ⟨N, hN⟩ : ∃ N, W.heap.size = N := ⟨_, rfl⟩
  rw [hN] at HN
  go_enter Tryz.func8, Tryz.ntmps8
  go_wp2_with fail
  try rw [hN]
  refine HN.out.mono ?_
  rintro e w1 ⟨rfl, hs1, hb1⟩
  obtain ⟨K, hK⟩ : ∃ K, w1.heap.size = K := ⟨_, rfl⟩
  have hNK : N < K := by
    obtain ⟨m, G, h⟩ := hs1
    have h1 := (h.blk m (Or.inr (Or.inl rfl)))
    omega
  obtain ⟨hbb, e1, e2, hsz⟩ := two_boxes14 w1 #[.string fxa.1, .string fxa.2] #[.int .u64 2, .int .u64 5, .int .u64 9] 31 29
  obtain ⟨W2, hW2⟩ : ∃ W2, (w1.alloc (.cells #[.string fxa.1, .string fxa.2] 31)).alloc (.cells #[.int .u64 2, .int .u64 5, .int .u64 9] 29) = W2 := ⟨_, rfl⟩
  rw [hW2] at hbb e1 e2 hsz
  rw [hK] at e1 e2 hsz
  have hq2 : DirQ (fun b => b ≠ K ∧ b ≠ K + 1) N (N + 1) 0 [] W2 := by
    obtain ⟨m, G, h⟩ := hs1
    refine ⟨m, G, h.on hbb, fun b hb => ?_⟩
    have := (h.blk b hb).2
    omega
  have hbW2 : Below N W W2 := hb1.trans (hbb.mono (by omega))
  have HBX : Hid (∀ W' : World, W'.heap[K]? = W2.heap[K]? → W'.heap[K + 1]? = W2.heap[K + 1]? → (W'.cell? ⟨K, 0, none⟩ = some (.string ⟨#[65]⟩) ∧ W'.cell? ⟨K, 1, none⟩ = some (.string ⟨#[97]⟩)) ∧ W'.cell? ⟨K + 1, 0, none⟩ = some (.int .u64 2) ∧ W'.cell? ⟨K + 1, 1, none⟩ = some (.int .u64 5) ∧ W'.cell? ⟨K + 1, 2, none⟩ = some (.int .u64 9)) := fun W' a b => by
    have a' := a.trans e1
    have b' := b.trans e2
    exact ⟨⟨by rw [Lib.cell_of_heap a']; rfl, by rw [Lib.cell_of_heap a']; rfl⟩, by rw [Lib.cell_of_heap b']; rfl, by rw [Lib.cell_of_heap b']; rfl, by rw [Lib.cell_of_heap b']; rfl⟩
  have HS2 : Hid (W2.heap.size = K + 2) := hsz
  have HP : Hid (∀ (W' : World) (n : Nat) (D D' : List RowD) (s : Int), DirQ (fun b => b ≠ K ∧ b ≠ K + 1) N (N + 1) n D W' → K + 2 ≤ W'.heap.size → n ≤ 3 → 0 ≤ s → putD D fxa s 0 true [] = D' →
      Calls Tryz.prog 25 #[.pointer (some ⟨N + 1, 0, none⟩), .agg #[.string ⟨#[65]⟩, .string ⟨#[97]⟩], .int .u64 s, .int .i64 0, .bool true, .slice none 0 0] W' fun r w' => (∃ a b, r = .returned (.tuple #[.int .i64 a, .int .i64 b])) ∧ DirQ (fun b => b ≠ K ∧ b ≠ K + 1) N (N + 1) (n + 1) D' w' ∧ w'.heap[K]? = W'.heap[K]? ∧ w'.heap[K + 1]? = W'.heap[K + 1]? ∧ Below N W' w') := fun W' n D D' s hq hk hn h0 hD => by
    refine (q_put hq (fun b hb => ⟨by omega, by omega⟩) (by omega) fxa fit_fxa s 0 true (.slice none 0 0) [] [] (isXs_nil14 W') fit_nilX rfl h0).mono ?_
    rintro r w' ⟨h1, h2, h3, h4⟩
    rw [hD] at h2
    exact ⟨⟨_, _, h1⟩, h2, h3.block K (by omega) fun q => q.1 rfl, h3.block (K + 1) (by omega) fun q => q.2 rfl, h4⟩
  have HQ2 := hid hq2
  have HB2 := hid hbW2
  obtain ⟨⟨a0, a1⟩, b0, b1, b2⟩ := HBX.out W2 rfl rfl
  clear hs1 hb1 hbb e1 e2 hsz hq2 hbW2 HN
  simp only [fxa] at hW2
  go_wp2_with fail
  try rw [hK]
  try rw [hW2]
  clear hW2
  refine wp_loop_rounds 4 ?_
  rw [rounds_succ]
  go_wp2_with fail
  clear a0 a1 b0 b1 b2
  refine (HP.out W2 0 [] gD1 2 HQ2.out (by have := HS2.out; omega) (by omega) (by omega) gp1).mono ?_
  rintro e v1 ⟨⟨za, zb, rfl⟩, hq, h1, h2, hb⟩
  have HQ3 := hid hq
  have HS3 : Hid (v1.heap.size ≥ K + 2) := by show _ ≥ _; have := hb.size; have := HS2.out; omega
  have HB3 : Hid (Below N W v1) := HB2.out.trans hb
  have HE3 : Hid (v1.heap[K]? = W2.heap[K]? ∧ v1.heap[K + 1]? = W2.heap[K + 1]?) := ⟨h1, h2⟩
  obtain ⟨⟨a0, a1⟩, b0, b1, b2⟩ := HBX.out v1 HE3.out.1 HE3.out.2
  clear hq h1 h2 hb
  go_wp2_with fail
  rw [rounds_succ]
  go_wp2_with fail
  clear a0 a1 b0 b1 b2
  refine (HP.out v1 1 gD1 gD2 5 HQ3.out (by have := HS3.out; omega) (by omega) (by omega) gp2).mono ?_
  rintro e v2 ⟨⟨za, zb, rfl⟩, hq, h1, h2, hb⟩
  have HQ4 := hid hq
  have HS4 : Hid (v2.heap.size ≥ K + 2) := by show _ ≥ _; have := hb.size; have := HS3.out; omega
  have HB4 : Hid (Below N W v2) := HB3.out.trans hb
  have HE4 : Hid (v2.heap[K]? = W2.heap[K]? ∧ v2.heap[K + 1]? = W2.heap[K + 1]?) := ⟨h1.trans HE3.out.1, h2.trans HE3.out.2⟩
  obtain ⟨⟨a0, a1⟩, b0, b1, b2⟩ := HBX.out v2 HE4.out.1 HE4.out.2
  clear hq h1 h2 hb
  go_wp2_with fail
  rw [rounds_succ]
  go_wp2_with fail
  clear a0 a1 b0 b1 b2
  refine (HP.out v2 2 gD2 gD3 9 HQ4.out (by have := HS4.out; omega) (by omega) (by omega) gp3).mono ?_
  rintro e v3 ⟨⟨za, zb, rfl⟩, hq, h1, h2, hb⟩
  have HQ5 := hid hq
  have HS5 : Hid (v3.heap.size ≥ K + 2) := by show _ ≥ _; have := hb.size; have := HS4.out; omega
  have HB5 : Hid (Below N W v3) := HB4.out.trans hb
  have HE5 : Hid (v3.heap[K]? = W2.heap[K]? ∧ v3.heap[K + 1]? = W2.heap[K + 1]?) := ⟨h1.trans HE4.out.1, h2.trans HE4.out.2⟩
  obtain ⟨⟨a0, a1⟩, b0, b1, b2⟩ := HBX.out v3 HE5.out.1 HE5.out.2
  clear hq h1 h2 hb
  go_wp2_with fail
  rw [rounds_succ]
  obtain ⟨P, hP⟩ : ∃ P, v3.heap.size = P := ⟨_, rfl⟩
  obtain ⟨V, hV⟩ : ∃ V, v3.alloc (.cells #[.int .u64 3, .int .u64 7] 36) = V := ⟨_, rfl⟩
  have hal : Below v3.heap.size v3 V := by rw [← hV]; exact (Below.refl _ _).alloc (Nat.le_refl _) _
  have hpb : V.heap[P]? = some (.cells #[.int .u64 3, .int .u64 7] 36 (0, 0)) := by rw [← hV, ← hP]; exact heap_alloc_new v3 _
  have hPl : P < V.heap.size := (Array.getElem?_eq_some_iff.1 hpb).1
  have hKV : V.heap[K]? = W2.heap[K]? ∧ V.heap[K + 1]? = W2.heap[K + 1]? := by
    have hs := HS5.out
    exact ⟨(hal.block K (by omega)).trans HE5.out.1, (hal.block (K + 1) (by omega)).trans HE5.out.2⟩
  have HSV : Hid (V.heap.size > K + 2) := by show _ > _; have := HS5.out; omega
  have HBV : Hid (Below N W V) := HB5.out.trans (hal.mono (by have := HS5.out; omega))
  have HCV : Hid (∀ W', Below V.heap.size V W' → (W'.cell? ⟨K, 0, none⟩ = some (.string ⟨#[65]⟩) ∧ W'.cell? ⟨K, 1, none⟩ = some (.string ⟨#[97]⟩)) ∧ W'.cell? ⟨P, 0, none⟩ = some (.int .u64 3) ∧ W'.cell? ⟨P, 1, none⟩ = some (.int .u64 7)) := fun W' hW => by
    have e3 := (hW.block P hPl).trans hpb
    have hs := HSV.out
    have := HBX.out W' ((hW.block K (by omega)).trans hKV.1) ((hW.block (K + 1) (by omega)).trans hKV.2)
    exact ⟨this.1, by rw [Lib.cell_of_heap e3]; rfl, by rw [Lib.cell_of_heap e3]; rfl⟩
  have HDV : Hid (∀ W', Below V.heap.size V W' → DirS N (N + 1) 3 gD3 W') := fun W' hW => HQ5.out.s.on (bel_then hal hal.size hW)
  have h33 : (3 : Nat) ≤ 1760000000000 := by omega
  have HA1 : Hid (∀ W', Below V.heap.size V W' → Calls Tryz.prog 10 #[.pointer (some ⟨N + 1, 0, none⟩), .agg #[.int .u64 3, .int .u64 7], .int .u64 2, .agg #[.string ⟨#[65]⟩, .string ⟨#[97]⟩]] W' fun e w' => RdV W' (none, 8) e w') := fun W' hW => by
    have := S.at' (HDV.out W' hW) h33 3 7 2 fxa (u64_lit (by decide) (by decide)) (u64_lit (by decide) (by decide)) (u64_lit (by decide) (by decide)) fit_fxa
    rw [ga1] at this
    exact this
  have HA2 : Hid (∀ W', Below V.heap.size V W' → Calls Tryz.prog 10 #[.pointer (some ⟨N + 1, 0, none⟩), .agg #[.int .u64 3, .int .u64 7], .int .u64 99, .agg #[.string ⟨#[65]⟩, .string ⟨#[97]⟩]] W' fun e w' => RdV W' (some gv2, 0) e w') := fun W' hW => by
    have := S.at' (HDV.out W' hW) h33 3 7 99 fxa (u64_lit (by decide) (by decide)) (u64_lit (by decide) (by decide)) (u64_lit (by decide) (by decide)) fit_fxa
    rw [ga2] at this
    exact this
  have HHI : Hid (∀ W', Below V.heap.size V W' → Calls Tryz.prog 17 #[.pointer (some ⟨N + 1, 0, none⟩), .agg #[.int .u64 3, .int .u64 7], .agg #[.string ⟨#[65]⟩, .string ⟨#[97]⟩], .int .u64 3] W' fun e w' => RdVs W' ([gv2], 0) e w') := fun W' hW => by
    have := S.hist (HDV.out W' hW) h33 3 7 fxa 3 (u64_lit (by decide) (by decide)) (u64_lit (by decide) (by decide)) (u64_lit (by decide) (by decide)) fit_fxa
    rw [gh1] at this
    exact this
  have HSI : Hid (∀ W', Below V.heap.size V W' → Calls Tryz.prog 20 #[.pointer (some ⟨N + 1, 0, none⟩), .agg #[.int .u64 3, .int .u64 7], .string ⟨#[65]⟩, .int .u64 3] W' fun e w' => ∃ L, (L.1.length = 1 ∧ L.2 = 0) ∧ RdF W' L e w') := fun W' hW =>
    (S.since (HDV.out W' hW) h33 3 7 fxT 3 (u64_lit (by decide) (by decide)) (u64_lit (by decide) (by decide)) (u64_lit (by decide) (by decide))).mono fun e w' ⟨L, h1, h2⟩ => ⟨L, gs1 h1, h2⟩
  have HNU : Hid (∀ W', Below V.heap.size V W' → Calls Tryz.prog 22 #[.pointer (some ⟨N + 1, 0, none⟩), .agg #[.int .u64 3, .int .u64 7], .agg #[.string ⟨#[65]⟩, .string ⟨#[97]⟩], .int .i64 1] W' fun e w' => RdV W' (some gv1, 0) e w') := fun W' hW => by
    have := S.num (HDV.out W' hW) h33 3 7 fxa 1 (u64_lit (by decide) (by decide)) (u64_lit (by decide) (by decide)) fit_fxa (by decide) (by decide)
    rw [gn1] at this
    exact this
  have HFI : Hid (∀ W', Below V.heap.size V W' → Calls Tryz.prog 14 #[.pointer (some ⟨N + 1, 0, none⟩), .agg #[.int .u64 3, .int .u64 7], .int .u64 6, .string ⟨#[65]⟩, .slice none 0 0] W' fun e w' => ∃ L, (L.1.length = 1 ∧ L.2 = 0) ∧ RdF W' L e w') := fun W' hW =>
    (S.find (HDV.out W' hW) h33 3 7 6 fxT none 0 [] (u64_lit (by decide) (by decide)) (u64_lit (by decide) (by decide)) (u64_lit (by decide) (by decide)) (Kind.is_nil _ _) ⟨by decide, fun x hx => by cases hx⟩).mono fun e w' h => ⟨_, gf1, h⟩
  have HO8 : Hid (∀ W', Calls Tryz.prog 13 #[.agg #[.int .u64 3, .int .u64 7], .int .u64 8] W' fun e w' => e = .returned (.bool true) ∧ Below W'.heap.size W' w') := fun W' => S.opn W' 3 7 8
  have HO7 : Hid (∀ W', Calls Tryz.prog 13 #[.agg #[.int .u64 3, .int .u64 7], .int .u64 7] W' fun e w' => e = .returned (.bool false) ∧ Below W'.heap.size W' w') := fun W' => S.opn W' 3 7 7
  clear a0 a1 b0 b1 b2 hal hpb hPl hKV HP HQ2 HQ3 HQ4 HQ5 HB2 HB3 HB4 HB5 HS2 HS3 HS4 HS5 HE3 HE4 HE5 HBX HDV h33
  obtain ⟨⟨a0, a1⟩, p0, p1⟩ := HCV.out V (Below.refl _ _)
  go_upto_region 8 with fail
  try rw [hP]
  try rw [hV]
  clear hV hP
  go_wp2_with fail
  clear a0 a1 p0 p1
  refine (HA1.out V (Below.refl _ _)).mono ?_
  rintro e u1 ⟨x, rfl, hxv, _, hc1⟩
  obtain ⟨V1, hV1⟩ : ∃ V1, u1.alloc (.cells (encVx x).toArray 39) = V1 := ⟨_, rfl⟩
  have HD1 : Hid (Below V.heap.size V V1) := by rw [← hV1]; exact bel_then hc1 hc1.size ((Below.refl _ _).alloc (Nat.le_refl _) _)
  clear hxv hc1 HA1
  obtain ⟨xn, xs, xt, xl, xp, xc, xo⟩ := x
  simp only [encVx, Vx.sl] at *
  obtain ⟨⟨a0, a1⟩, p0, p1⟩ := HCV.out V1 HD1.out
  go_upto_region 9 with fail
  try rw [hV1]
  clear hV1
  go_wp2_with fail
  clear a0 a1 p0 p1
  refine (HA2.out V1 HD1.out).mono ?_
  rintro e u2 ⟨y, rfl, hyv, _, hc2⟩
  obtain ⟨Y, hY⟩ : ∃ Y, u2.heap.size = Y := ⟨_, rfl⟩
  obtain ⟨V2, hV2⟩ : ∃ V2, u2.alloc (.cells (encVx y).toArray 39) = V2 := ⟨_, rfl⟩
  have hyb : V2.heap[Y]? = some (.cells (encVx y).toArray 39 (0, 0)) := by rw [← hV2, ← hY]; exact heap_alloc_new u2 _
  have HD2 : Hid (Below V.heap.size V V2) := by rw [← hV2]; exact bel_then HD1.out HD1.out.size (bel_then hc2 hc2.size ((Below.refl _ _).alloc (Nat.le_refl _) _))
  have hyn : y.num = 2 := congrArg Vr.num hyv
  clear hyv hc2 HA2
  obtain ⟨yn, ys, yt, yl, yp, yc, yo⟩ := y
  simp only at hyn
  subst hyn
  simp only [encVx, Vx.sl] at *
  have HYB : Hid (∀ W', Below V2.heap.size V2 W' → W'.cell? ⟨Y, 0, none⟩ = some (.int .i64 2)) := fun W' hW => by
    have := (hW.block Y (Array.getElem?_eq_some_iff.1 hyb).1).trans hyb
    rw [Lib.cell_of_heap this]
    rfl
  clear hyb
  obtain ⟨⟨a0, a1⟩, p0, p1⟩ := HCV.out V2 HD2.out
  go_upto_region 10 with fail
  try rw [hY]
  try rw [hV2]
  clear hV2 hY
  go_wp2_with fail
  clear a0 a1 p0 p1
  refine (HHI.out V2 HD2.out).mono ?_
  rintro e u3 ⟨lp, lc, lo, rfl, _, _, hlm, _, hc3⟩
  have hll : lo.length = 1 := by simpa using congrArg List.length hlm
  have HD3 : Hid (Below V.heap.size V u3) := bel_then HD2.out HD2.out.size hc3
  have HE3 := hid hc3
  rw [hll]
  clear hlm hc3 HHI hll
  obtain ⟨⟨a0, a1⟩, p0, p1⟩ := HCV.out u3 HD3.out
  go_wp2_with fail
  clear a0 a1 p0 p1
  refine (HSI.out u3 HD3.out).mono ?_
  rintro e u4 ⟨⟨L1, L2⟩, ⟨hL1, hL2⟩, sp, sc, so, rfl, _, _, hsm, _, hc4⟩
  simp only at hL1 hL2 hsm
  have hsl : so.length = 1 := by rw [← hL1, ← hsm, List.length_map]
  subst hL2
  have HD4 : Hid (Below V.heap.size V u4) := bel_then HD3.out HD3.out.size hc4
  have HE4 := hid (bel_then HE3.out HE3.out.size hc4)
  simp only
  rw [hsl]
  clear hL1 hsm hsl hc4 HSI HE3
  obtain ⟨⟨a0, a1⟩, p0, p1⟩ := HCV.out u4 HD4.out
  go_wp2_with fail
  clear a0 a1 p0 p1
  refine (HNU.out u4 HD4.out).mono ?_
  rintro e u5 ⟨z, rfl, hzv, _, hc5⟩
  obtain ⟨Zb, hZ⟩ : ∃ Zb, u5.heap.size = Zb := ⟨_, rfl⟩
  obtain ⟨V5, hV5⟩ : ∃ V5, u5.alloc (.cells (encVx z).toArray 39) = V5 := ⟨_, rfl⟩
  have hzb : V5.heap[Zb]? = some (.cells (encVx z).toArray 39 (0, 0)) := by rw [← hV5, ← hZ]; exact heap_alloc_new u5 _
  have hal5 : Below u4.heap.size u4 V5 := by rw [← hV5]; exact bel_then hc5 hc5.size ((Below.refl _ _).alloc (Nat.le_refl _) _)
  have HD5 : Hid (Below V.heap.size V V5) := bel_then HD4.out HD4.out.size hal5
  have HE5 := hid (bel_then HE4.out HE4.out.size hal5)
  have hzs : z.stamp = 2 := congrArg Vr.stamp hzv
  clear hzv hc5 hal5 HNU HE4
  obtain ⟨zn, zs, zt, zl, zp, zc, zo⟩ := z
  simp only at hzs
  subst hzs
  simp only [encVx, Vx.sl] at *
  have HZB : Hid (∀ W', Below V5.heap.size V5 W' → W'.cell? ⟨Zb, 1, none⟩ = some (.int .u64 2)) := fun W' hW => by
    have := (hW.block Zb (Array.getElem?_eq_some_iff.1 hzb).1).trans hzb
    rw [Lib.cell_of_heap this]
    rfl
  clear hzb
  obtain ⟨⟨a0, a1⟩, p0, p1⟩ := HCV.out V5 HD5.out
  go_upto_region 13 with fail
  try rw [hZ]
  try rw [hV5]
  clear hV5 hZ
  go_wp2_with fail
  clear a0 a1 p0 p1
  refine (HFI.out V5 HD5.out).mono ?_
  rintro e u6 ⟨⟨M1, M2⟩, ⟨hM1, hM2⟩, fp, fc, fo, rfl, _, _, hfm, _, hc6⟩
  simp only at hM1 hM2 hfm
  have hfl : fo.length = 1 := by rw [← hM1, ← hfm, List.length_map]
  subst hM2
  have HD6 : Hid (Below V.heap.size V u6) := bel_then HD5.out HD5.out.size hc6
  have y0 := HYB.out u6 (bel_then HE5.out HE5.out.size hc6)
  have z0 := HZB.out u6 hc6
  simp only
  rw [hfl]
  clear hM1 hfm hfl hc6 HFI HE5 HYB HZB
  obtain ⟨⟨a0, a1⟩, p0, p1⟩ := HCV.out u6 HD6.out
  go_wp2_with fail
  clear a0 a1 p0 p1 y0 z0
  refine (HO8.out u6).mono ?_
  rintro e u7 ⟨rfl, hc7⟩
  have HD7 : Hid (Below V.heap.size V u7) := bel_then HD6.out HD6.out.size hc7
  clear hc7
  obtain ⟨⟨a0, a1⟩, p0, p1⟩ := HCV.out u7 HD7.out
  go_wp2_with fail
  clear a0 a1 p0 p1
  refine (HO7.out u7).mono ?_
  rintro e u8 ⟨rfl, hc8⟩
  have HD8 : Hid (Below N W u8) := HBV.out.trans ((bel_then HD7.out HD7.out.size hc8).mono (by have := HBV.out.size; omega))
  clear hc8
  go_wp2_with fail
  go_ret
  exact ⟨rfl, by rw [hN]; exact HD8.out⟩

end Go.Proofs.YticfpkodoghnnaaGreat

/-
  For every script and every question the Go function PastKeeps of package foliolaw14 returns true, and its arguments read behind the call as they read before; no condition; over the contracts of package past.
-/
namespace Go.Proofs.YticfpkodoghnnaaGreat
open Go.ChangeShapes Go.WideShapes Go.ChangeAt Go.RowKit Go.Joins

set_option maxRecDepth 100000 in
theorem pastkeeps_walked (S : PastApi) {H : Type} {enc : TypeId × Value → H} (W : World) (base : Nat) (args : Array Value) (ds gs : List (DataW H)) (before : List MemPlace)
    (hval : ∀ (j : Nat) t v, Tryz.f6.params[j]? = some t → args[j]? = some v → Value.okWide Tryz.prog W .any base t v)
    (hW : DataW.Whole enc Tryz.prog Tryz.f6.params.toList Rows.pastKeepsSpec.vars false W args.toList ds gs before)
    (hZ : (DataW.weightsEach Tryz.prog (Tryz.f6.params.toList ++ (OpenSpec.ofChange Rows.pastKeepsSpec).bare.plain.varTypes Tryz.prog) (ds ++ gs)).all (· ≤ reachBytes) = true) :
    Calls Tryz.prog 6 args W fun e W' => ∃ v, e = .returned v ∧ Rows.pastKeepsSpec.post enc Tryz.prog Tryz.f6 false true false false W args v W' := by
  have hW' := hW
  obtain ⟨p, q, hA0, hV, rfl, _, _⟩ := hW
  have hA : DataW.TrodAll enc Tryz.prog W 0 (fun _ => true) true Tryz.f6.params.toList args.toList ds p := hA0
  rw [Tryz.params6] at hA hval hZ
  obtain ⟨v0, vs0, d0, ds0, p0, q0, hargs, rfl, rfl, h0, r0⟩ := trodAll_cons hA
  obtain ⟨v1, vs1, d1, ds1, p1, q1, rfl, rfl, rfl, h1, r1⟩ := trodAll_cons r0
  obtain ⟨rfl, rfl, rfl⟩ := trodAll_nil r1
  obtain rfl : args = #[v0, v1] := by cases args; simp_all
  obtain ⟨rfl, rfl⟩ := trodVars_none hV
  have lt0 : ∀ x ∈ p0, x.block < W.heap.size := by obtain ⟨m, hm⟩ := h0; exact DataW.trod_lt m _ _ _ hm
  have lt1 : ∀ x ∈ p1, x.block < W.heap.size := by obtain ⟨m, hm⟩ := h1; exact DataW.trod_lt m _ _ _ hm
  have k0 := h0
  have k1 := h1
  have hwalk : Calls Tryz.prog 6 #[v0, v1] W fun e w' => e = .returned (.bool true) ∧ Below W.heap.size W w' := by
    have z0 : ∀ n ∈ d0.weights Tryz.prog 22, n ≤ reachBytes := fun n hn => by
      have := List.all_eq_true.1 hZ n (DataW.weights_mem_each (j := 0) rfl rfl n hn)
      simpa using this
    have z1 : ∀ n ∈ d1.weights Tryz.prog 34, n ≤ reachBytes := fun n hn => by
      have := List.all_eq_true.1 hZ n (DataW.weights_mem_each (j := 1) rfl rfl n hn)
      simpa using this
    obtain ⟨l, hl1, hl2, hl3, hl4⟩ := open_putsP (hval 0 22 v0 rfl rfl) h0 z0
    obtain ⟨q, rfl, hq⟩ := open_ask1P (hval 1 34 v1 rfl rfl) h1 z1
    exact keeps14_any (fixed14_any S) v0 l q W hl1 hl2 hq hl3
  clear hA0
  refine hwalk.mono fun o W' ⟨he, bel⟩ => ?_
  subst he
  exact ⟨_, rfl, _, _, _, [], _, [], hW', trodAll_mk1 (shut_bool Tryz.underlying4 _),
    (trodAll_cons_mk (Below.trod Tryz.laidOut (by kernel_rfl) (of_decide_eq_true (by kernel_rfl)) k0 bel lt0) (trodAll_cons_mk (Below.trod Tryz.laidOut (by kernel_rfl) (of_decide_eq_true (by kernel_rfl)) k1 bel lt1) trodAll_mk0)), rfl, bel.frame _, fun h => by cases h⟩

set_option maxRecDepth 100000 in
theorem pastkeeps_free (S : PastApi) (os : Os) (started : os.Started) (H : Type) (enc : TypeId × Value → H) :
    ReturnsInHanded {} Tryz.checked os 6 .any (Rows.pastKeepsSpec.pre6 enc Tryz.prog Tryz.f6 Rows.pastKeepsRow.domain false) (Rows.pastKeepsSpec.post enc Tryz.prog Tryz.f6 false true false false) := by
  refine returnsInHanded_of_change_sized (C := Tryz.checked) Tryz.own started (by kernel_rfl) Tryz.func6
    (ChangeSpec.witness6 (enc := enc) (C := Tryz.checked) false ⟨#[], #[.slice none 0 0, .agg #[.int .u64 0, .int .u64 0, .int .u64 0, .string ⟨#[]⟩, .string ⟨#[]⟩, .slice none 0 0, .int .i64 0]], []⟩ 8 (by kernel_rfl) (by kernel_rfl) (by kernel_rfl) (by kernel_rfl)) ?_
  intro W base args ds gs before hval hW _ hZ _
  exact pastkeeps_walked S W base args ds gs before hval hW hZ

theorem pastkeeps_of (S : PastApi) : Rows.PastKeepsSaid :=
  OpenClaim.holds_of_wide 6 Tryz.f6 rfl rfl rfl rfl rfl rfl rfl ⟨rfl, rfl, rfl, rfl, rfl⟩ rfl rfl rfl rfl rfl (by kernel_rfl) Tryz.func6 (by kernel_rfl)
    (of_decide_eq_true (by kernel_rfl)) (by unfold Func.isWrapper; first | (rw [if_pos (by decide +kernel)]; kernel_rfl) | (rw [if_neg (by decide +kernel)]; exact ⟨rfl, rfl⟩))
    (fun os started H enc _ => pastkeeps_free S os started H enc)

end Go.Proofs.YticfpkodoghnnaaGreat
