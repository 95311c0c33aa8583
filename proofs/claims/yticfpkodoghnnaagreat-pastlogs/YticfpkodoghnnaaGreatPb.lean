/-
  Texts of this claim, one behind the other: Cr0 Cr1 Cr2 Frm Stba Stbb Sor Tex Joa Job Stbc Stc Std Ste Stf Joc App Cb0 Enc0 Enc Cfr Cp1 Cp2 Cp3 Cp4 Cp5.
-/
import Derived.Test.YticfpkodoghnnaaGreatPa
import Derived.OwnWalk
import Derived.Deep.AppendLies
import Derived.Sort.LotA
import Derived.Shelf.SlSortCmp.KitK
import Derived.Sort.WalkB2
import Derived.Sort.WalkB12
import Derived.Deep.LoopGhost
import Derived.Deep.CutRange
import Derived.Laws.CopyOwn
import Derived.Maps.AppendAt
import Derived.Lib.AppendStr
/-
  The reference's chain in memory (stage 6): At.
-/
namespace Go.Proofs.YticfpkodoghnnaaGreat
open Go.RowKit

def zeroVx : Vx := ⟨0, 0, 0, false, none, 0, []⟩

/-- A chain of the reference in block g: all that was put, and how many of the first ones are gone. -/
structure RefC (w : World) (g : Nat) (d : List Vx) (gone : Nat) (vs : Value) : Prop where
  put : w.cell? ⟨g, 0, none⟩ = some vs
  gn : w.cell? ⟨g, 1, none⟩ = some (.int .i64 gone)
  f0 : w.frozen? ⟨g, 0, none⟩ = false
  f1 : w.frozen? ⟨g, 1, none⟩ = false
  is : KV.Is w vs d
  each : ∀ x ∈ d, x.at w ∧ FitX x.o
  le : gone ≤ d.length
  few : d.length ≤ 2400000000000
  far : ∀ W, w.grownBy W (some g) → KV.Is W vs d ∧ ∀ x ∈ d, x.at W

theorem cell_kept {w : World} {a : Addr} {v : Value} (o : Obj) (h : w.cell? a = some v) : (w.alloc o).cell? a = some v := (((Below.refl w.heap.size w).alloc (Nat.le_refl _) o).cell (cell_block h)).trans h

/-- What is visible at t, of the versions l. -/
def AnsX (l : List Vx) (t : Int) (x : Vx) (b : Bool) : Prop :=
  (b = true ∧ cutV (l.map Vx.ver) t ≠ 0 ∧ l[cutV (l.map Vx.ver) t - 1]? = some x) ∨ (b = false ∧ cutV (l.map Vx.ver) t = 0 ∧ x = zeroVx)

theorem ansX_none {d : List Vx} {gone : Nat} {t : Int} (hr : RiseV (d.map Vx.ver)) (h : ∀ j, (hj : j < d.length) → gone ≤ j → t < (d[j]).stamp) : AnsX (d.drop gone) t zeroVx false := by
  refine Or.inr ⟨rfl, ?_, rfl⟩
  rw [List.map_drop]
  refine cutV_uniq (rise_drop hr gone) (Nat.zero_le _) (fun i _ hi => by omega) (fun i hi _ => ?_)
  rw [List.length_drop, List.length_map] at hi
  rw [List.getElem_drop, List.getElem_map]
  exact h (gone + i) (by omega) (by omega)

theorem ansX_some {d : List Vx} {gone k : Nat} {t : Int} (hr : RiseV (d.map Vx.ver)) (hk : k < d.length) (hg : gone ≤ k) (hs : (d[k]).stamp ≤ t) (h : ∀ j, (hj : j < d.length) → k + 1 ≤ j → t < (d[j]).stamp) : AnsX (d.drop gone) t d[k] true := by
  have hc : cutV ((d.drop gone).map Vx.ver) t = k + 1 - gone := by
    rw [List.map_drop]
    refine cutV_uniq (rise_drop hr gone) (by rw [List.length_drop, List.length_map]; omega) (fun i hi hik => ?_) (fun i hi hik => ?_)
    · rw [List.length_drop, List.length_map] at hi
      rw [List.getElem_drop, List.getElem_map]
      show (d[gone + i]).stamp ≤ t
      rcases Nat.lt_or_ge (gone + i) k with hlt | hge
      · have := rise_lt hr hlt (by rw [List.length_map]; exact hk)
        rw [List.getElem_map, List.getElem_map] at this
        have this' : (d[gone + i]).stamp < (d[k]).stamp := this
        omega
      · have e : gone + i = k := by omega
        simp only [e]
        exact hs
    · rw [List.length_drop, List.length_map] at hi
      rw [List.getElem_drop, List.getElem_map]
      exact h (gone + i) (by omega) (by omega)
  refine Or.inl ⟨rfl, by rw [hc]; omega, ?_⟩
  rw [hc, List.getElem?_drop, show gone + (k + 1 - gone - 1) = k by omega, List.getElem?_eq_getElem hk]

/-- What At leaves. -/
def AtPost (w : World) (l : List Vx) (t : Int) (e : Ending) (w' : World) : Prop := (∃ x b, e = .returned (.tuple #[.agg (encVx x).toArray, .bool b]) ∧ AnsX l t x b) ∧ Below w.heap.size w w'

set_option maxHeartbeats 4000000 in
set_option maxRecDepth 100000 in
theorem rat_any (g gone : Nat) (d : List Vx) (vs : Value) (t : Int) (w : World) (hC : RefC w g d gone vs) (hr : RiseV (d.map Vx.ver)) :
    Calls Tryz.prog 34 #[.pointer (some ⟨g, 0, none⟩), .int .u64 t] w fun e w' => AtPost w (d.drop gone) t e w' := by
  obtain ⟨c0, c1, _, _, his, _, hle, hfew, _⟩ := hC
  obtain ⟨p, cap, rfl, hd⟩ := his
  have HD := hid hd
  have HR := hid hr
  have z0 := cell_kept (.cells #[.int .i64 0, .int .u64 0, .int .i64 0, .bool false, .slice none 0 0] 39) c0
  have z1 := cell_kept (.cells #[.int .i64 0, .int .u64 0, .int .i64 0, .bool false, .slice none 0 0] 39) c1
  have HBX : Hid (Below w.heap.size w (w.alloc (.cells #[.int .i64 0, .int .u64 0, .int .i64 0, .bool false, .slice none 0 0] 39))) := (Below.refl _ _).alloc (Nat.le_refl _) _
  clear hd hr c0 c1
  go_enter Tryz.func34, Tryz.ntmps34
  go_wp2_with fail
  go_loopg [6] d.length (fun gg vi wr => ∃ m : Nat, vi = .int .i64 ((m : Int) - 1) ∧ gone ≤ m ∧ m ≤ d.length ∧ m - gone ≤ gg ∧ wr = w.alloc (.cells #[.int .i64 0, .int .u64 0, .int .i64 0, .bool false, .slice none 0 0] 39) ∧ Hid (∀ j, (hj : j < d.length) → m ≤ j → t < (d[j]).stamp))
  case atStart => exact ⟨d.length, by go_num, hle, Nat.le_refl _, by omega, rfl, fun j hj h => by omega⟩
  case round =>
    obtain ⟨m, rfl, hm1, hm2, hgm, rfl, HJ⟩ := hrel
    by_cases hlt : gone < m
    · obtain ⟨k, rfl⟩ : ∃ k, m = k + 1 := ⟨m - 1, by omega⟩
      have e : ((k + 1 : Nat) : Int) - 1 = (k : Int) := by omega
      rw [e]
      have hkz : (gone : Int) ≤ (k : Int) := by omega
      have hk0 : (0 : Int) ≤ (k : Int) := by omega
      have hkl : (k : Int) < (d.length : Int) := by omega
      have hk : k < d.length := by omega
      obtain ⟨b1, o1, rfl, k1⟩ : ∃ b off, p = some ⟨b, off, none⟩ ∧ KV.At w b off d := by
        rcases HD.out with h | h
        · rw [h] at hk; simp at hk
        · exact h
      obtain ⟨y0, y1, y2, y3, y4⟩ := kv_at (Kind.at_kept k1 HBX.out) k hk
      have HS : Hid ((d[k]).stamp ≤ t → AnsX (d.drop gone) t d[k] true) := fun h => ansX_some HR.out hk (by omega) h HJ.out
      have HN : Hid (t < (d[k]).stamp → ∀ j, (hj : j < d.length) → k ≤ j → t < (d[j]).stamp) := fun h j hj hkj => by
        rcases Nat.lt_or_ge k j with h1 | h1
        · exact HJ.out j hj (by omega)
        · have e2 : j = k := by omega
          subst e2
          exact h
      generalize d[k] = x at *
      obtain ⟨xn, xs, xt, xl, xp, xc, xo⟩ := x
      simp only [Vx.sl] at y0 y1 y2 y3 y4 HS HN
      clear k1 e
      by_cases hs : xs ≤ t
      · have HA := hid (HS.out hs)
        go_wp2_with fail
        exact bodyPost_ret (v := .tuple #[.agg #[.int .i64 xn, .int .u64 xs, .int .i64 xt, .bool xl, .slice xp xo.length xc], .bool true]) (by simp [results, Tryz.results34, go_sem]) rfl
          ⟨⟨_, true, rfl, HA.out⟩, by
            first
            | exact (Below.refl _ _).alloc (Nat.le_refl _) _
            | exact (((((HBX.out.setCell (Nat.le_refl _) _).setCell (Nat.le_refl _) _).setCell (Nat.le_refl _) _).setCell (Nat.le_refl _) _).setCell (Nat.le_refl _) _)⟩
      · have hs' : t < xs := by omega
        have HA := hid (HN.out hs')
        go_wp2_with fail
        go_roundg (k - gone)
        case measure => omega
        exact ⟨k, by go_num, by omega, by omega, by omega, rfl, HA⟩
    · have hmz : ¬ (gone : Int) ≤ (m : Int) - 1 := by omega
      have HA := hid (ansX_none (gone := gone) HR.out (fun j hj h => HJ.out j hj (by omega)))
      go_wp2_with fail
      exact bodyPost_ret (v := .tuple #[.agg #[.int .i64 0, .int .u64 0, .int .i64 0, .bool false, .slice none 0 0], .bool false]) (by simp [results, Tryz.results34, go_sem]) rfl
        ⟨⟨zeroVx, false, rfl, HA.out⟩, by
          first
          | exact (Below.refl _ _).alloc (Nat.le_refl _) _
          | exact (((((HBX.out.setCell (Nat.le_refl _) _).setCell (Nat.le_refl _) _).setCell (Nat.le_refl _) _).setCell (Nat.le_refl _) _).setCell (Nat.le_refl _) _)⟩

/-- What Number leaves. -/
def NumPost (w : World) (d : List Vx) (gone : Nat) (n : Int) (e : Ending) (w' : World) : Prop :=
  (∃ x b, e = .returned (.tuple #[.agg (encVx x).toArray, .bool b]) ∧ ((b = true ∧ ∃ k : Nat, n = (k : Int) + 1 ∧ gone ≤ k ∧ d[k]? = some x) ∨ (b = false ∧ (n ≤ gone ∨ (d.length : Int) < n) ∧ x = zeroVx))) ∧ Below w.heap.size w w'

set_option maxHeartbeats 4000000 in
set_option maxRecDepth 100000 in
theorem rnum_any (g gone : Nat) (d : List Vx) (vs : Value) (n : Int) (w : World) (hC : RefC w g d gone vs) :
    Calls Tryz.prog 49 #[.pointer (some ⟨g, 0, none⟩), .int .i64 n] w fun e w' => NumPost w d gone n e w' := by
  obtain ⟨c0, c1, _, _, his, _, hle, hfew, _⟩ := hC
  obtain ⟨p, cap, rfl, hd⟩ := his
  have HD := hid hd
  have z0 := cell_kept (.cells #[.int .i64 0, .int .u64 0, .int .i64 0, .bool false, .slice none 0 0] 39) c0
  have z1 := cell_kept (.cells #[.int .i64 0, .int .u64 0, .int .i64 0, .bool false, .slice none 0 0] 39) c1
  have HBX : Hid (Below w.heap.size w (w.alloc (.cells #[.int .i64 0, .int .u64 0, .int .i64 0, .bool false, .slice none 0 0] 39))) := (Below.refl _ _).alloc (Nat.le_refl _) _
  clear hd c0 c1
  by_cases h1 : n ≤ (gone : Int)
  · have HA : Hid (n ≤ (gone : Int) ∨ (d.length : Int) < n) := Or.inl h1
    go_enter Tryz.func49, Tryz.ntmps49
    go_wp2_with fail
    exact bodyPost_ret (v := .tuple #[.agg #[.int .i64 0, .int .u64 0, .int .i64 0, .bool false, .slice none 0 0], .bool false]) (by simp [results, Tryz.results49, go_sem]) rfl
      ⟨⟨zeroVx, false, rfl, Or.inr ⟨rfl, HA.out, rfl⟩⟩, by
        first
        | exact (Below.refl _ _).alloc (Nat.le_refl _) _
        | exact (((((HBX.out.setCell (Nat.le_refl _) _).setCell (Nat.le_refl _) _).setCell (Nat.le_refl _) _).setCell (Nat.le_refl _) _).setCell (Nat.le_refl _) _)⟩
  · by_cases h2 : (d.length : Int) < n
    · have HA : Hid (n ≤ (gone : Int) ∨ (d.length : Int) < n) := Or.inr h2
      go_enter Tryz.func49, Tryz.ntmps49
      go_wp2_with fail
      exact bodyPost_ret (v := .tuple #[.agg #[.int .i64 0, .int .u64 0, .int .i64 0, .bool false, .slice none 0 0], .bool false]) (by simp [results, Tryz.results49, go_sem]) rfl
        ⟨⟨zeroVx, false, rfl, Or.inr ⟨rfl, HA.out, rfl⟩⟩, by
          first
          | exact (Below.refl _ _).alloc (Nat.le_refl _) _
          | exact (((((HBX.out.setCell (Nat.le_refl _) _).setCell (Nat.le_refl _) _).setCell (Nat.le_refl _) _).setCell (Nat.le_refl _) _).setCell (Nat.le_refl _) _)⟩
    · obtain ⟨k, rfl⟩ : ∃ k : Nat, n = (k : Int) + 1 := ⟨(n - 1).toNat, by omega⟩
      have hk : k < d.length := by omega
      have hk0 : (0 : Int) ≤ (k : Int) := by omega
      have hkl : (k : Int) < (d.length : Int) := by omega
      obtain ⟨b1, o1, rfl, k1⟩ : ∃ b off, p = some ⟨b, off, none⟩ ∧ KV.At w b off d := by
        rcases HD.out with h | h
        · rw [h] at hk; simp at hk
        · exact h
      obtain ⟨y0, y1, y2, y3, y4⟩ := kv_at (Kind.at_kept k1 HBX.out) k hk
      have HA : Hid (gone ≤ k ∧ d[k]? = some d[k]) := ⟨by omega, List.getElem?_eq_getElem hk⟩
      generalize d[k] = x at *
      obtain ⟨xn, xs, xt, xl, xp, xc, xo⟩ := x
      simp only [Vx.sl] at y0 y1 y2 y3 y4
      clear k1
      go_enter Tryz.func49, Tryz.ntmps49
      go_wp2_with fail
      exact bodyPost_ret (v := .tuple #[.agg #[.int .i64 xn, .int .u64 xs, .int .i64 xt, .bool xl, .slice xp xo.length xc], .bool true]) (by simp [results, Tryz.results49, go_sem]) rfl
        ⟨⟨_, true, rfl, Or.inl ⟨rfl, k, rfl, HA.out.1, HA.out.2⟩⟩, by
          first
          | exact (Below.refl _ _).alloc (Nat.le_refl _) _
          | exact (((((HBX.out.setCell (Nat.le_refl _) _).setCell (Nat.le_refl _) _).setCell (Nat.le_refl _) _).setCell (Nat.le_refl _) _).setCell (Nat.le_refl _) _)⟩

end Go.Proofs.YticfpkodoghnnaaGreat

/-
  The reference's chain (stage 6): Since.
-/
namespace Go.Proofs.YticfpkodoghnnaaGreat
open Go.RowKit

theorem Tryz.infoVer : (Tryz.prog.info? 39).map (fun i => (i.zero, i.size, i.bytes)) = some (some (.agg #[.int .i64 0, .int .u64 0, .int .i64 0, .bool false, .slice none 0 0]), 5, 56) := by kernel_rfl

def sinceX (l : List Vx) (t : Int) : List Vx := l.filter fun x => decide (t < x.stamp)

/-- Where the stamps rise, those above t are the rest. -/
theorem sinceX_drop : ∀ (l : List Vx) (t : Int), RiseV (l.map Vx.ver) → sinceX l t = l.drop (cutV (l.map Vx.ver) t)
  | [], _, _ => by simp [sinceX]
  | x :: l, t, hr => by
    rw [List.map_cons] at hr
    obtain ⟨h1, h2⟩ := List.pairwise_cons.1 hr
    rw [List.map_cons, cutV_cons]
    unfold sinceX
    by_cases h : x.ver.stamp ≤ t
    · rw [if_pos h, List.drop_succ_cons, ← sinceX_drop l t h2, List.filter_cons_of_neg (by have h' : x.stamp ≤ t := h; simpa using h')]
      rfl
    · rw [if_neg h, List.drop_zero]
      refine List.filter_eq_self.2 fun y hy => ?_
      rcases List.mem_cons.1 hy with rfl | hy
      · have h' : ¬ y.stamp ≤ t := h
        simpa using h'
      · have := h1 y.ver (List.mem_map.2 ⟨y, hy, rfl⟩)
        have h' : t < x.ver.stamp := Int.not_le.1 h
        have e : y.ver.stamp = y.stamp := rfl
        simp only [decide_eq_true_eq]
        omega

set_option maxHeartbeats 4000000 in
set_option maxRecDepth 100000 in
theorem rsince_any (g gone : Nat) (d : List Vx) (vs : Value) (t : Int) (w : World) (hC : RefC w g d gone vs) :
    Calls Tryz.prog 42 #[.pointer (some ⟨g, 0, none⟩), .int .u64 t] w fun e w' => ∃ u, e = .returned u ∧ KV.Own w.heap.size w' u (sinceX (d.drop gone) t) ∧ Below w.heap.size w w' := by
  obtain ⟨i0, hi0, hz0, hz1, hz2⟩ := info_parts Tryz.infoVer
  have HI := hid hi0
  obtain ⟨c0, c1, _, _, his, _, hle, hfew, _⟩ := hC
  obtain ⟨p, cap, rfl, hd⟩ := his
  have HD := hid hd
  have HG : Hid (∀ W, Below w.heap.size w W → W.cell? ⟨g, 0, none⟩ = some (.slice p d.length cap)) := fun W hW => (hW.cell (p := ⟨g, 0, none⟩) (cell_block c0)).trans c0
  clear hd hi0
  go_enter Tryz.func42, Tryz.ntmps42
  go_wp2_with fail
  clear c0 c1
  go_loopg [5, 6] d.length (fun gg vs vi wr => ∃ i : Nat, vi = .int .i64 i ∧ gone ≤ i ∧ i ≤ d.length ∧ d.length - i ≤ gg ∧ Hid (Below w.heap.size w wr) ∧ Hid (KV.Own w.heap.size wr vs (sinceX ((d.take i).drop gone) t)))
  case atStart => exact ⟨gone, rfl, Nat.le_refl _, hle, by omega, Below.refl _ _, by
    show KV.Own _ _ _ _
    rw [List.drop_eq_nil_of_le (by rw [List.length_take]; omega)]
    exact World.ownsRow_nil _ _ _ _⟩
  case round =>
    obtain ⟨i, rfl, hg1, hi, hgk, HB, HO⟩ := hrel
    have c0 := HG.out wr HB.out
    by_cases hlt : i < d.length
    · have hltz : (i : Int) < (d.length : Int) := by omega
      have hiz : (0 : Int) ≤ (i : Int) := by omega
      obtain ⟨b1, o1, rfl, k1⟩ : ∃ b off, p = some ⟨b, off, none⟩ ∧ KV.At w b off d := by
        rcases HD.out with h | h
        · rw [h] at hlt; simp at hlt
        · exact h
      obtain ⟨y0, y1, y2, y3, y4⟩ := kv_at (Kind.at_kept k1 HB.out) i hlt
      have hst : sinceX ((d.take (i + 1)).drop gone) t = sinceX ((d.take i).drop gone) t ++ (if t < (d[i]).stamp then [d[i]] else []) := by
        rw [List.take_succ_eq_append_getElem hlt, List.drop_append_of_le_length (by rw [List.length_take]; omega)]
        unfold sinceX
        rw [List.filter_append]
        by_cases h : t < (d[i]).stamp
        · rw [if_pos h]; simp [h]
        · rw [if_neg h]; simp [h]
      have hal : (sinceX ((d.take i).drop gone) t).length ≤ 2400000000000 := by
        unfold sinceX
        refine Nat.le_trans (List.length_filter_le _ _) ?_
        rw [List.length_drop, List.length_take]; omega
      obtain ⟨L, hL⟩ : ∃ L, sinceX ((d.take i).drop gone) t = L := ⟨_, rfl⟩
      rw [hL] at HO hst hal
      have HST := hid hst
      obtain ⟨x, hx⟩ : ∃ x, d[i] = x := ⟨_, rfl⟩
      rw [hx] at y0 y1 y2 y3 y4 HST
      have HN := hid (KV.news wr x)
      obtain ⟨xn, xs, xt, xl, xp, xc, xo⟩ := x
      simp only [Vx.sl] at y0 y1 y2 y3 y4 HST
      have hsz := HB.out.size
      clear k1 hst hL hx
      by_cases hs : t < xs
      · rw [if_pos hs] at HST
        go_wp2_with (first
          | (at_builtin; refine wpList_append_own _ rfl _ _ 51 rfl w.heap.size 39 i0 (.agg #[.int .i64 0, .int .u64 0, .int .i64 0, .bool false, .slice none 0 0]) 5 56 Tryz.underlying51 HI.out hz0 hz1 hz2 rfl (by decide) _ _ _ rfl (World.ownsRow.alloc HO.out _) _ 1 1 [.int .i64 xn, .int .u64 xs, .int .i64 xt, .bool xl, .slice xp xo.length xc] rfl rfl HN.out (by intro u hu; simp at hu; rcases hu with rfl | rfl | rfl | rfl | rfl <;> rfl) (by unfold maxLen; omega) (by omega) (by simp; omega) ?_; intro v4 w4 hown4 hg4 hnil4; have HO4 := hid hown4; have HG4 := hid hg4; clear hown4 hg4 hnil4))
        go_roundg (d.length - (i + 1))
        case measure => omega
        refine ⟨i + 1, by go_num, by omega, by omega, by omega, ?_, ?_⟩
        · exact (HB.out.alloc hsz _).grown HG4.out (by simp; omega) (fun k hk => (World.ownsRow.lt HO.out k hk).1)
        · rw [HST.out]
          exact Kind.own_snoc HO4.out rfl rfl
      · rw [if_neg hs, List.append_nil] at HST
        go_wp2_with fail
        go_roundg (d.length - (i + 1))
        case measure => omega
        refine ⟨i + 1, by go_num, by omega, by omega, by omega, HB.out, ?_⟩
        rw [HST.out]
        exact HO.out
    · have hltz : ¬ (i : Int) < (d.length : Int) := by omega
      have hti : d.take i = d := List.take_of_length_le (by omega)
      rw [hti] at HO
      clear hti
      go_wp2_with fail
      go_ret
      exact ⟨_, rfl, HO.out, HB.out⟩

end Go.Proofs.YticfpkodoghnnaaGreat

/-
  The reference's chain (stage 6): Last, All.
-/
namespace Go.Proofs.YticfpkodoghnnaaGreat
open Go.RowKit

theorem grown_below {w W : World} (hb : Below w.heap.size w W) (ob : Option Nat) : w.grownBy W ob := ⟨hb.os, hb.tape, hb.output, hb.size, fun k hk _ => hb.block k hk⟩

theorem grown_two {w1 w2 w3 : World} {ob : Option Nat} (h : w1.grownBy w2 ob) (k : w2.grownBy w3 ob) : w1.grownBy w3 ob :=
  ⟨k.os.trans h.os, k.tape.trans h.tape, k.output.trans h.output, Nat.le_trans h.size k.size, fun j hj hn => (k.block j (Nat.lt_of_lt_of_le hj h.size) hn).trans (h.block j hj hn)⟩

theorem RefC.on {w W : World} {g gone : Nat} {d : List Vx} {vs : Value} (h : RefC w g d gone vs) (hb : Below w.heap.size w W) : RefC W g d gone vs := by
  have hlt : g < w.heap.size := cell_block h.put
  refine ⟨(hb.cell (p := ⟨g, 0, none⟩) hlt).trans h.put, (hb.cell (p := ⟨g, 1, none⟩) hlt).trans h.gn, ?_, ?_, Kind.is_kept h.is hb, fun x hx => ⟨(h.each x hx).1.kept hb, (h.each x hx).2⟩, h.le, h.few, fun W2 h2 => h.far W2 (grown_two (grown_below hb _) h2)⟩
  · have := h.f0
    unfold World.frozen? at this ⊢
    rw [hb.block g hlt]
    exact this
  · have := h.f1
    unfold World.frozen? at this ⊢
    rw [hb.block g hlt]
    exact this

theorem kv_drop {w : World} {b off : Nat} {d : List Vx} (m : Nat) (h : KV.At w b off d) : KV.At w b (off + m * 5) (d.drop m) := fun i hi j u hu => by
  rw [List.length_drop] at hi
  have hu' : (KV.enc (d[m + i]'(by omega)))[j]? = some u := by rw [List.getElem_drop] at hu; exact hu
  have := h (m + i) (by omega) j u hu'
  have e : off + (m + i) * KV.k + j = off + m * 5 + i * KV.k + j := by rw [Nat.add_mul]; show off + (m * 5 + i * 5) + j = _; show _ = off + m * 5 + i * 5 + j; omega
  rwa [e] at this

set_option maxHeartbeats 4000000 in
set_option maxRecDepth 100000 in
theorem rall_any (g gone cap : Nat) (p : Option Addr) (d : List Vx) (w : World) (hC : RefC w g d gone (.slice p d.length cap)) (hcap : d.length ≤ cap) (hg : (d = [] ∧ p = none ∧ cap = 0 ∧ gone = 0) ∨ gone < d.length) :
    Calls Tryz.prog 76 #[.pointer (some ⟨g, 0, none⟩)] w fun e w' => ∃ u, e = .returned u ∧ KV.Is w u (d.drop gone) ∧ ∃ n, w' = w.drewN n := by
  have c0 := hC.put
  have c1 := hC.gn
  rcases hg with ⟨rfl, rfl, rfl, rfl⟩ | hg
  · clear hC hcap
    go_enter Tryz.func76, Tryz.ntmps76
    go_wp2_with fail
    go_quiet (fail)
    go_wp2_with fail
    go_ret
    exact ⟨_, rfl, ⟨_, _, rfl, Or.inl rfl⟩, _, rfl⟩
  · obtain ⟨b, off, rfl, hat⟩ : ∃ b off, p = some ⟨b, off, none⟩ ∧ KV.At w b off d := by
      obtain ⟨p', c', he, h⟩ := hC.is
      injection he with e1 _ _
      subst e1
      rcases h with h | h
      · rw [h] at hg; simp at hg
      · exact h
    have HI : Hid (KV.Is w (.slice (some ⟨b, off + gone * 5, none⟩) (d.length - gone) (cap - gone)) (d.drop gone)) := ⟨_, _, by rw [List.length_drop], Or.inr ⟨_, _, rfl, kv_drop gone hat⟩⟩
    have h1 : (0 : Int) ≤ (gone : Int) := by omega
    have h2 : (gone : Int) ≤ (d.length : Int) := by omega
    have h3 : (d.length : Int) ≤ (cap : Int) := by omega
    have h4 : (gone : Int) ≤ (cap : Int) := by omega
    have h5 : ¬ cap = gone := by omega
    clear hC hat hcap hg
    go_enter Tryz.func76, Tryz.ntmps76
    go_wp2_with fail
    go_quiet (fail)
    go_wp2_with fail
    go_ret
    exact ⟨_, rfl, HI.out, _, rfl⟩

theorem ansX_num {d : List Vx} {gone : Nat} {t : Int} {x : Vx} (hn : ∀ k, (h : k < d.length) → (d[k]).num = (k : Int) + 1) (hle : gone ≤ d.length) (h : AnsX (d.drop gone) t x true) :
    cutV ((d.drop gone).map Vx.ver) t ≠ 0 ∧ gone + cutV ((d.drop gone).map Vx.ver) t ≤ d.length ∧ x.num = (gone : Int) + cutV ((d.drop gone).map Vx.ver) t := by
  rcases h with ⟨_, h1, h2⟩ | ⟨h, _⟩
  · have hc := cutV_le ((d.drop gone).map Vx.ver) t
    rw [List.length_map, List.length_drop] at hc
    rw [List.getElem?_drop] at h2
    obtain ⟨hlt, he⟩ := List.getElem?_eq_some_iff.1 h2
    refine ⟨h1, by omega, ?_⟩
    rw [← he, hn _ hlt]
    omega
  · cases h

theorem RefC.set {w : World} {g gone : Nat} {d : List Vx} {vs : Value} (h : RefC w g d gone vs) (m : Nat) (hm : m ≤ d.length) : RefC (w.setCell ⟨g, 1, none⟩ (.int .i64 m)) g d m vs := by
  have hg : w.grownBy (w.setCell ⟨g, 1, none⟩ (.int .i64 m)) (some g) := grown_set w g 1 _
  have c0 := h.put
  have c1 := h.gn
  have f0 := h.f0
  have f1 := h.f1
  refine ⟨by simp [go_sem, c0], by simp [go_sem, c1], by simp [go_sem, f0], by simp [go_sem, f1], (h.far _ hg).1, fun x hx => ⟨(h.far _ hg).2 x hx, (h.each x hx).2⟩, hm, h.few, fun W2 h2 => h.far W2 (grown_two hg h2)⟩

/-- What Prune leaves. -/
def PrunePost (w : World) (g : Nat) (d : List Vx) (gone : Nat) (vs : Value) (f : Int) (e : Ending) (w' : World) : Prop :=
  ∃ n : Nat, e = .returned (.int .i64 n) ∧ n = pruneN ((d.drop gone).map Vx.ver) f ∧ RefC w' g d (gone + n) vs ∧ w.grownBy w' (some g)

set_option maxHeartbeats 4000000 in
set_option maxRecDepth 100000 in
theorem rprune_any (g gone : Nat) (d : List Vx) (vs : Value) (f : Int) (w : World) (hC : RefC w g d gone vs) (hr : RiseV (d.map Vx.ver)) (hn : ∀ k, (h : k < d.length) → (d[k]).num = (k : Int) + 1) :
    Calls Tryz.prog 57 #[.pointer (some ⟨g, 0, none⟩), .int .u64 f] w fun e w' => PrunePost w g d gone vs f e w' := by
  have HA := hid (rat_any g gone d vs f w hC hr)
  have HC := hid hC
  have HN := hid hn
  have hle := hC.le
  have hfew := hC.few
  clear hC hr hn
  go_enter Tryz.func57, Tryz.ntmps57
  go_wp2_with fail
  refine HA.out.mono ?_
  rintro e w1 ⟨⟨x, b, rfl, hx⟩, hq⟩
  have HQ := hid hq
  have HX := hid hx
  have HB1 : Hid (Below w.heap.size w (w1.alloc (.cells (encVx x).toArray 39))) := hq.alloc hq.size _
  have HCW := hid (HC.out.on HB1.out)
  obtain ⟨xn, xs, xt, xl, xp, xc, xo⟩ := x
  simp only [encVx, Vx.sl] at HB1 HCW ⊢
  clear hq hx HA
  cases b with
  | false =>
    have HP : Hid (pruneN ((d.drop gone).map Vx.ver) f = 0) := by
      rcases HX.out with ⟨h, _⟩ | ⟨_, h, _⟩
      · cases h
      · show _ = _; unfold pruneN; rw [h]
    go_wp2_with fail
    go_ret
    exact ⟨0, rfl, HP.out.symm, HCW.out, grown_below HB1.out _⟩
  | true =>
    obtain ⟨h1, h2, h3⟩ := ansX_num HN.out hle HX.out
    have h3' : xn = (gone : Int) + cutV ((d.drop gone).map Vx.ver) f := h3
    obtain ⟨c, hc⟩ : ∃ c, cutV ((d.drop gone).map Vx.ver) f = c := ⟨_, rfl⟩
    have HP : Hid (pruneN ((d.drop gone).map Vx.ver) f = c - 1) := by show _ = _; unfold pruneN; rw [hc]
    rw [hc] at h1 h2 h3'
    obtain ⟨c, rfl⟩ : ∃ c', c = c' + 1 := ⟨c - 1, by omega⟩
    have e1 : xn = (gone : Int) + c + 1 := by omega
    subst e1
    have z0 := HCW.out.gn
    have z1 := HCW.out.f1
    have HSET := hid (fun n => (HCW.out.on (bel_drewN (Below.refl _ _) n)).set (gone + c) (by omega))
    rw [Int.natCast_add] at HSET
    have HGR := hid (fun n => grown_two (grown_below (bel_drewN HB1.out n) (some g)) (grown_set ((w1.alloc (.cells #[.int .i64 ((gone : Int) + c + 1), .int .u64 xs, .int .i64 xt, .bool xl, .slice xp xo.length xc] 39)).drewN n) g 1 (.int .i64 ((gone : Int) + c))))
    have e2 : (gone : Int) + c + 1 - 1 = ((gone + c : Nat) : Int) := by omega
    have HE2 := hid e2
    clear h1 h3 h3' hc e2
    go_wp2_with fail
    go_quiet (fail)
    go_wp2_with fail
    go_ret
    refine ⟨c, ?_, by rw [HP.out]; omega, HSET.out _, HGR.out _⟩
    show Ending.returned (.int .i64 ((gone : Int) + c - gone)) = _
    rw [show (gone : Int) + c - gone = c by omega]

end Go.Proofs.YticfpkodoghnnaaGreat

/-
  Frames: which blocks have turned; and what of the rest stays.
-/
namespace Go.Proofs.YticfpkodoghnnaaGreat
open Go.RowKit

theorem own_same {w w' : World} {n0 : Nat} {e : TypeId} {size : Nat} {v : Value} {n : Nat} {xs : List Value} (h : w.ownsRow n0 e size v n xs) (hk : ∀ k, v.ownBlock = some k → w'.heap[k]? = w.heap[k]?) : w'.ownsRow n0 e size v n xs := by
  refine ⟨h.1, ?_⟩
  rcases h.2 with h2 | ⟨g, cap, cur, hv, h3, h4, h5⟩
  · exact Or.inl h2
  · exact Or.inr ⟨g, cap, cur, hv, h3, (hk g (by rw [hv]; rfl)).trans h4, h5⟩

/-- Only blocks of P, and new ones, have turned. -/
structure Fr (P : Nat → Prop) (w W : World) : Prop where
  os : W.os = w.os
  tape : W.tape = w.tape
  output : W.output = w.output
  size : w.heap.size ≤ W.heap.size
  block : ∀ k, k < w.heap.size → ¬ P k → W.heap[k]? = w.heap[k]?

theorem Fr.refl (P : Nat → Prop) (w : World) : Fr P w w := ⟨rfl, rfl, rfl, Nat.le_refl _, fun _ _ _ => rfl⟩
theorem Fr.draws {P : Nat → Prop} {w W : World} (h : Fr P w W) (n : Nat) : Fr P w (W.drewN n) := ⟨h.os, h.tape, h.output, h.size, h.block⟩

theorem Fr.then {P Q : Nat → Prop} {a b c : World} (h : Fr P a b) (k : Fr Q b c) (hQ : ∀ k, Q k → P k ∨ a.heap.size ≤ k) : Fr P a c :=
  ⟨k.os.trans h.os, k.tape.trans h.tape, k.output.trans h.output, Nat.le_trans h.size k.size, fun j hj hn => (k.block j (Nat.lt_of_lt_of_le hj h.size) fun hq => by
    rcases hQ j hq with h1 | h1
    · exact hn h1
    · omega).trans (h.block j hj hn)⟩

theorem Fr.mono {P Q : Nat → Prop} {w W : World} (h : Fr P w W) (hPQ : ∀ k, P k → Q k) : Fr Q w W := ⟨h.os, h.tape, h.output, h.size, fun k hk hn => h.block k hk fun hp => hn (hPQ k hp)⟩
theorem Fr.of_below {P : Nat → Prop} {w W : World} (h : Below w.heap.size w W) : Fr P w W := ⟨h.os, h.tape, h.output, h.size, fun k hk _ => h.block k hk⟩
theorem Fr.of_grown {P : Nat → Prop} {w W : World} {ob : Option Nat} (h : w.grownBy W ob) (hP : ∀ k, ob = some k → P k) : Fr P w W :=
  ⟨h.os, h.tape, h.output, h.size, fun k hk hn => h.block k hk fun e => hn (hP k e.symm)⟩
theorem Fr.below {P : Nat → Prop} {w W : World} (h : Fr P w W) {N : Nat} (hN : N ≤ w.heap.size) (hP : ∀ k, P k → N ≤ k) : Below N w W :=
  ⟨h.os, h.tape, h.output, h.size, fun k hk => h.block k (by omega) fun hp => by have := hP k hp; omega⟩

theorem Fr.row {P : Nat → Prop} {w W : World} {n0 : Nat} {e : TypeId} {size : Nat} {v : Value} {n : Nat} {xs : List Value} (f : Fr P w W) (h : w.ownsRow n0 e size v n xs) (hP : ∀ k, v.ownBlock = some k → ¬ P k) : W.ownsRow n0 e size v n xs :=
  own_same h fun k hk => f.block k (World.ownsRow.lt h k hk).2 (hP k hk)

theorem Fr.cell {P : Nat → Prop} {w W : World} {a : Addr} {v : Value} (f : Fr P w W) (h : w.cell? a = some v) (hP : ¬ P a.block) : W.cell? a = some v :=
  (World.cell?_of_block (f.block a.block (cell_block h) hP)).trans h

end Go.Proofs.YticfpkodoghnnaaGreat

/-
  The plain mathematics of a stable sort: parts that change places, and equals that keep their order.
-/
namespace Go.Proofs.YticfpkodoghnnaaGreat
open Go.Sort
set_option linter.unusedSectionVars false
variable {α : Type} [Inhabited α] {κ : Type} [DecidableEq κ]

/-- Equals keep their order. -/
def Stab (K : α → κ) (d d' : Array α) : Prop := ∀ c, d'.toList.filter (fun x => decide (K x = c)) = d.toList.filter (fun x => decide (K x = c))

theorem Stab.refl (K : α → κ) (d : Array α) : Stab K d d := fun _ => rfl
theorem Stab.trans {K : α → κ} {d d' d'' : Array α} (h : Stab K d d') (h' : Stab K d' d'') : Stab K d d'' := fun c => (h' c).trans (h c)

/-- The parts s to m and m to e have changed places. -/
def Rot (s m e : Nat) (d d' : Array α) : Prop :=
  d'.size = d.size ∧ (∀ t, t < e - m → d'[s + t]! = d[m + t]!) ∧ (∀ t, t < m - s → d'[s + (e - m) + t]! = d[s + t]!) ∧ (∀ i, i < s ∨ e ≤ i → d'[i]! = d[i]!)

theorem toList_range (d : Array α) : d.toList = (List.range' 0 d.size).map (fun i => d[i]!) := by
  have h := extract_toList d 0 d.size (Nat.le_refl _)
  rw [Array.extract_size, Nat.sub_zero] at h
  exact h

theorem range'_cut (s k l : Nat) : List.range' s (k + l) = List.range' s k ++ List.range' (s + k) l := by
  rw [← List.range'_append_1]

theorem map_range'_shift (f g : Nat → α) (s s' n : Nat) (h : ∀ t, t < n → f (s + t) = g (s' + t)) : (List.range' s n).map f = (List.range' s' n).map g := by
  apply List.ext_getElem
  · simp
  · intro i h1 h2
    simp only [List.length_map, List.length_range'] at h1
    simp only [List.getElem_map, List.getElem_range', Nat.one_mul]
    exact h i h1

theorem Rot.parts {s m e : Nat} {d d' : Array α} (h : Rot s m e d d') (hsm : s ≤ m) (hme : m ≤ e) (he : e ≤ d.size) :
    ∃ A L R B : List α, d.toList = A ++ L ++ R ++ B ∧ d'.toList = A ++ R ++ L ++ B ∧ L = (List.range' s (m - s)).map (fun i => d[i]!) ∧ R = (List.range' m (e - m)).map (fun i => d[i]!) := by
  obtain ⟨hz, h1, h2, h3⟩ := h
  refine ⟨(List.range' 0 s).map (fun i => d[i]!), _, _, (List.range' e (d.size - e)).map (fun i => d[i]!), ?_, ?_, rfl, rfl⟩
  · rw [toList_range]
    have e1 : d.size = s + (m - s) + (e - m) + (d.size - e) := by omega
    conv => lhs; rw [e1]
    rw [range'_cut, range'_cut, range'_cut]
    simp only [List.map_append]
    rw [show 0 + s = s by omega, show 0 + (s + (m - s)) = m by omega, show 0 + (s + (m - s) + (e - m)) = e by omega]
  · rw [toList_range, hz]
    have e1 : d.size = s + (e - m) + (m - s) + (d.size - e) := by omega
    conv => lhs; rw [e1]
    rw [range'_cut, range'_cut, range'_cut]
    simp only [List.map_append]
    rw [show 0 + s = s by omega, show 0 + (s + (e - m)) = s + (e - m) by omega, show 0 + (s + (e - m) + (m - s)) = e by omega]
    congr 1
    · congr 1
      · congr 1
        · exact map_range'_shift _ _ 0 0 s (fun t ht => h3 _ (Or.inl (by omega)))
        · exact map_range'_shift _ _ _ _ _ (fun t ht => h1 t ht)
      · exact map_range'_shift _ _ _ _ _ (fun t ht => h2 t ht)
    · exact map_range'_shift _ _ _ _ _ (fun t ht => h3 _ (Or.inr (by omega)))

theorem Rot.stab {K : α → κ} {s m e : Nat} {d d' : Array α} (h : Rot s m e d d') (hsm : s ≤ m) (hme : m ≤ e) (he : e ≤ d.size)
    (hK : ∀ i j, s ≤ i → i < m → m ≤ j → j < e → K d[i]! ≠ K d[j]!) : Stab K d d' := by
  obtain ⟨A, L, R, B, e1, e2, hL, hR⟩ := h.parts hsm hme he
  intro c
  rw [e1, e2]
  simp only [List.filter_append]
  have : L.filter (fun x => decide (K x = c)) = [] ∨ R.filter (fun x => decide (K x = c)) = [] := by
    rcases hl : L.filter (fun x => decide (K x = c)) with _ | ⟨x, l⟩
    · exact Or.inl rfl
    · right
      have hx : x ∈ L.filter (fun x => decide (K x = c)) := by rw [hl]; simp
      rw [List.filter_eq_nil_iff]
      intro y hy hyc
      simp only [decide_eq_true_eq] at hyc
      obtain ⟨hx1, hx2⟩ := List.mem_filter.1 hx
      simp only [decide_eq_true_eq] at hx2
      rw [hL, List.mem_map] at hx1
      rw [hR, List.mem_map] at hy
      obtain ⟨i, hi, rfl⟩ := hx1
      obtain ⟨j, hj, rfl⟩ := hy
      rw [List.mem_range'_1] at hi hj
      exact hK i j (by omega) (by omega) (by omega) (by omega) (hx2.trans hyc.symm)
  rcases this with h0 | h0 <;> rw [h0] <;> simp

theorem Rot.perm {s m e : Nat} {d d' : Array α} (h : Rot s m e d d') (hsm : s ≤ m) (hme : m ≤ e) (he : e ≤ d.size) : PermIn s e d d' := by
  obtain ⟨hz, h1, h2, h3⟩ := h
  refine ⟨hz, h3, ?_⟩
  rw [extract_toList _ _ _ (by omega), extract_toList _ _ _ he]
  have e1 : e - s = (m - s) + (e - m) := by omega
  have e2 : e - s = (e - m) + (m - s) := by omega
  conv => lhs; rw [e2]
  conv => rhs; rw [e1]
  rw [range'_cut, range'_cut]
  simp only [List.map_append]
  rw [map_range'_shift (fun i => d'[i]!) (fun i => d[i]!) s m (e - m) (fun t ht => h1 t ht), map_range'_shift (fun i => d'[i]!) (fun i => d[i]!) (s + (e - m)) s (m - s) (fun t ht => h2 t ht), show s + (m - s) = m by omega]
  exact List.perm_append_comm

/-- An exchange of neighbours is such a change of places. -/
theorem rot_swp (d : Array α) (j : Nat) (h : j + 1 < d.size) : Rot j (j + 1) (j + 2) d (swp d (j + 1) j) := by
  refine ⟨size_swp _ _ _, fun t ht => ?_, fun t ht => ?_, fun i hi => ?_⟩
  · obtain rfl : t = 0 := by omega
    exact swp_right d (j + 1) j (by omega)
  · obtain rfl : t = 0 := by omega
    rw [show j + (j + 2 - (j + 1)) + 0 = j + 1 by omega]
    exact swp_left d (j + 1) j h (by omega)
  · exact swp_other d (j + 1) j i (by omega) (by omega)

theorem swp_comm (d : Array α) (i j : Nat) : swp d i j = swp d j i := by
  rcases Nat.lt_trichotomy i j with h | h | h
  · unfold swp; rw [Array.setIfInBounds_comm _ _ (by omega)]
  · rw [h]
  · unfold swp; rw [Array.setIfInBounds_comm _ _ (by omega)]

/-- The insertion sort keeps the order of equals. -/
theorem insInner_stab {K : α → κ} {lt : α → α → Bool} (hK : ∀ x y, lt x y = true → K x ≠ K y) (a : Nat) : ∀ (j : Nat) (d : Array α), j < d.size → Stab K d (insInner lt a j d)
  | 0, d, _ => Stab.refl K d
  | j + 1, d, hj => by
    unfold insInner
    split
    · rename_i hc
      simp only [Bool.and_eq_true, decide_eq_true_eq] at hc
      refine Stab.trans ((rot_swp d j hj).stab (by omega) (by omega) (by omega) fun i i' h1 h2 h3 h4 => ?_) (insInner_stab hK a j _ (by rw [size_swp]; omega))
      obtain rfl : i = j := by omega
      obtain rfl : i' = i + 1 := by omega
      exact fun e => hK _ _ hc.2 e.symm
    · exact Stab.refl K d

theorem insInner_size {lt : α → α → Bool} (a : Nat) : ∀ (j : Nat) (d : Array α), (insInner lt a j d).size = d.size
  | 0, d => rfl
  | j + 1, d => by
    unfold insInner
    split
    · rw [insInner_size a j, size_swp]
    · rfl

theorem insOuter_stab {K : α → κ} {lt : α → α → Bool} (hK : ∀ x y, lt x y = true → K x ≠ K y) (a b : Nat) : ∀ (n i : Nat) (d : Array α), b - i ≤ n → b ≤ d.size → Stab K d (insOuter lt a b i d)
  | 0, i, d, hn, hb => by
    unfold insOuter
    rw [if_neg (by omega)]
    exact Stab.refl K d
  | n + 1, i, d, hn, hb => by
    unfold insOuter
    split
    · exact (insInner_stab hK a i d (by omega)).trans (insOuter_stab hK a b n (i + 1) _ (by omega) (by rw [insInner_size]; exact hb))
    · exact Stab.refl K d

theorem insertionSort_stab {K : α → κ} {lt : α → α → Bool} (hK : ∀ x y, lt x y = true → K x ≠ K y) (d : Array α) (a b : Nat) (hb : b ≤ d.size) : Stab K d (insertionSort lt d a b) :=
  insOuter_stab hK a b _ _ d (Nat.le_refl _) hb

/-- One step of the rotation, the left part longer. -/
theorem Rot.left {s m e j : Nat} {d dk d' : Array α} (hsm : s ≤ m) (hme : m ≤ e) (hj : j = e - m) (hij : j ≤ m - s) (hz : dk.size = d.size) (h1 : ∀ t, t < j → dk[s + t]! = d[m + t]!) (h2 : ∀ t, t < j → dk[m + t]! = d[s + t]!)
    (h3 : ∀ i, (i < s ∨ s + j ≤ i) → (i < m ∨ m + j ≤ i) → dk[i]! = d[i]!) (h : Rot (s + j) m e dk d') : Rot s m e d d' := by
  obtain ⟨k1, k2, k3, k4⟩ := h
  refine ⟨k1.trans hz, fun t ht => ?_, fun t ht => ?_, fun i hi => ?_⟩
  · rw [k4 _ (Or.inl (by omega))]; exact h1 t (by omega)
  · by_cases hlt : t < j
    · have := k2 t (by omega)
      rw [show s + (e - m) + t = s + j + t by omega, this]
      exact h2 t hlt
    · have := k3 (t - j) (by omega)
      rw [show s + (e - m) + t = s + j + (e - m) + (t - j) by omega, this, h3 _ (by omega) (by omega)]
      congr 1; omega
  · rw [k4 _ (by omega), h3 _ (by omega) (by omega)]

/-- One step of the rotation, the right part longer. -/
theorem Rot.right {s m e i : Nat} {d dk d' : Array α} (hsm : s ≤ m) (hme : m ≤ e) (hi : i = m - s) (hij : i ≤ e - m) (hz : dk.size = d.size) (h1 : ∀ t, t < i → dk[s + t]! = d[e - i + t]!) (h2 : ∀ t, t < i → dk[e - i + t]! = d[s + t]!)
    (h3 : ∀ x, (x < s ∨ s + i ≤ x) → (x < e - i ∨ e ≤ x) → dk[x]! = d[x]!) (h : Rot s m (e - i) dk d') : Rot s m e d d' := by
  obtain ⟨k1, k2, k3, k4⟩ := h
  refine ⟨k1.trans hz, fun t ht => ?_, fun t ht => ?_, fun x hx => ?_⟩
  · by_cases hlt : t < e - i - m
    · rw [k2 t hlt, h3 _ (by omega) (by omega)]
    · have := k3 (t - (e - i - m)) (by omega)
      rw [show s + t = s + (e - i - m) + (t - (e - i - m)) by omega, this, h1 _ (by omega)]
      congr 1; omega
  · rw [k4 _ (by omega), show s + (e - m) + t = e - i + t by omega]
    exact h2 t (by omega)
  · rw [k4 _ (by omega), h3 _ (by omega) (by omega)]

/-- The rotation's last step: both parts are as long. -/
theorem Rot.even {s m e i : Nat} {d d' : Array α} (hi : i = m - s) (hsm : s ≤ m) (hme : m ≤ e) (hij : i = e - m) (hz : d'.size = d.size) (h1 : ∀ t, t < i → d'[s + t]! = d[m + t]!) (h2 : ∀ t, t < i → d'[m + t]! = d[s + t]!)
    (h3 : ∀ x, (x < s ∨ s + i ≤ x) → (x < m ∨ m + i ≤ x) → d'[x]! = d[x]!) : Rot s m e d d' :=
  ⟨hz, fun t ht => h1 t (by omega), fun t ht => by rw [show s + (e - m) + t = m + t by omega]; exact h2 t (by omega), fun x hx => h3 x (by omega) (by omega)⟩

end Go.Proofs.YticfpkodoghnnaaGreat

/-
  The plain mathematics of a symmetric merge.
-/
namespace Go.Proofs.YticfpkodoghnnaaGreat
open Go.Sort
set_option linter.unusedSectionVars false
variable {α : Type} [Inhabited α] {κ : Type} [DecidableEq κ]

/-- What a merge of the part a to b leaves. -/
def Mrg (lt : α → α → Bool) (K : α → κ) (a b : Nat) (d d' : Array α) : Prop := PermIn a b d d' ∧ SortedIn lt a b d' ∧ Stab K d d'

theorem SWO.le_le {lt : α → α → Bool} (hS : SWO lt) {x y z : α} (h1 : lt y x = false) (h2 : lt z y = false) : lt z x = false := hS.ntrans _ _ _ h2 h1

theorem SWO.lt_le {lt : α → α → Bool} (hS : SWO lt) {x y z : α} (h1 : lt x y = true) (h2 : lt z y = false) : lt x z = true := by
  cases h : lt x z
  · exact absurd (hS.ntrans _ _ _ h h2) (by rw [h1]; simp)
  · rfl

theorem SWO.le_lt {lt : α → α → Bool} (hS : SWO lt) {x y z : α} (h1 : lt y x = false) (h2 : lt y z = true) : lt x z = true := by
  cases h : lt x z
  · exact absurd (hS.ntrans _ _ _ h1 h) (by rw [h2]; simp)
  · rfl

theorem SortedIn.le {lt : α → α → Bool} (hS : SWO lt) {a b : Nat} {d : Array α} (h : SortedIn lt a b d) {i j : Nat} (h1 : a ≤ i) (h2 : i ≤ j) (h3 : j < b) : lt d[j]! d[i]! = false := by
  rcases Nat.eq_or_lt_of_le h2 with rfl | h4
  · exact hS.irrefl _
  · exact h i j h1 h4 h3

/-- One step of the first shift: the element of place a has come to place k. -/
theorem Rot.shift_up {a k : Nat} {d dk : Array α} (h : Rot a (a + 1) (k + 1) d dk) (hak : a ≤ k) (hk : k + 1 < d.size) : Rot a (a + 1) (k + 2) d (swp dk k (k + 1)) := by
  obtain ⟨h1, h2, h3, h4⟩ := h
  refine ⟨by rw [size_swp, h1], fun t ht => ?_, fun t ht => ?_, fun i hi => ?_⟩
  · by_cases hlt : t < k + 1 - (a + 1)
    · rw [swp_other _ _ _ _ (by omega) (by omega)]; exact h2 t hlt
    · rw [show a + t = k by omega, swp_left _ _ _ (by omega) (by omega), h4 _ (Or.inr (by omega))]; congr 1; omega
  · obtain rfl : t = 0 := by omega
    rw [show a + (k + 2 - (a + 1)) + 0 = k + 1 by omega, swp_right _ _ _ (by omega)]
    have := h3 0 (by omega)
    rw [show a + (k + 1 - (a + 1)) + 0 = k by omega] at this
    exact this
  · rw [swp_other _ _ _ _ (by omega) (by omega)]; exact h4 _ (by omega)

/-- One step of the second shift: the element of place m has come to place k + 1. -/
theorem Rot.shift_down {k m : Nat} {d dk : Array α} (h : Rot (k + 1) m (m + 1) d dk) (hkm : k + 1 ≤ m) (hm : m < d.size) : Rot k m (m + 1) d (swp dk (k + 1) k) := by
  obtain ⟨h1, h2, h3, h4⟩ := h
  refine ⟨by rw [size_swp, h1], fun t ht => ?_, fun t ht => ?_, fun i hi => ?_⟩
  · obtain rfl : t = 0 := by omega
    show (swp dk (k + 1) k)[k]! = d[m + 0]!
    rw [swp_right _ _ _ (by omega)]
    exact h2 0 (by omega)
  · by_cases h0 : t = 0
    · subst h0
      rw [show k + (m + 1 - m) + 0 = k + 1 by omega, swp_left _ _ _ (by omega) (by omega), h4 _ (Or.inl (by omega)), Nat.add_zero]
    · rw [swp_other _ _ _ _ (by omega) (by omega)]
      have := h3 (t - 1) (by omega)
      rw [show k + 1 + (m + 1 - m) + (t - 1) = k + (m + 1 - m) + t by omega] at this
      rw [this]; congr 1; omega
  · rw [swp_other _ _ _ _ (by omega) (by omega)]; exact h4 _ (by omega)

theorem rot_none (s m : Nat) (d : Array α) : Rot s m m d d := by
  refine ⟨rfl, fun t ht => by omega, fun t _ => by rw [show s + (m - m) + t = s + t by omega], fun _ _ => rfl⟩

theorem rot_none' (m e : Nat) (d : Array α) : Rot m m e d d := by
  refine ⟨rfl, fun t _ => rfl, fun t ht => by omega, fun _ _ => rfl⟩

/-- What the four parts of a rotation hold. -/
theorem Rot.at1 {s m e : Nat} {d d' : Array α} (h : Rot s m e d d') {p : Nat} (h1 : s ≤ p) (h2 : p < s + (e - m)) : d'[p]! = d[p + (m - s)]! ∨ m < s := by
  by_cases hms : m < s
  · exact Or.inr hms
  · left
    have := h.2.1 (p - s) (by omega)
    rw [show s + (p - s) = p by omega] at this
    rw [this]; congr 1; omega

theorem Rot.lo {s m e : Nat} {d d' : Array α} (h : Rot s m e d d') (hsm : s ≤ m) {p : Nat} (h1 : s ≤ p) (h2 : p < s + (e - m)) : d'[p]! = d[p + (m - s)]! := by
  rcases h.at1 h1 h2 with h | h
  · exact h
  · omega

theorem Rot.hi {s m e : Nat} {d d' : Array α} (h : Rot s m e d d') {p : Nat} (h1 : s + (e - m) ≤ p) (h2 : p < e) (hme : m ≤ e) : d'[p]! = d[p - (e - m)]! := by
  have := h.2.2.1 (p - (s + (e - m))) (by omega)
  rw [show s + (e - m) + (p - (s + (e - m))) = p by omega] at this
  rw [this]; congr 1; omega

theorem Rot.out {s m e : Nat} {d d' : Array α} (h : Rot s m e d d') {p : Nat} (h1 : p < s ∨ e ≤ p) : d'[p]! = d[p]! := h.2.2.2 p h1

/-- THE ROTATION OF A SYMMETRIC MERGE: all that lies in the lower half is no greater than what lies in the upper one. -/
theorem Rot.merge {lt : α → α → Bool} {K : α → κ} (hS : SWO lt) (hK : ∀ x y, lt x y = true → K x ≠ K y) {a s m e b : Nat} {d d1 : Array α} (h : Rot s m e d d1) (has : a ≤ s) (hsm : s ≤ m) (hme : m ≤ e) (heb : e ≤ b) (hb : b ≤ d.size)
    (hL : SortedIn lt a m d) (hR : SortedIn lt m b d)
    (hlow : a < s → e < b → lt d[e]! d[s - 1]! = false) (hhigh : s < m → m < e → lt d[e - 1]! d[s]! = true) :
    PermIn a b d d1 ∧ Stab K d d1 ∧ SortedIn lt a s d1 ∧ SortedIn lt s (s + (e - m)) d1 ∧ SortedIn lt (s + (e - m)) e d1 ∧ SortedIn lt e b d1 ∧
      (∀ p q, a ≤ p → p < s + (e - m) → s + (e - m) ≤ q → q < b → lt d1[q]! d1[p]! = false) := by
  have hx : ∀ i j, s ≤ i → i < m → m ≤ j → j < e → lt d[j]! d[i]! = true := fun i j h1 h2 h3 h4 => by
    have t := hhigh (by omega) (by omega)
    exact SWO.lt_le hS (SWO.le_lt hS (SortedIn.le hS hR h3 (show j ≤ e - 1 by omega) (by omega)) t) (SortedIn.le hS hL has h1 h2)
  have hy : ∀ i j, a ≤ i → i < s → e ≤ j → j < b → lt d[j]! d[i]! = false := fun i j h1 h2 h3 h4 => by
    have t := hlow (by omega) (by omega)
    exact SWO.le_le hS (SWO.le_le hS (SortedIn.le hS hL h1 (show i ≤ s - 1 by omega) (by omega)) t) (SortedIn.le hS hR hme h3 h4)
  refine ⟨permIn_mono _ _ _ _ _ _ has heb hb (h.perm hsm hme (by omega)), h.stab hsm hme (by omega) (fun i j h1 h2 h3 h4 e => hK _ _ (hx i j h1 h2 h3 h4) e.symm), fun i j h1 h2 h3 => ?_, fun i j h1 h2 h3 => ?_, fun i j h1 h2 h3 => ?_, fun i j h1 h2 h3 => ?_, fun p q h1 h2 h3 h4 => ?_⟩
  · rw [h.out (Or.inl (by omega)), h.out (Or.inl (by omega))]; exact hL i j h1 h2 (by omega)
  · rw [h.lo hsm (by omega) (by omega), h.lo hsm (by omega) (by omega)]; exact hR _ _ (by omega) (by omega) (by omega)
  · rw [h.hi (by omega) (by omega) hme, h.hi (by omega) (by omega) hme]; exact hL _ _ (by omega) (by omega) (by omega)
  · rw [h.out (Or.inr (by omega)), h.out (Or.inr (by omega))]; exact hR i j (by omega) h2 (by omega)
  · by_cases c1 : p < s
    · rw [h.out (p := p) (Or.inl c1)]
      by_cases c2 : q < e
      · rw [h.hi h3 c2 hme]; exact SortedIn.le hS hL h1 (by omega) (by omega)
      · rw [h.out (Or.inr (by omega))]; exact hy p q h1 c1 (by omega) h4
    · rw [h.lo (p := p) hsm (by omega) h2]
      by_cases c2 : q < e
      · rw [h.hi h3 c2 hme]; exact SWO.asymmA hS (hx _ _ (by omega) (by omega) (by omega) (by omega))
      · rw [h.out (Or.inr (by omega))]; exact SortedIn.le hS hR (by omega) (by omega) h4

/-- THE MERGE IS DONE: both halves are sorted, and nothing in the upper one is less than what is in the lower one. -/
theorem sorted_halves {lt : α → α → Bool} {a c b : Nat} {d1 d2 d3 : Array α} (hac : a ≤ c) (hcb : c ≤ b) (hb : b ≤ d1.size)
    (hX : ∀ p q, a ≤ p → p < c → c ≤ q → q < b → lt d1[q]! d1[p]! = false) (p2 : PermIn a c d1 d2) (s2 : SortedIn lt a c d2) (p3 : PermIn c b d2 d3) (s3 : SortedIn lt c b d3) :
    PermIn a b d1 d3 ∧ SortedIn lt a b d3 := by
  have z2 := p2.1
  have hX2 : ∀ q, c ≤ q → q < b → ∀ p, a ≤ p → p < c → lt d2[q]! d2[p]! = false := fun q h1 h2 => by
    rw [p2.2.1 q (Or.inr h1)]
    exact permIn_all d1 d2 a c (fun x => lt d1[q]! x = false) (by omega) p2 (fun p h3 h4 => hX p q h3 h4 h1 h2)
  have hX3 : ∀ p, a ≤ p → p < c → ∀ q, c ≤ q → q < b → lt d3[q]! d3[p]! = false := fun p h1 h2 => by
    rw [p3.2.1 p (Or.inl h2)]
    exact permIn_all d2 d3 c b (fun x => lt x d2[p]! = false) (by omega) p3 (fun q h3 h4 => hX2 q h3 h4 p h1 h2)
  refine ⟨permIn_trans _ _ _ _ _ (permIn_mono _ _ _ _ _ _ (Nat.le_refl _) hcb hb p2) (permIn_mono _ _ _ _ _ _ hac (Nat.le_refl _) (by omega) p3), fun i j h1 h2 h3 => ?_⟩
  by_cases c1 : i < c
  · by_cases c2 : j < c
    · rw [p3.2.1 i (Or.inl c1), p3.2.1 j (Or.inl c2)]; exact s2 i j h1 h2 c2
    · exact hX3 i h1 c1 j (by omega) h3
  · exact s3 i j (by omega) h2 h3

/-- The whole of a merge's general step. -/
theorem Mrg.of_rot {lt : α → α → Bool} {K : α → κ} (hS : SWO lt) (hK : ∀ x y, lt x y = true → K x ≠ K y) {a s m e b : Nat} {d d1 d2 d3 : Array α} (h : Rot s m e d d1) (has : a ≤ s) (hsm : s ≤ m) (hme : m ≤ e) (heb : e ≤ b) (hb : b ≤ d.size)
    (hL : SortedIn lt a m d) (hR : SortedIn lt m b d) (hlow : a < s → e < b → lt d[e]! d[s - 1]! = false) (hhigh : s < m → m < e → lt d[e - 1]! d[s]! = true)
    (m2 : Mrg lt K a (s + (e - m)) d1 d2) (m3 : Mrg lt K (s + (e - m)) b d2 d3) : Mrg lt K a b d d3 := by
  obtain ⟨p1, st1, _, _, _, _, hX⟩ := h.merge (K := K) hS hK has hsm hme heb hb hL hR hlow hhigh
  obtain ⟨p2, s2, st2⟩ := m2
  obtain ⟨p3, s3, st3⟩ := m3
  obtain ⟨p, s⟩ := sorted_halves (by omega) (by omega) (by rw [h.1]; exact hb) hX p2 s2 p3 s3
  exact ⟨permIn_trans _ _ _ _ _ p1 p, s, st1.trans (st2.trans st3)⟩

/-- A merge of parts one of which is empty, or that lie in order already, changes nothing. -/
theorem Mrg.none {lt : α → α → Bool} {K : α → κ} {a b : Nat} {d : Array α} (h : SortedIn lt a b d) : Mrg lt K a b d d := ⟨permIn_refl _ _ _, h, Stab.refl K d⟩

/-- The first small case: one element on the left. -/
theorem Mrg.one_left {lt : α → α → Bool} {K : α → κ} (hS : SWO lt) (hK : ∀ x y, lt x y = true → K x ≠ K y) {a i b : Nat} {d d' : Array α} (h : Rot a (a + 1) i d d') (hi : a + 1 ≤ i) (hib : i ≤ b) (hb : b ≤ d.size) (hR : SortedIn lt (a + 1) b d)
    (hlo : a + 1 < i → lt d[i - 1]! d[a]! = true) (hhi : i < b → lt d[i]! d[a]! = false) : Mrg lt K a b d d' := by
  have hL : SortedIn lt a (a + 1) d := fun i j h1 h2 h3 => by omega
  obtain ⟨p1, st1, _, s2, _, s4, hX⟩ := h.merge (K := K) hS hK (Nat.le_refl _) (by omega) hi hib hb hL hR (fun h => by omega) (fun _ h => hlo h)
  refine ⟨p1, fun p q h1 h2 h3 => ?_, st1⟩
  have e1 : a + (i - (a + 1)) = i - 1 := by omega
  rw [e1] at s2 hX
  by_cases c1 : p < i - 1
  · by_cases c2 : q < i - 1
    · exact s2 p q h1 h2 c2
    · exact hX p q h1 c1 (by omega) h3
  · by_cases c3 : p = i - 1
    · rw [h.out (p := q) (Or.inr (by omega)), h.hi (p := p) (by omega) (by omega) hi, show p - (i - (a + 1)) = a by omega]
      exact SWO.le_le hS (hhi (by omega)) (SortedIn.le hS hR (by omega) (show i ≤ q by omega) h3)
    · exact s4 p q (by omega) h2 h3

/-- The second small case: one element on the right. -/
theorem Mrg.one_right {lt : α → α → Bool} {K : α → κ} (hS : SWO lt) (hK : ∀ x y, lt x y = true → K x ≠ K y) {a i m : Nat} {d d' : Array α} (h : Rot i m (m + 1) d d') (hai : a ≤ i) (him : i ≤ m) (hb : m + 1 ≤ d.size) (hL : SortedIn lt a m d)
    (hlo : a < i → lt d[m]! d[i - 1]! = false) (hhi : i < m → lt d[m]! d[i]! = true) : Mrg lt K a (m + 1) d d' := by
  have hR : SortedIn lt m (m + 1) d := fun i j h1 h2 h3 => by omega
  obtain ⟨p1, st1, s1, _, s3, _, hX⟩ := h.merge (K := K) hS hK hai him (by omega) (Nat.le_refl _) hb hL hR (fun _ h => by omega) (fun h _ => by rw [show m + 1 - 1 = m by omega]; exact hhi h)
  rw [show i + (m + 1 - m) = i + 1 by omega] at s3 hX
  refine ⟨p1, fun p q h1 h2 h3 => ?_, st1⟩
  by_cases c1 : i + 1 ≤ q
  · by_cases c2 : i + 1 ≤ p
    · exact s3 p q c2 h2 h3
    · exact hX p q h1 (by omega) c1 h3
  · by_cases c3 : q = i
    · rw [h.lo (p := q) him (by omega) (by omega), h.out (p := p) (Or.inl (by omega)), show q + (m - i) = m by omega]
      exact SWO.le_le hS (SortedIn.le hS hL h1 (show p ≤ i - 1 by omega) (by omega)) (hlo (by omega))
    · exact s1 p q h1 h2 (by omega)

end Go.Proofs.YticfpkodoghnnaaGreat

/-
  The contracts of byName, and of slices.SortStableFunc over it where there are fewer than 20 fields.
-/
namespace Go.Proofs.YticfpkodoghnnaaGreat
open Go.RowKit Go.Sort Go.Lib

def cmpF (x y : Fx) : Int := Lib.compareBytes x.name.data.toList y.name.data.toList
theorem ltF (x y : Fx) : ltOf cmpF x y = decide (Lib.compareBytes x.name.data.toList y.name.data.toList < 0) := rfl

theorem swoF : SWO (ltOf cmpF) where
  irrefl x := by rw [ltF, (cb_zero _ _).2 rfl]; rfl
  trans x y z h1 h2 := by
    rw [ltF, decide_eq_true_iff] at *
    exact cb_lt_trans _ _ _ h1 h2
  ntrans x y z h1 h2 := by
    rw [ltF, decide_eq_false_iff_not] at *
    intro h
    have n1 := cb_neg x.name.data.toList y.name.data.toList
    have n2 := cb_neg y.name.data.toList z.name.data.toList
    rcases cb_range y.name.data.toList x.name.data.toList with h3 | h3 | h3
    · have h4 := cb_lt_trans _ _ _ (show Lib.compareBytes y.name.data.toList x.name.data.toList < 0 by omega) h
      exact h2 h4
    · have e := (cb_zero _ _).1 h3
      rw [e] at h2
      exact h2 h
    · omega

theorem ltF_ne (x y : Fx) (h : ltOf cmpF x y = true) : x.name ≠ y.name := by
  rw [ltF, decide_eq_true_iff] at h
  intro e
  rw [e, cb_self] at h
  omega

theorem encX_one (x : Fx) : ∀ v ∈ encX x, v.oneCell' = true := fun v hv => by simp [encX] at hv; rcases hv with rfl | rfl <;> rfl

/-- What a stable sort leaves. -/
def Sorts (w : World) (blk off : Nat) (d : Array Fx) (w' : World) : Prop :=
  ∃ d' n os, PermIn 0 d.size d d' ∧ SortedIn (ltOf cmpF) 0 d.size d' ∧ Stab Fx.name d d' ∧ w' = sortWorldK encX 2 w blk off n d' os

end Go.Proofs.YticfpkodoghnnaaGreat

/-
  The contracts of slices.Clone of texts, and of Texts.
-/
namespace Go.Proofs.YticfpkodoghnnaaGreat
open Go.RowKit

theorem cloneT_any (p : Option Addr) (cap : Nat) (ts : List ByteArray) (w : World) (h : TxtAt w p ts) (hs : ts.length * 16 ≤ 140737488355328) :
    Calls Tryz.prog 106 #[.slice p ts.length cap] w fun e w' => ∃ v, e = .returned v ∧ OwnT w.heap.size w' v ts ∧ Below w.heap.size w w' := by
  rcases h with rfl | ⟨b, off, rfl, hc⟩
  · cases p with
    | none =>
      refine (Tryz.slices_Clone_string_nil 0 cap w).mono ?_
      rintro e w' ⟨rfl, rfl⟩
      exact ⟨_, rfl, World.ownsRow_nil _ _ _ _, Below.refl _ _⟩
    | some a =>
      refine (Tryz.slices_Clone_string_zero a cap w).mono ?_
      rintro e w' ⟨v, rfl, ho, _, hb⟩
      exact ⟨_, rfl, ho, hb⟩
  · refine (Tryz.slices_Clone_string b off ts.length cap ts w (Nat.le_refl _) hs (fun j hj => ?_)).mono ?_
    · rw [hc j hj, List.getD_eq_getElem?_getD, List.getElem?_eq_getElem hj]; rfl
    · rintro e w' ⟨v, rfl, ho, _, hb⟩
      rw [List.take_length] at ho
      exact ⟨_, rfl, ho, hb⟩

/-- The texts of the first field of that name. -/
def textsOf (fs : List Fld) (n : ByteArray) : List ByteArray := ((fs.find? fun f => decide (f.1 = n)).map (·.2)).getD []

theorem textsOf_at (fs : List Fld) (n : ByteArray) (i : Nat) (hi : i < fs.length) (hn : ∀ j (h : j < i), (fs[j]'(by omega)).1 ≠ n) (he : fs[i].1 = n) : textsOf fs n = fs[i].2 := by
  unfold textsOf
  have : fs.find? (fun f => decide (f.1 = n)) = some fs[i] := by
    rw [List.find?_eq_some_iff_getElem]
    refine ⟨by simpa using he, i, hi, rfl, fun j hj => ?_⟩
    simpa using hn j hj
  rw [this]; rfl

theorem textsOf_no (fs : List Fld) (n : ByteArray) (hn : ∀ j (h : j < fs.length), fs[j].1 ≠ n) : textsOf fs n = [] := by
  unfold textsOf
  have : fs.find? (fun f => decide (f.1 = n)) = none := by
    rw [List.find?_eq_none]
    intro f hf
    obtain ⟨j, hj, rfl⟩ := List.mem_iff_getElem.1 hf
    simpa using hn j hj
  rw [this]; rfl

def TxPost (w : World) (ts : List ByteArray) (e : Ending) (w' : World) : Prop := (∃ v, e = .returned v ∧ OwnT w.heap.size w' v ts) ∧ Below w.heap.size w w'

set_option maxHeartbeats 4000000 in
set_option maxRecDepth 100000 in
theorem texts_any (v : Value) (nm : ByteArray) (d : List Fx) (w : World) (hv : IsXs w v d) (hf : FitX d) (h16 : ∀ x ∈ d, x.txt.length * 16 ≤ 140737488355328) :
    Calls Tryz.prog 92 #[v, .string nm] w fun e w' => TxPost w (textsOf (d.map Fx.fld) nm) e w' := by
  obtain ⟨p, cap, rfl, hd, ht⟩ := hv
  have HT := hid ht
  have HD := hid hd
  have H16 := hid h16
  have hl := hf.1
  unfold maxLen at hl
  clear ht hd hf h16
  go_enter Tryz.func92, Tryz.ntmps92
  go_wp2_with fail
  go_loopg [9] d.length (fun g vi wr => ∃ i : Nat, vi = .int .i64 i ∧ i ≤ d.length ∧ d.length - i ≤ g ∧ Grown w wr ∧ Hid (∀ j (h : j < d.length), j < i → d[j].name ≠ nm))
  case atStart => exact ⟨0, rfl, by omega, by omega, Grown.refl _, fun j _ h => by omega⟩
  case round =>
    obtain ⟨i, rfl, hi, hg, hb, HJ⟩ := hrel
    by_cases hlt : i < d.length
    · have hltz : (i : Int) < (d.length : Int) := by omega
      have hiz : (0 : Int) ≤ i := by omega
      obtain ⟨b, off, rfl, hxs⟩ : ∃ b off, p = some ⟨b, off, none⟩ ∧ XsAt w b off d := by
        rcases HD.out with h | h
        · subst h; simp at hlt
        · exact h
      obtain ⟨c0, c1⟩ := hxs.kept hb.below i hlt
      have hxi : (d[i]).at w := HT.out _ (List.getElem_mem hlt)
      have hs16 := H16.out _ (List.getElem_mem hlt)
      have hyes : d[i].name = nm → textsOf (d.map Fx.fld) nm = d[i].txt := fun e => by
        have := textsOf_at (d.map Fx.fld) nm i (by rw [List.length_map]; exact hlt) (fun j hj => by simp only [List.getElem_map]; exact HJ.out j (by omega) hj) (by simp only [List.getElem_map]; exact e)
        simpa [Fx.fld] using this
      have hnx : d[i].name ≠ nm → ∀ j (h : j < d.length), j < i + 1 → d[j].name ≠ nm := fun e j h hj => by
        by_cases ej : j = i
        · subst ej; exact e
        · exact HJ.out j h (by omega)
      obtain ⟨x, hx⟩ : ∃ x, d[i] = x := ⟨_, rfl⟩
      rw [hx] at c0 c1 hxi hs16 hyes hnx
      have HXI := hid hxi
      have HYES := hid hyes
      have HNX := hid hnx
      clear hxs hxi hx hyes hnx
      unfold Fx.sl at c1
      have hgW : Grown w (wr.alloc (.cells #[.string x.name, .slice x.p x.txt.length x.cap] 107)) := hb.alloc _
      have HGW := hid hgW
      have HCL := hid (cloneT_any x.p x.cap x.txt _ (HXI.out.kept hgW.below) hs16)
      clear hgW
      cases hq : (x.name.toList == nm.toList) with
      | true =>
        have hq2 : x.name = nm := by rw [toList_eq, decide_eq_true_eq] at hq; exact hq
        have HQ := hid (HYES.out hq2)
        clear hq2
        go_wp2_with (first | (go_at_call 106; refine HCL.out.mono ?_; rintro e w2 ⟨u, rfl, ho, hb2⟩))
        go_ret
        refine ⟨⟨_, rfl, ?_⟩, HGW.out.below.trans (hb2.mono HGW.out.below.size)⟩
        rw [HQ.out]
        exact own_weak ho HGW.out.below.size
      | false =>
        have hq2 : x.name ≠ nm := by rw [toList_eq, decide_eq_false_iff_not] at hq; exact hq
        have HQ := hid (HNX.out hq2)
        clear hq2
        go_wp2_with fail
        go_roundg (d.length - (i + 1))
        case measure => omega
        exact ⟨i + 1, by go_num, by omega, by omega, HGW.out, HQ.out⟩
    · have hltz : ¬ (i : Int) < (d.length : Int) := by omega
      have H0 : Hid (textsOf (d.map Fx.fld) nm = []) := textsOf_no _ _ (fun j hj => by
        rw [List.length_map] at hj
        simp only [List.getElem_map]
        exact HJ.out j hj (by omega))
      go_wp2_with fail
      go_ret
      refine ⟨⟨_, rfl, ?_⟩, hb.below⟩
      rw [H0.out]
      exact World.ownsRow_nil _ _ _ _

end Go.Proofs.YticfpkodoghnnaaGreat

/-
  Fields of one name taken as one: the plain mathematics, and the memory that joined works on.
-/
namespace Go.Proofs.YticfpkodoghnnaaGreat
open Go.RowKit Go.Sort Go.Lib

/-- One field more: its texts behind those of the last field, if that has its name. -/
def joinStep (o : List Fld) (f : Fld) : List Fld :=
  match o.getLast? with
  | some l => if l.1 = f.1 then o.dropLast ++ [(l.1, l.2 ++ f.2)] else o ++ [f]
  | none => [f]
def joinS (fs : List Fld) : List Fld := fs.foldl joinStep []
def totF (fs : List Fld) : Nat := (fs.map fun f => f.2.length).sum

theorem joinStep_nil (f : Fld) : joinStep [] f = [f] := rfl
theorem joinStep_same (o : List Fld) (l f : Fld) (h : l.1 = f.1) : joinStep (o ++ [l]) f = o ++ [(l.1, l.2 ++ f.2)] := by
  simp [joinStep, h]
theorem joinStep_other (o : List Fld) (l f : Fld) (h : l.1 ≠ f.1) : joinStep (o ++ [l]) f = o ++ [l] ++ [f] := by
  simp [joinStep, h]
theorem joinS_snoc (fs : List Fld) (f : Fld) : joinS (fs ++ [f]) = joinStep (joinS fs) f := by simp [joinS]

theorem totF_append (a b : List Fld) : totF (a ++ b) = totF a + totF b := by simp [totF]
theorem totF_one (f : Fld) : totF [f] = f.2.length := by simp [totF]
theorem totF_step (o : List Fld) (f : Fld) : totF (joinStep o f) = totF o + f.2.length := by
  rcases List.eq_nil_or_concat o with rfl | ⟨o', l, rfl⟩
  · rw [joinStep_nil, totF_one]; simp [totF]
  · rw [List.concat_eq_append]
    by_cases h : l.1 = f.1
    · rw [joinStep_same _ _ _ h, totF_append, totF_append, totF_one, totF_one, List.length_append]; omega
    · rw [joinStep_other _ _ _ h, totF_append, totF_one]
theorem totF_joinS (fs : List Fld) : totF (joinS fs) = totF fs := by
  have : ∀ (l o : List Fld), totF (l.foldl joinStep o) = totF o + totF l := by
    intro l
    induction l with
    | nil => intro o; simp [totF]
    | cons f l ih =>
      intro o
      rw [List.foldl_cons, ih, totF_step]
      have : totF (f :: l) = f.2.length + totF l := by simp [totF]
      omega
  have h := this fs []
  simpa [joinS, totF] using h
theorem joinStep_len (o : List Fld) (f : Fld) : (joinStep o f).length ≤ o.length + 1 := by
  rcases List.eq_nil_or_concat o with rfl | ⟨o', l, rfl⟩
  · simp [joinStep_nil]
  · rw [List.concat_eq_append]
    by_cases h : l.1 = f.1
    · rw [joinStep_same _ _ _ h]; simp
    · rw [joinStep_other _ _ _ h]; simp
theorem joinS_len (fs : List Fld) : (joinS fs).length ≤ fs.length := by
  have : ∀ (l o : List Fld), (l.foldl joinStep o).length ≤ o.length + l.length := by
    intro l
    induction l with
    | nil => intro o; simp
    | cons f l ih =>
      intro o
      rw [List.foldl_cons, List.length_cons]
      have h1 := ih (joinStep o f)
      have h2 := joinStep_len o f
      omega
  have h := this fs []
  simpa [joinS] using h
theorem totF_mem {fs : List Fld} {f : Fld} (h : f ∈ fs) : f.2.length ≤ totF fs := by
  obtain ⟨a, b, rfl⟩ := List.append_of_mem h
  have : totF (a ++ f :: b) = totF a + (f.2.length + totF b) := by simp [totF]
  omega

/-- The rows of texts of unlike fields are unlike rows. -/
def Apart (o : List Fx) : Prop := o.Pairwise fun x y => x.sl.ownBlock = none ∨ x.sl.ownBlock ≠ y.sl.ownBlock
def OwnJ (N : Nat) (w : World) (v : Value) (o : List Fx) : Prop := OwnXs N w v o ∧ Apart o

theorem OwnJ.on {N : Nat} {w w' : World} {v : Value} {o : List Fx} (h : OwnJ N w v o) (hb : Below w.heap.size w w') : OwnJ N w' v o := ⟨h.1.on hb, h.2⟩

theorem apart_snoc {o : List Fx} {x : Fx} (h : Apart o) (hx : ∀ y ∈ o, y.sl.ownBlock = none ∨ y.sl.ownBlock ≠ x.sl.ownBlock) : Apart (o ++ [x]) := by
  unfold Apart
  rw [List.pairwise_append]
  exact ⟨h, List.pairwise_singleton _ _, fun a ha b hb => by rw [List.mem_singleton] at hb; subst hb; exact hx a ha⟩

theorem apart_init {o : List Fx} {x : Fx} (h : Apart (o ++ [x])) : Apart o ∧ ∀ y ∈ o, y.sl.ownBlock = none ∨ y.sl.ownBlock ≠ x.sl.ownBlock := by
  unfold Apart at h
  rw [List.pairwise_append] at h
  exact ⟨h.1, fun y hy => h.2.2 y hy x (by simp)⟩

/-- A row of bytes, texts or fields, by what it is a row of. -/
theorem own_type {w : World} {n0 : Nat} {e : TypeId} {size : Nat} {v : Value} {n : Nat} {xs : List Value} {k : Nat} (h : w.ownsRow n0 e size v n xs) (hk : v.ownBlock = some k) : ∃ cs, w.heap[k]? = some (.cells cs e (0, 0)) := by
  rcases h.2 with ⟨rfl, _⟩ | ⟨g, cap, cur, rfl, _, hg, _⟩
  · cases hk
  · have : g = k := by simpa [Value.ownBlock] using hk
    subst this
    exact ⟨cur, hg⟩

/-- Whatever row of another kind stands while texts are appended. -/
theorem own_else {w w' : World} {n0 m0 : Nat} {e e' : TypeId} {size size' : Nat} {v u : Value} {n m : Nat} {xs ys : List Value} (h : w.ownsRow n0 e size v n xs) (hu : w.ownsRow m0 e' size' u m ys) (hne : e ≠ e') (hg : w.grownBy w' u.ownBlock) : w'.ownsRow n0 e size v n xs := by
  refine h.kept hg ?_
  rcases hv : v.ownBlock with _ | k
  · exact Or.inl rfl
  · right
    intro e2
    obtain ⟨cs, h1⟩ := own_type h hv
    obtain ⟨cs', h2⟩ := own_type hu e2.symm
    rw [h1] at h2
    injection h2 with h2
    injection h2 with _ h2
    exact hne h2

/-- The last field's texts have grown: what its row, and the rows of the others, are now. -/
theorem joined_grown {N : Nat} {w w4 : World} {o : List Fx} {x : Fx} {ts : List ByteArray} {g cap go cp : Nat} (h : OwnJ N w (.slice (some ⟨go, 0, none⟩) (o.length + 1) cp) (o ++ [x]))
    (hown : w4.ownsRow N 9 1 (.slice (some ⟨g, 0, none⟩) (x.txt.length + ts.length) cap) (x.txt.length + ts.length) (x.txt.map Value.string ++ ts.map Value.string))
    (hg : w.grownBy w4 x.sl.ownBlock) (hat : x.sl.ownBlock = some g ∨ g = w.heap.size) :
    w4.cell? ⟨go, o.length * 2 + 1, none⟩ = some x.sl ∧ w4.frozen? ⟨go, o.length * 2 + 1, none⟩ = false ∧
      OwnJ N (w4.setCell ⟨go, o.length * 2 + 1, none⟩ (.slice (some ⟨g, 0, none⟩) (x.txt.length + ts.length) cap)) (.slice (some ⟨go, 0, none⟩) (o.length + 1) cp) (o ++ [⟨x.name, some ⟨g, 0, none⟩, cap, x.txt ++ ts⟩]) := by
  obtain ⟨⟨hrow, htx⟩, hap⟩ := h
  obtain ⟨hap1, hap2⟩ := apart_init hap
  have hx := htx x (by simp)
  have hrow4 : w4.ownsRow N 107 2 (.slice (some ⟨go, 0, none⟩) (o.length + 1) cp) (o ++ [x]).length (cellsX (o ++ [x])) := own_else hrow hx (by decide) hg
  have hlen : (o ++ [x]).length = o.length + 1 := by simp
  rw [hlen] at hrow4
  have hget := cellsX_get (o ++ [x]) o.length (by simp)
  simp only [List.getElem_concat_length] at hget
  have c1 : w4.cell? ⟨go, o.length * 2 + 1, none⟩ = some x.sl := by rw [hrow4.cellAt _ (by omega)]; exact hget.2
  refine ⟨c1, hrow4.frozenAt _, ⟨?_, ?_⟩, ?_⟩
  · have hst := hrow4.stored (o.length * 2 + 1) (.slice (some ⟨g, 0, none⟩) (x.txt.length + ts.length) cap)
    have e1 : (cellsX (o ++ [x])).set (o.length * 2 + 1) (.slice (some ⟨g, 0, none⟩) (x.txt.length + ts.length) cap) = cellsX (o ++ [⟨x.name, some ⟨g, 0, none⟩, cap, x.txt ++ ts⟩]) := by
      rw [cellsX_append, cellsX_append, List.set_append_right _ _ (by rw [cellsX_len]; omega), cellsX_len]
      simp [cellsX, encX, Fx.sl]
    rw [e1] at hst
    rw [List.length_append]
    exact hst.1
  · intro y hy
    have hset : w4.grownBy (w4.setCell ⟨go, o.length * 2 + 1, none⟩ (.slice (some ⟨g, 0, none⟩) (x.txt.length + ts.length) cap)) (Value.slice (some ⟨go, 0, none⟩) (o.length + 1) cp).ownBlock := grown_set w4 go _ _
    rw [List.mem_append, List.mem_singleton] at hy
    rcases hy with hy | rfl
    · have hy0 := htx y (by simp [hy])
      have hy4 : w4.ownsRow N 9 1 y.sl y.txt.length (y.txt.map Value.string) := hy0.kept hg (hap2 y hy)
      exact own_else hy4 hrow4 (by decide) hset
    · have : w4.ownsRow N 9 1 (.slice (some ⟨g, 0, none⟩) (x.txt.length + ts.length) cap) (x.txt ++ ts).length ((x.txt ++ ts).map Value.string) := by
        rw [List.length_append, List.map_append]; exact hown
      show World.ownsRow _ N 9 1 (.slice (some ⟨g, 0, none⟩) (x.txt ++ ts).length cap) (x.txt ++ ts).length ((x.txt ++ ts).map Value.string)
      rw [List.length_append] at this ⊢
      exact own_else this hrow4 (by decide) hset
  · refine apart_snoc hap1 fun y hy => ?_
    have hy0 := htx y (by simp [hy])
    show y.sl.ownBlock = none ∨ y.sl.ownBlock ≠ some g
    rcases hat with hat | hat
    · rw [← hat]; exact hap2 y hy
    · rcases hb : y.sl.ownBlock with _ | k
      · exact Or.inl rfl
      · right
        have := (World.ownsRow.lt hy0 k hb).2
        intro e
        simp at e; omega

end Go.Proofs.YticfpkodoghnnaaGreat

/-
  The contracts of slices.Clone of fields, and of joined.
-/
namespace Go.Proofs.YticfpkodoghnnaaGreat
open Go.RowKit Go.Sort Go.Lib

theorem xs_cells {w : World} {b off : Nat} {d : List Fx} (h : XsAt w b off d) : ∀ j u, (cellsX d)[j]? = some u → w.cell? ⟨b, off + j, none⟩ = some u := by
  intro j u hj
  have hjl := (List.getElem?_eq_some_iff.1 hj).1
  rw [cellsX_len] at hjl
  obtain ⟨c0, c1⟩ := h (j / 2) (by omega)
  obtain ⟨g0, g1⟩ := cellsX_get d (j / 2) (by omega)
  rcases Nat.mod_two_eq_zero_or_one j with h2 | h2
  · have e : j / 2 * 2 = j := by omega
    rw [e] at c0 g0
    rw [g0] at hj
    rw [c0]; exact hj
  · have e : j / 2 * 2 + 1 = j := by omega
    rw [show off + j / 2 * 2 + 1 = off + j by omega] at c1
    rw [e] at g1
    rw [g1] at hj
    rw [c1]; exact hj

set_option maxHeartbeats 2000000 in
set_option maxRecDepth 100000 in
theorem cloneX_any (v : Value) (d : List Fx) (w : World) (hv : IsXs w v d) (hs : d.length * 40 ≤ 140737488355328) :
    Calls Tryz.prog 105 #[v] w fun e w' => ∃ u, e = .returned u ∧ w'.ownsRow w.heap.size 107 2 u d.length (cellsX d) ∧ Below w.heap.size w w' := by
  obtain ⟨i0, hi, hz0, hz1, hz2⟩ := info_parts Tryz.infoFld
  obtain ⟨p, cap, rfl, hd, _⟩ := hv
  have q22 : ∀ (w : World) (a : Option Addr) (n c n' c' : Nat), (binOp .eql 37 (.slice a n c) (.slice none n' c')).run Tryz.prog w = .ok (.bool a.isNone) w := fun w a n c n' c' => Lib.run_eql_slice_nil w _ _ a n c n' c' Tryz.underlying37
  have HD := hid hd
  clear hd
  cases p with
  | none =>
    have h0 : d = [] := by
      rcases HD.out with h | ⟨b, off, h, _⟩
      · exact h
      · cases h
    subst h0
    go_enter Tryz.func105, Tryz.ntmps105
    go_wp2_with fail
    go_ret
    exact ⟨_, rfl, World.ownsRow_nil _ _ _ _, Below.refl _ _⟩
  | some a =>
    have hcells : ∀ j u, (cellsX d)[j]? = some u → (w.alloc (.cells #[] 107)).cell? (a.add j) = some u := by
      rcases HD.out with h | ⟨b, off, h, hx⟩
      · subst h; intro j u hj; simp [cellsX] at hj
      · intro j u hj
        obtain rfl : a = ⟨b, off, none⟩ := by simpa using h
        rw [addr_add]
        have := xs_cells hx j u hj
        rw [World.cell?_alloc_lt _ _ ⟨b, off + j, none⟩ (cell_block this)]; exact this
    have HC := hid hcells
    clear hcells
    go_enter Tryz.func105, Tryz.ntmps105
    go_wp2_with (at_builtin; refine wpList_append_own _ rfl _ _ 37 rfl w.heap.size 107 i0 (.agg #[.string ⟨#[]⟩, .slice none 0 0]) 2 40 Tryz.underlying37 hi hz0 hz1 hz2 rfl (by decide) _ _ _ rfl (World.ownsRow_made w #[] 0 (Nat.le_refl _) (Nat.zero_le _) (by simp)) a d.length cap (cellsX d) rfl ?c0 ?c1 ?c2 ?c3 ?c4 ?c5 ?_)
    case c0 => exact cellsX_len d
    case c1 => exact HC.out
    case c2 => exact cellsX_one d
    case c3 => unfold maxLen; omega
    case c4 => omega
    case c5 => simp
    intro v' w1 hown hgrow hnil
    have hb1 : Below w.heap.size w w1 := ((Below.refl _ w).alloc (Nat.le_refl _) _).grown hgrow (by simp) (by intro k hk; simp [Value.ownBlock] at hk; omega)
    have HO : Hid (w1.ownsRow w.heap.size 107 2 v' d.length (cellsX d)) := hid (by simpa using hown)
    clear hown hgrow hnil
    go_wp2_with fail
    go_ret
    exact ⟨_, rfl, HO.out, hb1⟩

theorem flat_get (l : List Fx) (t : Nat) (h : t < l.length * 2) : (l.flatMap encX)[t]? = some (encX (l[t / 2]!))[t % 2]! := by
  induction l generalizing t with
  | nil => simp at h
  | cons x l ih =>
    rw [List.flatMap_cons]
    by_cases h2 : t < 2
    · rcases (show t = 0 ∨ t = 1 by omega) with rfl | rfl <;> simp [encX]
    · obtain ⟨u, rfl⟩ : ∃ u, t = u + 2 := ⟨t - 2, by omega⟩
      have hl : (encX x).length = 2 := rfl
      rw [List.getElem?_append_right (by omega), hl, show u + 2 - 2 = u by omega, ih u (by simp at h; omega), show (u + 2) / 2 = u / 2 + 1 by omega, show (u + 2) % 2 = u % 2 by omega]
      simp

theorem holds_of_heap {w : World} {g : Nat} {cur : Array Value} {e : TypeId} (d : Array Fx) (hheap : w.heap[g]? = some (.cells cur e (0, 0))) (htake : cur.toList.take (d.size * 2) = cellsX d.toList) : HoldsK encX 2 w g 0 d := by
  intro j hj
  rw [size_flatK] at hj
  have hg := flat_get d.toList j (by simpa using hj)
  have h1 : (cur.toList.take (d.size * 2))[j]? = some (encX (d.toList[j / 2]!))[j % 2]! := by rw [htake]; exact hg
  rw [List.getElem?_take_of_lt hj] at h1
  rw [get_flatK _ _ _ _ hj]
  constructor
  · simp only [World.cell?, hheap, Nat.zero_add]
    have he : d.toList[j / 2]! = d[j / 2]! := by
      rw [getElem!_pos d (j / 2) (by omega), getElem!_pos d.toList (j / 2) (by simp; omega)]; simp
    rw [← Array.getElem?_toList, h1, he]
    rfl
  · simp [World.frozen?, hheap]

theorem below_sortWorld {B : Nat} {w0 w : World} (h : Below B w0 w) (hB : B ≤ w.heap.size) (blk off n : Nat) (d : Array Fx) (os : Array Obj) (hb : B ≤ blk) : Below B w0 (sortWorldK encX 2 w blk off n d os) := by
  refine h.trans ⟨rfl, rfl, rfl, ?_, ?_⟩
  · simp [sortWorldK, putRowK]
  · intro k hk
    have hks : k < w.heap.size := by omega
    simp only [sortWorldK, Sort.grow, putRowK, putRow, mapBlock, Sort.ahead]
    rw [Array.getElem?_append_left (by simpa using hks), Array.getElem?_modify, if_neg (by omega)]

/-- What the sort of a row leaves, as fields. -/
theorem sorted_xs {w w' : World} {g : Nat} {d : Array Fx} (hH : HoldsK encX 2 w g 0 d) (hg : g < w.heap.size) (h : Sorts w g 0 d w') : ∃ d' : List Fx, d'.length = d.size ∧ XsAt w' g 0 d' ∧ d'.Perm d.toList ∧ (d'.Pairwise fun x y => ltOf cmpF y x = false) ∧ (∀ c, d'.filter (fun x => decide (x.name = c)) = d.toList.filter fun x => decide (x.name = c)) := by
  obtain ⟨e, n, os, hp, hs, hst, rfl⟩ := h
  have hsz : e.size = d.size := hp.1
  have hH2 : HoldsK encX 2 (sortWorldK encX 2 w g 0 n e os) g 0 e := by
    exact holdsK_grow encX 2 _ os g 0 _ (by simpa [putRowK] using hg) (holdsK_putRowK encX 2 (Sort.ahead w n) g 0 _ _ (holdsK_ahead encX 2 w n g 0 _ hH) hsz)
  refine ⟨e.toList, by simpa using hsz, fun i hi => ?_, ?_, ?_, hst⟩
  · have hi' : i < e.size := by simpa using hi
    have k0 := (hH2.cell (i := i) (c := 0) hi' (by simp)).1
    have k1 := (hH2.cell (i := i) (c := 1) hi' (by simp)).1
    have he : e[i]! = e.toList[i] := by rw [getElem!_pos e i hi']; simp
    rw [he] at k0 k1
    exact ⟨by simpa [encX] using k0, by simpa [encX, Nat.add_assoc] using k1⟩
  · have := hp.2.2
    have e1 : e.extract 0 d.size = e := by rw [← hsz]; simp
    have e2 : d.extract 0 d.size = d := by simp
    rw [e1, e2] at this
    exact this
  · rw [List.pairwise_iff_getElem]
    intro i j hi hj hij
    have hi' : i < e.size := by simpa using hi
    have hj' : j < e.size := by simpa using hj
    have := hs i j (Nat.zero_le _) hij (by omega)
    rw [getElem!_pos e i hi', getElem!_pos e j hj'] at this
    simpa using this

end Go.Proofs.YticfpkodoghnnaaGreat

/-
  The plain mathematics of a stable sort by blocks: sorted blocks, merged two by two.
-/
namespace Go.Proofs.YticfpkodoghnnaaGreat
open Go.Sort
set_option linter.unusedSectionVars false
variable {α : Type} [Inhabited α] {κ : Type} [DecidableEq κ]

/-- The same elements, equals in their order. -/
def Way (K : α → κ) (d dk : Array α) : Prop := PermIn 0 d.size d dk ∧ Stab K d dk

theorem Way.refl (K : α → κ) (d : Array α) : Way K d d := ⟨permIn_refl _ _ _, Stab.refl K d⟩
theorem Way.size {K : α → κ} {d dk : Array α} (h : Way K d dk) : dk.size = d.size := h.1.1

theorem Way.step {K : α → κ} {d dk dl : Array α} {a b : Nat} (h : Way K d dk) (p : PermIn a b dk dl) (hb : b ≤ d.size) (s : Stab K dk dl) : Way K d dl := by
  have e : dk.size = d.size := h.1.1
  exact ⟨permIn_trans _ _ _ _ _ h.1 (permIn_mono _ _ _ _ _ _ (Nat.zero_le _) hb (Nat.le_of_eq e.symm) p), h.2.trans s⟩

/-- The first q blocks of c are sorted. -/
def SegTo (lt : α → α → Bool) (c q : Nat) (d : Array α) : Prop := ∀ t, t < q → SortedIn lt (t * c) (t * c + c) d
/-- The blocks of c are sorted, from place a on up to n. -/
def SegFrom (lt : α → α → Bool) (c a n : Nat) (d : Array α) : Prop := ∀ t, SortedIn lt (a + t * c) (min (a + t * c + c) n) d

theorem sorted_out {lt : α → α → Bool} {a b x y : Nat} {d d' : Array α} (p : PermIn a b d d') (h : SortedIn lt x y d) (hd : y ≤ a ∨ b ≤ x) : SortedIn lt x y d' := fun i j h1 h2 h3 => by
  rw [p.2.1 i (by omega), p.2.1 j (by omega)]
  exact h i j h1 h2 h3

theorem sorted_mono {lt : α → α → Bool} {a b x y : Nat} {d : Array α} (h : SortedIn lt a b d) (h1 : a ≤ x) (h2 : y ≤ b) : SortedIn lt x y d := fun i j k1 k2 k3 => h i j (by omega) k2 (by omega)

theorem segTo_zero (lt : α → α → Bool) (c : Nat) (d : Array α) : SegTo lt c 0 d := fun _ ht => absurd ht (Nat.not_lt_zero _)

theorem blk_le {t q : Nat} (c : Nat) (h : t < q) : t * c + c ≤ q * c := by
  have := Nat.mul_le_mul_right c (show t + 1 ≤ q from h)
  rwa [Nat.add_mul, Nat.one_mul] at this

theorem SegTo.step {lt : α → α → Bool} {c q : Nat} {d d' : Array α} (h : SegTo lt c q d) (p : PermIn (q * c) (q * c + c) d d') (s : SortedIn lt (q * c) (q * c + c) d') : SegTo lt c (q + 1) d' := fun t ht => by
  by_cases e : t < q
  · exact sorted_out p (h t e) (Or.inl (blk_le c e))
  · obtain rfl : t = q := by omega
    exact s

theorem SegTo.last {lt : α → α → Bool} {c q n : Nat} {d d' : Array α} (h : SegTo lt c q d) (hn : n < q * c + c) (p : PermIn (q * c) n d d') (s : SortedIn lt (q * c) n d') : SegFrom lt c 0 n d' := fun t => by
  rw [Nat.zero_add]
  rcases Nat.lt_trichotomy t q with e | e | e
  · exact sorted_mono (sorted_out p (h t e) (Or.inl (blk_le c e))) (Nat.le_refl _) (by omega)
  · subst e
    exact sorted_mono s (Nat.le_refl _) (by omega)
  · have := blk_le c e
    intro i j h1 h2 h3
    omega

theorem SegFrom.first {lt : α → α → Bool} {c a n : Nat} {d : Array α} (h : SegFrom lt c a n d) (hn : a + c ≤ n) : SortedIn lt a (a + c) d := by
  have := h 0
  rw [Nat.zero_mul, Nat.add_zero, Nat.min_eq_left hn] at this
  exact this

theorem SegFrom.second {lt : α → α → Bool} {c a n e : Nat} {d : Array α} (h : SegFrom lt c a n d) (h1 : e ≤ a + c + c) (h2 : e ≤ n) : SortedIn lt (a + c) e d := by
  have := h 1
  rw [Nat.one_mul] at this
  exact sorted_mono this (Nat.le_refl _) (by omega)

theorem SegFrom.short {lt : α → α → Bool} {c a n : Nat} {d : Array α} (h : SegFrom lt c a n d) (hn : n ≤ a + c) : SortedIn lt a n d := by
  have := h 0
  rw [Nat.zero_mul, Nat.add_zero, Nat.min_eq_right hn] at this
  exact this

theorem SegFrom.step {lt : α → α → Bool} {c a n : Nat} {d d' : Array α} (h : SegFrom lt c a n d) (p : PermIn a (a + 2 * c) d d') : SegFrom lt c (a + 2 * c) n d' := fun t => by
  have := h (t + 2)
  have e : a + (t + 2) * c = a + 2 * c + t * c := by rw [Nat.add_mul]; omega
  rw [e] at this
  exact sorted_out p this (Or.inr (by omega))

/-- What the rotation of a merge leaves to do. -/
theorem merge_cut {lt : α → α → Bool} {K : α → κ} (hS : SWO lt) (hK : ∀ x y, lt x y = true → K x ≠ K y) {a s m e b mid : Nat} {d d1 : Array α} (h : Rot s m e d d1) (has : a ≤ s) (hsm : s ≤ m) (hme : m ≤ e) (heb : e ≤ b) (hb : b ≤ d.size) (hmid : s + (e - m) = mid)
    (hL : SortedIn lt a m d) (hR : SortedIn lt m b d) (hlow : a < s → e < b → lt d[e]! d[s - 1]! = false) (hhigh : s < m → m < e → lt d[e - 1]! d[s]! = true) :
    SortedIn lt a s d1 ∧ SortedIn lt s mid d1 ∧ (¬ (a < s ∧ s < mid) → Mrg lt K a mid d1 d1) ∧
      (∀ d2, Mrg lt K a mid d1 d2 → SortedIn lt mid e d2 ∧ SortedIn lt e b d2 ∧ (¬ (mid < e ∧ e < b) → Mrg lt K mid b d2 d2) ∧ ∀ d3, Mrg lt K mid b d2 d3 → Mrg lt K a b d d3) := by
  subst hmid
  obtain ⟨_, _, s1, s2, s3, s4, _⟩ := h.merge (K := K) hS hK has hsm hme heb hb hL hR hlow hhigh
  refine ⟨s1, s2, fun hn => Mrg.none ?_, fun d2 m2 => ?_⟩
  · by_cases e1 : a < s
    · rw [show s + (e - m) = s by omega]; exact s1
    · rw [show a = s by omega]; exact s2
  · have t3 := sorted_out m2.1 s3 (Or.inr (Nat.le_refl _))
    have t4 := sorted_out m2.1 s4 (Or.inr (by omega))
    refine ⟨t3, t4, fun hn => Mrg.none ?_, fun d3 m3 => Mrg.of_rot hS hK h has hsm hme heb hb hL hR hlow hhigh m2 m3⟩
    by_cases e1 : s + (e - m) < e
    · rw [show b = e by omega]; exact t3
    · rw [show s + (e - m) = e by omega]; exact t4

theorem Mrg.size {lt : α → α → Bool} {K : α → κ} {a b : Nat} {d d' : Array α} (h : Mrg lt K a b d d') : d'.size = d.size := h.1.1

end Go.Proofs.YticfpkodoghnnaaGreat

/-
  The contracts of swapRangeCmpFunc and rotateCmpFunc, of slices, over fields.
-/
namespace Go.Proofs.YticfpkodoghnnaaGreat
open Go.RowKit Go.Sort Go.Lib Go.Shelf

/-- The runs of n from a on and from b on have changed places. -/
def Swapd (a b n : Nat) (d dk : Array Fx) : Prop :=
  dk.size = d.size ∧ (∀ t, t < n → dk[a + t]! = d[b + t]!) ∧ (∀ t, t < n → dk[b + t]! = d[a + t]!) ∧ ∀ i, (i < a ∨ a + n ≤ i) → (i < b ∨ b + n ≤ i) → dk[i]! = d[i]!

theorem Swapd.zero (a b : Nat) (d : Array Fx) : Swapd a b 0 d d := ⟨rfl, fun t ht => by omega, fun t ht => by omega, fun _ _ _ => rfl⟩

theorem Swapd.step {a b n : Nat} {d dk : Array Fx} (h : Swapd a b n d dk) (hab : a + n < b) (hb : b + n < d.size) : Swapd a b (n + 1) d (swp dk (a + n) (b + n)) := by
  obtain ⟨h1, h2, h3, h4⟩ := h
  refine ⟨by rw [size_swp, h1], fun t ht => ?_, fun t ht => ?_, fun i hi hj => ?_⟩
  · by_cases e : t = n
    · subst e
      rw [swp_left _ _ _ (by omega) (by omega)]
      exact h4 _ (by omega) (by omega)
    · rw [swp_other _ _ _ _ (by omega) (by omega)]; exact h2 t (by omega)
  · by_cases e : t = n
    · subst e
      rw [swp_right _ _ _ (by omega)]
      exact h4 _ (by omega) (by omega)
    · rw [swp_other _ _ _ _ (by omega) (by omega)]; exact h3 t (by omega)
  · rw [swp_other _ _ _ _ (by omega) (by omega)]
    exact h4 _ (by omega) (by omega)

theorem swk_cells {w0 W : World} {blk off : Nat} {d0 dk : Array Fx} (h : SWK encX 2 w0 blk off dk W) (R : RowK encX 2 w0 blk off d0) (hs : dk.size = d0.size) (i : Nat) (hi : i < dk.size) :
    W.cell? ⟨blk, off + i * 2, none⟩ = some (.string dk[i]!.name) ∧ W.frozen? ⟨blk, off + i * 2, none⟩ = false ∧ W.cell? ⟨blk, off + i * 2 + 1, none⟩ = some dk[i]!.sl ∧ W.frozen? ⟨blk, off + i * 2 + 1, none⟩ = false := by
  have H := h.holds R.hblk R.hH hs
  have e0 := H (i * 2) (by rw [size_flatK]; omega)
  have e1 := H (i * 2 + 1) (by rw [size_flatK]; omega)
  rw [get_flatK _ _ _ _ (by omega)] at e0 e1
  rw [show i * 2 / 2 = i by omega, show i * 2 % 2 = 0 by omega] at e0
  rw [show (i * 2 + 1) / 2 = i by omega, show (i * 2 + 1) % 2 = 1 by omega] at e1
  exact ⟨e0.1, e0.2, e1.1, e1.2⟩

theorem swk_swapped {w0 W : World} {blk off : Nat} {d0 dk : Array Fx} (h : SWK encX 2 w0 blk off dk W) (R : RowK encX 2 w0 blk off d0) (i j : Nat) (hi : i < dk.size) (hj : j < dk.size) :
    SWK encX 2 w0 blk off (swp dk i j) ((((W.drew.setCell ⟨blk, off + i * 2, none⟩ (.string dk[j]!.name)).setCell ⟨blk, off + i * 2 + 1, none⟩ dk[j]!.sl).setCell ⟨blk, off + j * 2, none⟩ (.string dk[i]!.name)).setCell ⟨blk, off + j * 2 + 1, none⟩ dk[i]!.sl) :=
  h.swapped R i j hi hj

theorem cell_other {W : World} {b p q : Nat} {v u : Value} (h : W.cell? ⟨b, q, none⟩ = some u) (hne : p ≠ q) : (W.setCell ⟨b, p, none⟩ v).cell? ⟨b, q, none⟩ = some u := 
  (World.cell?_setCell_other (w := W) (a := ⟨b, p, none⟩) (b := ⟨b, q, none⟩) (v := v) (by intro e; cases e; exact hne rfl)).trans h

end Go.Proofs.YticfpkodoghnnaaGreat

/-
  The contract of symMergeCmpFunc of slices, over fields.
-/
namespace Go.Proofs.YticfpkodoghnnaaGreat
open Go.RowKit Go.Sort Go.Lib Go.Shelf

theorem swk_in {w0 W : World} {blk off : Nat} {d0 dk : Array Fx} (h : SWK encX 2 w0 blk off dk W) (R : RowK encX 2 w0 blk off d0) (hs : dk.size = d0.size) (i : Nat) (hi : i < dk.size) (n : Nat) (os : Array Obj) :
    (grow (W.drewN n) os).cell? ⟨blk, off + i * 2, none⟩ = some (.string dk[i]!.name) ∧ (grow (W.drewN n) os).cell? ⟨blk, off + i * 2 + 1, none⟩ = some (.slice dk[i]!.p dk[i]!.txt.length dk[i]!.cap) := by
  have := swk_cells (h.grown n os) R hs i hi
  exact ⟨this.1, this.2.2.1⟩

theorem ltF_true {x y : Fx} (h : ltOf cmpF x y = true) : cmpF x y < 0 := of_decide_eq_true h
theorem ltF_false {x y : Fx} (h : ltOf cmpF x y = false) : ¬ cmpF x y < 0 := of_decide_eq_false h

end Go.Proofs.YticfpkodoghnnaaGreat

/-
  The contract of symMergeCmpFunc of slices, over fields: the general case, and the whole.
-/
namespace Go.Proofs.YticfpkodoghnnaaGreat
open Go.RowKit Go.Sort Go.Lib Go.Shelf

end Go.Proofs.YticfpkodoghnnaaGreat

/-
  The contracts of stableCmpFunc and SortStableFunc of slices, over fields.
-/
namespace Go.Proofs.YticfpkodoghnnaaGreat
open Go.RowKit Go.Sort Go.Lib Go.Shelf

end Go.Proofs.YticfpkodoghnnaaGreat

/-
  The contract of joined.
-/
namespace Go.Proofs.YticfpkodoghnnaaGreat
open Go.RowKit Go.Sort Go.Lib

/-- An append of no text. -/
theorem step_txt0 {ops : Array Oper} {o : Oper} {a : Act} {K : Act → World → Prop} {Q : Exit → Act → World → Prop} {E : Prop} (w : World) (hgd : o.guard = none) (s x : Operand)
    (ho : o.op = .call { callee := .builtin .append, args := #[s, x], argTypes := #[105, 105] }) (q : Option Addr) (n cap : Nat) (p : Option Addr) (c : Nat)
    (hs : a.eval s = .slice q n cap) (hcap : n ≤ cap) (hx : a.eval x = .slice p 0 c) (hq : q = none → n = 0 ∧ cap = 0)
    (h : K (a.put o.dst (.slice q n cap)) w) :
    if Region.wanted o (yielded ops a.tmps) = true then Oper.wp Tryz.prog o a w K Q else E := by
  have hw : Region.wanted o (yielded ops a.tmps) = true := by simp [Region.wanted, hgd]
  rw [if_pos hw]
  obtain ⟨i0, hi0, _, _, _⟩ := info_parts Tryz.infoStr
  have hrun : (Builtin.append_ #[105, 105] o.type #[.slice q n cap, .slice p 0 c]).run Tryz.prog w = .ok (.slice q n cap) w := by
    cases q with
    | none =>
      obtain ⟨rfl, rfl⟩ := hq rfl
      cases p <;> simp [Builtin.append_, run_underlying Tryz.underlying105, Builtin.lenOf, Builtin.firstCells, sizeOf, typeInfo, hi0, loadCells, loadCellsFrom]
    | some q =>
      cases p <;> simp [Builtin.append_, run_underlying Tryz.underlying105, Builtin.lenOf, Builtin.firstCells, sizeOf, typeInfo, hi0, storeCells, loadCells, loadCellsFrom, hcap]
  unfold Oper.wp
  simp [execOp, ho, resolve, invoke, builtin, hs, hx, hrun, Result.andThen]
  exact h

/-- The last field's texts are stored as they were. -/
theorem joined_kept {N : Nat} {w : World} {o : List Fx} {x : Fx} {go cp : Nat} (h : OwnJ N w (.slice (some ⟨go, 0, none⟩) (o.length + 1) cp) (o ++ [x])) :
    OwnJ N (w.setCell ⟨go, o.length * 2 + 1, none⟩ x.sl) (.slice (some ⟨go, 0, none⟩) (o.length + 1) cp) (o ++ [x]) := by
  obtain ⟨⟨hrow, htx⟩, hap⟩ := h
  have hlen : (o ++ [x]).length = o.length + 1 := by simp
  rw [hlen] at hrow
  have hst := hrow.stored (o.length * 2 + 1) x.sl
  have hget := (cellsX_get (o ++ [x]) o.length (by simp)).2
  simp only [List.getElem_concat_length] at hget
  have e1 : (cellsX (o ++ [x])).set (o.length * 2 + 1) x.sl = cellsX (o ++ [x]) := by
    apply List.ext_getElem?
    intro j
    rw [List.getElem?_set]
    split
    · rename_i hj
      subst hj
      rw [if_pos (by rw [cellsX_len]; simp; omega)]
      exact hget.symm
    · rfl
  rw [e1] at hst
  refine ⟨⟨by rw [hlen]; exact hst.1, fun y hy => own_else (htx y hy) hrow (by decide) (grown_set w go _ _)⟩, hap⟩

/-- One field more, its texts in a new row. -/
theorem joined_put {N : Nat} {w w4 : World} {v v' : Value} {o : List Fx} {x : Fx} {M : Nat} (h : OwnJ N w v o) (hx : OwnT M w x.sl x.txt) (hM : ∀ y ∈ o, ∀ k, y.sl.ownBlock = some k → k < M) (hNM : N ≤ M)
    (hown : w4.ownsRow N 107 2 v' (o.length + 1) (cellsX o ++ cellsX [x])) (hg : w.grownBy w4 v.ownBlock) : OwnJ N w4 v' (o ++ [x]) := by
  refine ⟨h.1.put (own_weak hx hNM) hown hg, apart_snoc h.2 fun y hy => ?_⟩
  rcases hb : y.sl.ownBlock with _ | k
  · exact Or.inl rfl
  · right
    intro e
    have h1 := hM y hy k hb
    have h2 := (World.ownsRow.lt hx k e.symm).1
    omega

theorem two_one (n : ByteArray) (p : Option Addr) (k c : Nat) : ∀ u ∈ [Value.string n, Value.slice p k c], u.oneCell' = true := by
  intro u hu
  simp at hu
  rcases hu with rfl | rfl <;> rfl

/-- The field f lies in a block of its own. -/
def NewX (w : World) (B : Nat) (f : Fx) : Prop := w.heap[B]? = some (.cells #[.string f.name, .slice f.p f.txt.length f.cap] 107 (0, 0))

/-- An append of one field, at a step of a region that draws. -/
theorem step_putX {ops : Array Oper} {o : Oper} {a : Act} {K : Act → World → Prop} {Q : Exit → Act → World → Prop} {E : Prop} (w : World) (hgd : o.guard = none) (s x : Operand)
    (ho : o.op = .call { callee := .builtin .append, args := #[s, x], argTypes := #[37, 37] }) (N : Nat) (v : Value) (os : List Fx) (n : Nat) (hs : a.eval s = v) (hoj : OwnJ N w v os) (hn : os.length = n) (B : Nat) (f : Fx)
    (hx : a.eval x = .slice (some ⟨B, 0, none⟩) 1 1) (hB : NewX w B f) (hl : (n + 1) * 40 ≤ 140737488355328) (hN : N ≤ w.heap.size)
    (h : ∀ g cap w', w'.ownsRow N 107 2 (.slice (some ⟨g, 0, none⟩) (n + 1) cap) (n + 1) (cellsX os ++ cellsX [f]) → w.grownBy w' v.ownBlock → K (a.put o.dst (.slice (some ⟨g, 0, none⟩) (n + 1) cap)) w') :
    if Region.wanted o (yielded ops a.tmps) = true then Oper.wp Tryz.prog o a w K Q else E := by
  subst hn
  obtain ⟨j0, hj, hj0, hj1, hj2⟩ := info_parts Tryz.infoFld
  refine step_append_lies w hgd s x 37 ho N 107 j0 (.agg #[.string ⟨#[]⟩, .slice none 0 0]) 2 40 Tryz.underlying37 hj hj0 hj1 hj2 rfl (by decide) v os.length (cellsX os) hs hoj.1.1 ⟨B, 0, none⟩ 1 1 (cellsX [f]) hx rfl (fun j u hju => ?_) (cellsX_one _) (by decide) (by unfold maxLen; omega) hl hN _ rfl (fun g cap w' h1 h2 _ _ => h g cap w' h1 h2)
  exact World.news_of_block hB j u hju

/-- The state of joined's loop. -/
def JoinSt (w2 : World) (ds : List Fx) (i : Nat) (v : Value) (wr : World) : Prop :=
  ∃ o : List Fx, OwnJ w2.heap.size wr v o ∧ o.map Fx.fld = joinS ((ds.map Fx.fld).take i) ∧ Below w2.heap.size w2 wr

theorem sl_shape {n0 : Nat} {w : World} {x : Fx} (h : OwnT n0 w x.sl x.txt) : x.txt.length ≤ x.cap ∧ (x.p = none → x.txt.length = 0 ∧ x.cap = 0) := by
  rcases h.2 with ⟨hv, h0⟩ | ⟨g, cap, cur, hv, _, _, h1, _⟩
  · unfold Fx.sl at hv
    injection hv with h1 h2 h3
    rw [h0, h3]
    exact ⟨Nat.le_refl _, fun _ => ⟨rfl, rfl⟩⟩
  · unfold Fx.sl at hv
    injection hv with h3 h4 h5
    rw [h5]
    exact ⟨h1, fun h => by rw [h3] at h; cases h⟩

/-- ds is d, sorted by name, equals in their order. -/
def SortOf (d ds : List Fx) : Prop := ds.Perm d ∧ (ds.Pairwise fun x y => ltOf cmpF y x = false) ∧ ∀ c, ds.filter (fun x => decide (x.name = c)) = d.filter fun x => decide (x.name = c)

def JoinPost (w : World) (d : List Fx) (e : Ending) (w' : World) : Prop :=
  ∃ (u : Value) (ds o : List Fx), e = .returned u ∧ SortOf d ds ∧ OwnJ w.heap.size w' u o ∧ o.map Fx.fld = joinS (ds.map Fx.fld) ∧ Below w.heap.size w w'

end Go.Proofs.YticfpkodoghnnaaGreat

/-
  An append of a row that came in, whatever its length; a row of fields whose texts lie elsewhere.
-/
namespace Go.Proofs.YticfpkodoghnnaaGreat
open Go.RowKit Go.Lib

theorem grownBy_refl (w : World) (g : Option Nat) : w.grownBy w g := ⟨rfl, rfl, rfl, Nat.le_refl _, fun _ _ _ => rfl⟩

theorem wpList_append_rows {ops : Array Oper} {rest : List Oper} {o : Oper} {a : Act} {Q : Exit → Act → World → Prop} (w : World) (hgd : o.guard = none) (s x : Operand) (t : TypeId)
    (ho : o.op = .call { callee := .builtin .append, args := #[s, x], argTypes := #[t, t] })
    (base : Nat) (e : TypeId) (i : TypeInfo) (z : Value) (size bytes : Nat) (ht : Tryz.prog.underlying t = some (.slice e)) (hi : Tryz.prog.info? e = some i) (hz : i.zero = some z)
    (hsize : i.size = size) (hby : i.bytes = bytes) (hzs : z.cells.size = size) (hsz : 0 < size)
    (v : Value) (n : Nat) (xs : List Value) (hs : a.eval s = v) (hown : w.ownsRow base e size v n xs)
    (p : Option Addr) (m c : Nat) (news : List Value) (hx : a.eval x = .slice p m c) (hl : news.length = m * size)
    (hsrc : m = 0 ∨ ∃ ad, p = some ad ∧ ∀ j u, news[j]? = some u → w.cell? (ad.add j) = some u) (h1 : ∀ u ∈ news, u.oneCell' = true)
    (h63 : n + m ≤ maxLen) (hbytes : (n + m) * bytes ≤ 140737488355328) (hbase : base ≤ w.heap.size)
    (h : ∀ v' w', w'.ownsRow base e size v' (n + m) (xs ++ news) → w.grownBy w' v.ownBlock → wpList Tryz.prog ops Q rest (a.put o.dst v') w') :
    wpList Tryz.prog ops Q (o :: rest) a w := by
  rcases hsrc with rfl | ⟨ad, rfl, hc⟩
  · have hn : news = [] := List.length_eq_zero_iff.1 (by simpa using hl)
    subst hn
    obtain ⟨q, cap, hv, hcap, hq⟩ : ∃ q cap, v = .slice q n cap ∧ n ≤ cap ∧ (q = none → n = 0 ∧ cap = 0) := by
      rcases hown.2 with ⟨hv, h0⟩ | ⟨g, cap, cur, hv, _, _, hc, _⟩
      · exact ⟨none, 0, by rw [hv, h0], by omega, fun _ => ⟨h0, rfl⟩⟩
      · exact ⟨_, cap, hv, hc, fun h => by cases h⟩
    have hrun : (Builtin.append_ #[t, t] o.type #[.slice q n cap, .slice p 0 c]).run Tryz.prog w = .ok (.slice q n cap) w := by
      cases q with
      | none =>
        obtain ⟨rfl, rfl⟩ := hq rfl
        cases p <;> simp [Builtin.append_, run_underlying ht, Builtin.lenOf, Builtin.firstCells, sizeOf, typeInfo, hi, loadCells, loadCellsFrom]
      | some q =>
        cases p <;> simp [Builtin.append_, run_underlying ht, Builtin.lenOf, Builtin.firstCells, sizeOf, typeInfo, hi, storeCells, loadCells, loadCellsFrom, hcap]
    rw [hv] at hs
    refine wpList_plain hgd fun K hK' => ?_
    unfold Oper.wp
    simp [execOp, ho, resolve, invoke, builtin, hs, hx, hrun, Result.andThen]
    refine hK' _ _ (h _ _ ?_ (grownBy_refl _ _))
    rw [← hv, List.append_nil]
    exact hown
  · exact wpList_append_own _ hgd s x t ho base e i z size bytes ht hi hz hsize hby hzs hsz v n xs hs hown ad m c news hx hl hc h1 h63 hbytes hbase (fun v' w' h2 h3 _ => h v' w' h2 h3)

/-- v owns a row of the fields d, in a block at or behind n0; their texts lie anywhere. -/
def RowX (n0 : Nat) (w : World) (v : Value) (d : List Fx) : Prop := w.ownsRow n0 107 2 v d.length (cellsX d)

theorem RowX.is {n0 : Nat} {w : World} {v : Value} {d : List Fx} (h1 : RowX n0 w v d) (h2 : ∀ x ∈ d, x.at w) : IsXs w v d := by
  rcases h1.2 with ⟨rfl, h0⟩ | ⟨g, c, cur, rfl, _, hg, _, _, hsz, htk⟩
  · obtain rfl := List.length_eq_zero_iff.1 h0
    exact ⟨none, 0, rfl, Or.inl rfl, fun x hx => by simp at hx⟩
  · refine ⟨_, c, rfl, Or.inr ⟨g, 0, rfl, fun i hi => ?_⟩, h2⟩
    obtain ⟨c0, c1⟩ := cellsX_get d i hi
    have e : ∀ j, j < d.length * 2 → (cellsX d)[j]? = cur[j]? := fun j hj => by
      rw [← htk, List.getElem?_take, if_pos hj, Array.getElem?_toList]
    rw [Nat.zero_add, cell_of_row w g _ cur _ _ hg, cell_of_row w g _ cur _ _ hg, ← e _ (by omega), ← e _ (by omega)]
    exact ⟨c0, c1⟩

/-- What a slice of fields gives an append. -/
theorem src_xs {w : World} {p : Option Addr} {d : List Fx} (h : d = [] ∨ ∃ b off, p = some ⟨b, off, none⟩ ∧ XsAt w b off d) :
    d.length = 0 ∨ ∃ ad, p = some ad ∧ ∀ j u, (cellsX d)[j]? = some u → w.cell? (ad.add j) = some u := by
  rcases h with rfl | ⟨b, off, rfl, hx⟩
  · exact Or.inl rfl
  · refine Or.inr ⟨_, rfl, fun j u hu => ?_⟩
    have hj : j < d.length * 2 := by
      have := (List.getElem?_eq_some_iff.1 hu).1
      rwa [cellsX_len] at this
    have hk : j / 2 < d.length := by omega
    obtain ⟨c0, c1⟩ := cellsX_get d (j / 2) hk
    obtain ⟨m0, m1⟩ := hx (j / 2) hk
    rw [addr_add]
    by_cases e : j % 2 = 0
    · have ej : j = j / 2 * 2 := by omega
      rw [ej] at hu ⊢
      rw [c0] at hu
      rw [m0]; exact hu
    · have ej : j = j / 2 * 2 + 1 := by omega
      rw [ej] at hu ⊢
      rw [c1] at hu
      rw [← Nat.add_assoc, m1]; exact hu

/-- What a slice of texts gives an append. -/
theorem src_ts {w : World} {p : Option Addr} {ts : List ByteArray} (h : TxtAt w p ts) :
    ts.length = 0 ∨ ∃ ad, p = some ad ∧ ∀ j u, (ts.map Value.string)[j]? = some u → w.cell? (ad.add j) = some u := by
  rcases h with rfl | ⟨b, off, rfl, hx⟩
  · exact Or.inl rfl
  · refine Or.inr ⟨_, rfl, fun j u hu => ?_⟩
    have hj : j < ts.length := by simpa using (List.getElem?_eq_some_iff.1 hu).1
    rw [addr_add, hx j hj]
    rw [List.getElem?_map, List.getElem?_eq_getElem hj] at hu
    exact hu

theorem txts_one (ts : List ByteArray) : ∀ u ∈ ts.map Value.string, u.oneCell' = true := by
  intro u hu
  obtain ⟨t, _, rfl⟩ := List.mem_map.1 hu
  rfl

/-- What the reference's Texts answers. -/
def RtPost (w : World) (ts : List ByteArray) (e : Ending) (w' : World) : Prop := (∃ p c, e = .returned (.slice p ts.length c) ∧ TxtAt w p ts) ∧ w' = w

set_option maxHeartbeats 2000000 in
set_option maxRecDepth 100000 in
theorem rtexts_any (v : Value) (nm : ByteArray) (d : List Fx) (w : World) (hv : IsXs w v d) (hf : FitX d) :
    Calls Tryz.prog 145 #[v, .string nm] w fun e w' => RtPost w (textsOf (d.map Fx.fld) nm) e w' := by
  obtain ⟨p, cap, rfl, hd, ht⟩ := hv
  have HT := hid ht
  have HD := hid hd
  have hl := hf.1
  unfold maxLen at hl
  clear ht hd hf
  go_enter Tryz.func145, Tryz.ntmps145
  go_wp2_with fail
  go_loopg [5] d.length (fun g vi wr => ∃ i : Nat, vi = .int .i64 i ∧ i ≤ d.length ∧ d.length - i ≤ g ∧ w = wr ∧ Hid (∀ j (h : j < d.length), j < i → d[j].name ≠ nm))
  case atStart => exact ⟨0, rfl, by omega, by omega, rfl, fun j _ h => by omega⟩
  case round =>
    obtain ⟨i, rfl, hi, hg, rfl, HJ⟩ := hrel
    by_cases hlt : i < d.length
    · have hltz : (i : Int) < (d.length : Int) := by omega
      have hiz : (0 : Int) ≤ i := by omega
      obtain ⟨b, off, rfl, hxs⟩ : ∃ b off, p = some ⟨b, off, none⟩ ∧ XsAt w b off d := by
        rcases HD.out with h | h
        · subst h; simp at hlt
        · exact h
      obtain ⟨c0, c1⟩ := hxs i hlt
      have hxi : (d[i]).at w := HT.out _ (List.getElem_mem hlt)
      have hyes : d[i].name = nm → textsOf (d.map Fx.fld) nm = d[i].txt := fun e => by
        have := textsOf_at (d.map Fx.fld) nm i (by rw [List.length_map]; exact hlt) (fun j hj => by simp only [List.getElem_map]; exact HJ.out j (by omega) hj) (by simp only [List.getElem_map]; exact e)
        simpa [Fx.fld] using this
      have hnx : d[i].name ≠ nm → ∀ j (h : j < d.length), j < i + 1 → d[j].name ≠ nm := fun e j h hj => by
        by_cases ej : j = i
        · subst ej; exact e
        · exact HJ.out j h (by omega)
      obtain ⟨x, hx⟩ : ∃ x, d[i] = x := ⟨_, rfl⟩
      rw [hx] at c0 c1 hxi hyes hnx
      have HXI := hid hxi
      have HYES := hid hyes
      have HNX := hid hnx
      clear hxs hxi hx hyes hnx
      unfold Fx.sl at c1
      cases hq : (x.name.toList == nm.toList) with
      | true =>
        have hq2 : x.name = nm := by rw [toList_eq, decide_eq_true_eq] at hq; exact hq
        have HQ := hid (HYES.out hq2)
        clear hq2
        go_wp2_with fail
        go_ret
        rw [HQ.out]
        exact ⟨⟨_, _, rfl, HXI.out⟩, rfl⟩
      | false =>
        have hq2 : x.name ≠ nm := by rw [toList_eq, decide_eq_false_iff_not] at hq; exact hq
        have HQ := hid (HNX.out hq2)
        clear hq2
        go_wp2_with fail
        go_roundg (d.length - (i + 1))
        case measure => omega
        exact ⟨i + 1, by go_num, by omega, by omega, rfl, HQ.out⟩
    · have hltz : ¬ (i : Int) < (d.length : Int) := by omega
      have H0 : Hid (textsOf (d.map Fx.fld) nm = []) := textsOf_no _ _ (fun j hj => by
        rw [List.length_map] at hj
        simp only [List.getElem_map]
        exact HJ.out j hj (by omega))
      go_wp2_with fail
      go_ret
      rw [H0.out]
      exact ⟨⟨none, 0, rfl, Or.inl rfl⟩, rfl⟩

end Go.Proofs.YticfpkodoghnnaaGreat

/-
  Rows of fields of one's own, written over in place; the reference's copy of a value. (What the texts of stages 3, 5 and 6 share.)
-/
namespace Go.Proofs.YticfpkodoghnnaaGreat
open Go.RowKit Go.Lib

/-- Blocks ahead of A, and from B up to C, are as they were. -/
structure KeptZ (A B C : Nat) (we W : World) : Prop where
  os : W.os = we.os
  tape : W.tape = we.tape
  output : W.output = we.output
  size : C ≤ W.heap.size
  block : ∀ k, k < C → (k < A ∨ B ≤ k) → W.heap[k]? = we.heap[k]?

def ZoneV (B C : Nat) (v : Value) : Prop := ∀ k, v.ownBlock = some k → k < B ∨ C ≤ k

theorem KeptZ.grown {A B C : Nat} {we W W' : World} {ob : Option Nat} (h : KeptZ A B C we W) (hg : W.grownBy W' ob) (hz : ∀ k, ob = some k → A ≤ k ∧ (k < B ∨ C ≤ k)) : KeptZ A B C we W' :=
  ⟨hg.os.trans h.os, hg.tape.trans h.tape, hg.output.trans h.output, Nat.le_trans h.size hg.size, fun k hk hz2 => (hg.block k (Nat.lt_of_lt_of_le hk h.size) fun e => by
    have := hz k e.symm
    omega).trans (h.block k hk hz2)⟩

theorem grown_alloc (w : World) (o : Obj) : w.grownBy (w.alloc o) none := by
  have := (Below.refl w.heap.size w).alloc (Nat.le_refl _) o
  exact ⟨this.os, this.tape, this.output, this.size, fun k hk _ => this.block k hk⟩

theorem KeptZ.below {A B C : Nat} {we W : World} (h : KeptZ A B C we W) (hAC : A ≤ C) (hC : we.heap.size ≤ C) : Below A we W :=
  ⟨h.os, h.tape, h.output, Nat.le_trans hC h.size, fun k hk => h.block k (by omega) (Or.inl hk)⟩

/-- The fields o, written over in place. -/
structure XSt (A B C : Nat) (we : World) (u : Value) (o : List Fx) (W : World) : Prop where
  own : OwnJ A W u o
  zu : ZoneV B C u
  zo : ∀ x ∈ o, ZoneV B C x.sl
  kept : KeptZ A B C we W

theorem cellsX_set (o : List Fx) (i : Nat) (h : i < o.length) (x : Fx) : cellsX (o.set i x) = ((cellsX o).set (i * 2) (.string x.name)).set (i * 2 + 1) x.sl := by
  induction o generalizing i with
  | nil => simp at h
  | cons y o ih =>
    have e : ∀ z l, cellsX (z :: l) = .string z.name :: z.sl :: cellsX l := fun _ _ => rfl
    cases i with
    | zero => rw [List.set_cons_zero, e, e]; rfl
    | succ i =>
      rw [List.set_cons_succ, e, e, ih i (by simpa using h), show (i + 1) * 2 = i * 2 + 1 + 1 by omega]
      rfl

theorem apart_ne {o : List Fx} (h : Apart o) {i j : Nat} (hi : i < o.length) (hj : j < o.length) (hne : i ≠ j) : (o[i]).sl.ownBlock = none ∨ (o[i]).sl.ownBlock ≠ (o[j]).sl.ownBlock := by
  have hp := List.pairwise_iff_getElem.1 h
  rcases Nat.lt_or_gt_of_ne hne with hl | hl
  · exact hp i j hi hj hl
  · rcases hp j i hj hi hl with h1 | h1
    · rcases hb : (o[i]).sl.ownBlock with _ | k
      · exact Or.inl rfl
      · right; rw [h1]; simp
    · exact Or.inr (Ne.symm h1)

theorem apart_set {o : List Fx} (h : Apart o) {i : Nat} (_hi : i < o.length) {x : Fx} (hx : ∀ j, (hj : j < o.length) → j ≠ i → (o[j]).sl.ownBlock = none ∨ (o[j]).sl.ownBlock ≠ x.sl.ownBlock) : Apart (o.set i x) := by
  have hp := List.pairwise_iff_getElem.1 h
  refine List.pairwise_iff_getElem.2 fun a b ha hb hab => ?_
  rw [List.length_set] at ha hb
  rw [List.getElem_set, List.getElem_set]
  by_cases h1 : i = a
  · subst h1
    rw [if_pos rfl, if_neg (by omega)]
    rcases hx b hb (by omega) with h2 | h2
    · rcases hq : x.sl.ownBlock with _ | k
      · exact Or.inl rfl
      · right; rw [h2]; simp
    · exact Or.inr (Ne.symm h2)
  · rw [if_neg h1]
    by_cases h2 : i = b
    · subst h2
      rw [if_pos rfl]
      exact hx a ha (by omega)
    · rw [if_neg h2]
      exact hp a b ha hb hab

/-- The row of fields u has its block. -/
theorem XSt.shape {A B C : Nat} {we W : World} {u : Value} {o : List Fx} (h : XSt A B C we u o W) (hpos : 0 < o.length) : ∃ g c, u = .slice (some ⟨g, 0, none⟩) o.length c := by
  rcases h.own.1.1.2 with ⟨_, h0⟩ | ⟨g, c, cur, hv, _⟩
  · omega
  · exact ⟨g, c, hv⟩

/-- What can be read of the field i, and that it can be written. -/
theorem XSt.cells {A B C : Nat} {we W : World} {g c n : Nat} {o : List Fx} (h : XSt A B C we (.slice (some ⟨g, 0, none⟩) n c) o W) (hn : o.length = n) {i : Nat} (hi : i < o.length) :
    W.cell? ⟨g, i * 2, none⟩ = some (.string (o[i]).name) ∧ W.cell? ⟨g, i * 2 + 1, none⟩ = some (o[i]).sl ∧ W.frozen? ⟨g, i * 2, none⟩ = false ∧ W.frozen? ⟨g, i * 2 + 1, none⟩ = false := by
  subst hn
  have hrow := h.own.1.1
  obtain ⟨h1, h2⟩ := cellsX_get o i hi
  exact ⟨by rw [hrow.cellAt _ (by omega)]; exact h1, by rw [hrow.cellAt _ (by omega)]; exact h2, hrow.frozenAt _, hrow.frozenAt _⟩

theorem sl_lt {A : Nat} {W : World} {x : Fx} (h : OwnT A W x.sl x.txt) : ∀ k, x.sl.ownBlock = some k → A ≤ k := fun k hk => (World.ownsRow.lt h k hk).1

/-- One text is written over. -/
theorem XSt.wipe {A B C : Nat} {we W : World} {u : Value} {o : List Fx} (h : XSt A B C we u o W) {i : Nat} (hi : i < o.length) {j gt : Nat} (hp : (o[i]).p = some ⟨gt, 0, none⟩) (t : ByteArray) :
    XSt A B C we u (o.set i ⟨(o[i]).name, (o[i]).p, (o[i]).cap, (o[i]).txt.set j t⟩) (W.setCell ⟨gt, j, none⟩ (.string t)) := by
  have hti := h.own.1.2 _ (List.getElem_mem hi)
  have hbi : (o[i]).sl.ownBlock = some gt := by unfold Fx.sl; rw [hp]; rfl
  have hg : W.grownBy (W.setCell ⟨gt, j, none⟩ (.string t)) (o[i]).sl.ownBlock := by rw [hbi]; exact grown_set W gt j _
  have hsl : (⟨(o[i]).name, (o[i]).p, (o[i]).cap, (o[i]).txt.set j t⟩ : Fx).sl = (o[i]).sl := by unfold Fx.sl; simp
  have hnew : OwnT A (W.setCell ⟨gt, j, none⟩ (.string t)) (o[i]).sl ((o[i]).txt.set j t) := by
    have e : (o[i]).sl = .slice (some ⟨gt, 0, none⟩) (o[i]).txt.length (o[i]).cap := by unfold Fx.sl; rw [hp]
    have h1 : W.ownsRow A 9 1 (.slice (some ⟨gt, 0, none⟩) (o[i]).txt.length (o[i]).cap) (o[i]).txt.length ((o[i]).txt.map Value.string) := by rw [← e]; exact hti
    have h2 := (h1.stored j (.string t)).1
    unfold OwnT
    rw [e, List.length_set, List.map_set]
    exact h2
  refine ⟨⟨⟨?_, fun x hx => ?_⟩, ?_⟩, h.zu, fun x hx => ?_, h.kept.grown hg fun k hk => ⟨sl_lt hti k hk, h.zo _ (List.getElem_mem hi) k hk⟩⟩
  · rw [List.length_set, cellsX_set _ _ hi, hsl]
    obtain ⟨c0, c1⟩ := cellsX_get o i hi
    have e1 : ((cellsX o).set (i * 2) (.string (o[i]).name)).set (i * 2 + 1) (o[i]).sl = cellsX o := by
      apply List.ext_getElem?
      intro q
      rw [List.getElem?_set, List.getElem?_set]
      simp only [List.length_set]
      have hl := cellsX_len o
      split
      · rename_i hq; subst hq; rw [if_pos (by omega)]; exact c1.symm
      · split
        · rename_i hq; subst hq; rw [if_pos (by omega)]; exact c0.symm
        · rfl
    rw [e1]
    exact own_else h.own.1.1 hti (by decide) hg
  · obtain ⟨q, hq, rfl⟩ := List.mem_iff_getElem.1 hx
    rw [List.length_set] at hq
    rw [List.getElem_set]
    by_cases e : i = q
    · rw [if_pos e, hsl]; exact hnew
    · rw [if_neg e]
      exact World.ownsRow.kept (h.own.1.2 _ (List.getElem_mem hq)) hg (apart_ne h.own.2 hq hi (by omega))
  · refine apart_set h.own.2 hi fun q hq hne => ?_
    rw [hsl]
    exact apart_ne h.own.2 hq hi hne
  · obtain ⟨q, hq, rfl⟩ := List.mem_iff_getElem.1 hx
    rw [List.length_set] at hq
    rw [List.getElem_set]
    by_cases e : i = q
    · rw [if_pos e, hsl]; exact h.zo _ (List.getElem_mem hi)
    · rw [if_neg e]; exact h.zo _ (List.getElem_mem hq)

/-- The name is written over. -/
theorem XSt.rename {A B C : Nat} {we W : World} {g c n : Nat} {o : List Fx} (h : XSt A B C we (.slice (some ⟨g, 0, none⟩) n c) o W) (hn : o.length = n) {i : Nat} (hi : i < o.length) (nm : ByteArray) :
    XSt A B C we (.slice (some ⟨g, 0, none⟩) n c) (o.set i ⟨nm, (o[i]).p, (o[i]).cap, (o[i]).txt⟩) (W.setCell ⟨g, i * 2, none⟩ (.string nm)) := by
  subst hn
  have hrow := h.own.1.1
  have hg : W.grownBy (W.setCell ⟨g, i * 2, none⟩ (.string nm)) (Value.slice (some ⟨g, 0, none⟩) o.length c).ownBlock := grown_set W g _ _
  have hsl : (⟨nm, (o[i]).p, (o[i]).cap, (o[i]).txt⟩ : Fx).sl = (o[i]).sl := rfl
  refine ⟨⟨⟨?_, fun x hx => ?_⟩, ?_⟩, h.zu, fun x hx => ?_, h.kept.grown hg fun k hk => ⟨(World.ownsRow.lt hrow k hk).1, h.zu k hk⟩⟩
  · have hst := (hrow.stored (i * 2) (.string nm)).1
    rw [List.length_set, cellsX_set _ _ hi, hsl]
    have e1 : ((cellsX o).set (i * 2) (.string nm)).set (i * 2 + 1) (o[i]).sl = (cellsX o).set (i * 2) (.string nm) := by
      apply List.ext_getElem?
      intro q
      rw [List.getElem?_set]
      split
      · rename_i hq
        subst hq
        rw [if_pos (by rw [List.length_set, cellsX_len]; omega), List.getElem?_set_ne (by omega)]
        exact ((cellsX_get o i hi).2).symm
      · rfl
    rw [e1]
    exact hst
  · obtain ⟨q, hq, rfl⟩ := List.mem_iff_getElem.1 hx
    rw [List.length_set] at hq
    rw [List.getElem_set]
    by_cases e : i = q
    · rw [if_pos e]; exact own_else (show W.ownsRow A 9 1 (o[i]).sl (o[i]).txt.length ((o[i]).txt.map Value.string) from h.own.1.2 _ (List.getElem_mem hi)) hrow (by decide) hg
    · rw [if_neg e]; exact own_else (h.own.1.2 _ (List.getElem_mem hq)) hrow (by decide) hg
  · refine apart_set h.own.2 hi fun q hq hne => ?_
    rw [hsl]
    exact apart_ne h.own.2 hq hi hne
  · obtain ⟨q, hq, rfl⟩ := List.mem_iff_getElem.1 hx
    rw [List.length_set] at hq
    rw [List.getElem_set]
    by_cases e : i = q
    · rw [if_pos e, hsl]; exact h.zo _ (List.getElem_mem hi)
    · rw [if_neg e]; exact h.zo _ (List.getElem_mem hq)

/-- A block more, that nobody owns. -/
theorem XSt.alloc {A B C : Nat} {we W : World} {u : Value} {o : List Fx} (h : XSt A B C we u o W) (ob : Obj) : XSt A B C we u o (W.alloc ob) :=
  ⟨h.own.on ((Below.refl _ _).alloc (Nat.le_refl _) _), h.zu, h.zo, h.kept.grown (grown_alloc W ob) fun k hk => by cases hk⟩

/-- The texts have grown by one, and are stored back. -/
theorem XSt.grow {A B C : Nat} {we W W4 : World} {g c n : Nat} {o : List Fx} (h : XSt A B C we (.slice (some ⟨g, 0, none⟩) n c) o W) (hn : o.length = n) {i : Nat} (hi : i < o.length) {p : Option Addr} {m cap : Nat} {ts : List ByteArray}
    (hm : ts.length = m) (hown : W4.ownsRow A 9 1 (.slice p m cap) m (ts.map Value.string)) (hg : W.grownBy W4 (o[i]).sl.ownBlock) (hat : (Value.slice p m cap).ownBlock = (o[i]).sl.ownBlock ∨ (Value.slice p m cap).ownBlock = some W.heap.size) :
    W4.cell? ⟨g, i * 2 + 1, none⟩ = some (o[i]).sl ∧ W4.frozen? ⟨g, i * 2 + 1, none⟩ = false ∧
      XSt A B C we (.slice (some ⟨g, 0, none⟩) n c) (o.set i ⟨(o[i]).name, p, cap, ts⟩) (W4.setCell ⟨g, i * 2 + 1, none⟩ (.slice p m cap)) := by
  subst hn
  subst hm
  have hrow := h.own.1.1
  have hti := h.own.1.2 _ (List.getElem_mem hi)
  have hrow4 : W4.ownsRow A 107 2 (.slice (some ⟨g, 0, none⟩) o.length c) o.length (cellsX o) := own_else hrow hti (by decide) hg
  have hset : W4.grownBy (W4.setCell ⟨g, i * 2 + 1, none⟩ (.slice p ts.length cap)) (Value.slice (some ⟨g, 0, none⟩) o.length c).ownBlock := grown_set W4 g _ _
  have hk4 : KeptZ A B C we W4 := h.kept.grown hg fun k hk => ⟨sl_lt hti k hk, h.zo _ (List.getElem_mem hi) k hk⟩
  have hzn : ZoneV B C (.slice p ts.length cap) := fun k hk => by
    rcases hat with e | e
    · exact h.zo _ (List.getElem_mem hi) k (by rw [← e]; exact hk)
    · have := h.kept.size
      rw [e] at hk
      have : W.heap.size = k := by simpa using hk
      omega
  refine ⟨by rw [hrow4.cellAt _ (by omega)]; exact (cellsX_get o i hi).2, hrow4.frozenAt _, ⟨⟨⟨?_, fun x hx => ?_⟩, ?_⟩, h.zu, fun x hx => ?_, hk4.grown hset fun k hk => ⟨(World.ownsRow.lt hrow k hk).1, h.zu k hk⟩⟩⟩
  · have hst := (hrow4.stored (i * 2 + 1) (.slice p ts.length cap)).1
    rw [List.length_set, cellsX_set _ _ hi]
    have e1 : (cellsX o).set (i * 2) (.string (o[i]).name) = cellsX o := by
      apply List.ext_getElem?
      intro q
      rw [List.getElem?_set]
      split
      · rename_i hq
        subst hq
        rw [if_pos (by rw [cellsX_len]; omega)]
        exact ((cellsX_get o i hi).1).symm
      · rfl
    rw [e1]
    exact hst
  · obtain ⟨q, hq, rfl⟩ := List.mem_iff_getElem.1 hx
    rw [List.length_set] at hq
    rw [List.getElem_set]
    by_cases e : i = q
    · rw [if_pos e]; exact own_else (show W4.ownsRow A 9 1 (.slice p ts.length cap) ts.length (ts.map Value.string) from hown) hrow4 (by decide) hset
    · rw [if_neg e]
      have hy4 : W4.ownsRow A 9 1 (o[q]).sl (o[q]).txt.length ((o[q]).txt.map Value.string) := World.ownsRow.kept (h.own.1.2 _ (List.getElem_mem hq)) hg (apart_ne h.own.2 hq hi (by omega))
      exact own_else hy4 hrow4 (by decide) hset
  · refine apart_set h.own.2 hi fun q hq hne => ?_
    show (o[q]).sl.ownBlock = none ∨ (o[q]).sl.ownBlock ≠ (Value.slice p ts.length cap).ownBlock
    rcases hat with e | e
    · rw [e]; exact apart_ne h.own.2 hq hi hne
    · rcases hb : (o[q]).sl.ownBlock with _ | k
      · exact Or.inl rfl
      · right
        have := (World.ownsRow.lt (h.own.1.2 _ (List.getElem_mem hq)) k hb).2
        rw [e]
        intro e2
        simp at e2; omega
  · obtain ⟨q, hq, rfl⟩ := List.mem_iff_getElem.1 hx
    rw [List.length_set] at hq
    rw [List.getElem_set]
    by_cases e : i = q
    · rw [if_pos e]; exact hzn
    · rw [if_neg e]; exact h.zo _ (List.getElem_mem hq)


theorem XSt.on {A B C : Nat} {we W W' : World} {u : Value} {o : List Fx} (h : XSt A B C we u o W) (hb : Below W.heap.size W W') : XSt A B C we u o W' :=
  ⟨h.own.on hb, h.zu, h.zo, ⟨hb.os.trans h.kept.os, hb.tape.trans h.kept.tape, hb.output.trans h.kept.output, Nat.le_trans h.kept.size hb.size, fun k hk hz => (hb.block k (by have := h.kept.size; omega)).trans (h.kept.block k hk hz)⟩⟩

theorem XSt.below {N : Nat} {we W : World} {u : Value} {o : List Fx} (h : XSt N N N we u o W) (hN : N = we.heap.size) : Below N we W := h.kept.below (Nat.le_refl _) (by omega)

theorem XSt.put {A B C : Nat} {we W : World} {g c n : Nat} {o : List Fx} (h : XSt A B C we (.slice (some ⟨g, 0, none⟩) n c) o W) (hn : o.length = n) {i : Nat} (hi : i < o.length) (x : Fx) (hx : OwnT A W x.sl x.txt) (hz : ZoneV B C x.sl)
    (hf : ∀ j, (hj : j < o.length) → j ≠ i → (o[j]).sl.ownBlock = none ∨ (o[j]).sl.ownBlock ≠ x.sl.ownBlock) :
    XSt A B C we (.slice (some ⟨g, 0, none⟩) n c) (o.set i x) ((W.setCell ⟨g, i * 2, none⟩ (.string x.name)).setCell ⟨g, i * 2 + 1, none⟩ x.sl) := by
  subst hn
  have hrow := h.own.1.1
  have hg : W.grownBy ((W.setCell ⟨g, i * 2, none⟩ (.string x.name)).setCell ⟨g, i * 2 + 1, none⟩ x.sl) (Value.slice (some ⟨g, 0, none⟩) o.length c).ownBlock := grown_trans (grown_set W g _ _) (grown_set _ g _ _)
  refine ⟨⟨⟨?_, fun y hy => ?_⟩, ?_⟩, h.zu, fun y hy => ?_, h.kept.grown hg fun k hk => ⟨(World.ownsRow.lt hrow k hk).1, h.zu k hk⟩⟩
  · have h1 := (hrow.stored (i * 2) (.string x.name)).1
    have h2 := (h1.stored (i * 2 + 1) x.sl).1
    rw [List.length_set, cellsX_set _ _ hi]
    exact h2
  · obtain ⟨q, hq, rfl⟩ := List.mem_iff_getElem.1 hy
    rw [List.length_set] at hq
    rw [List.getElem_set]
    by_cases e : i = q
    · rw [if_pos e]; exact own_else (show W.ownsRow A 9 1 x.sl x.txt.length (x.txt.map Value.string) from hx) hrow (by decide) hg
    · rw [if_neg e]; exact own_else (h.own.1.2 _ (List.getElem_mem hq)) hrow (by decide) hg
  · exact apart_set h.own.2 hi hf
  · obtain ⟨q, hq, rfl⟩ := List.mem_iff_getElem.1 hy
    rw [List.length_set] at hq
    rw [List.getElem_set]
    by_cases e : i = q
    · rw [if_pos e]; exact hz
    · rw [if_neg e]; exact h.zo _ (List.getElem_mem hq)

/-- What a zero field is. -/
def zeroX : Fx := ⟨⟨#[]⟩, none, 0, []⟩


def encSt (x : ByteArray) : List Value := [.string x]

def KT : Kind ByteArray := ⟨9, 1, encSt, fun _ => rfl, by decide, fun x u hu => by simp [encSt] at hu; subst hu; rfl⟩

theorem own_noneX (N : Nat) (w : World) : OwnJ N w (.slice none 0 0) [] := ⟨⟨World.ownsRow_nil _ _ _ _, fun x hx => by simp at hx⟩, List.Pairwise.nil⟩

/-- Sizes that allow a copy. -/
def CopyX (d : List Fx) : Prop := d.length * 40 ≤ 140737488355328 ∧ ∀ x ∈ d, x.txt.length * 16 ≤ 140737488355328

theorem own_weakJ {N M : Nat} {w : World} {u : Value} {o : List Fx} (h : OwnJ N w u o) (hm : M ≤ N) : OwnJ M w u o := ⟨⟨own_weak h.1.1 hm, fun x hx => own_weak (h.1.2 x hx) hm⟩, h.2⟩


set_option maxHeartbeats 4000000 in
set_option maxRecDepth 100000 in
theorem fields_any (v : Value) (d : List Fx) (w : World) (hv : IsXs w v d) (hf : FitX d) (hc : CopyX d) :
    Calls Tryz.prog 87 #[v] w fun e w' => ∃ u o, e = .returned u ∧ OwnJ w.heap.size w' u o ∧ o.map Fx.fld = d.map Fx.fld ∧ Below w.heap.size w w' := by
  obtain ⟨j0, hj0, hy0, hy1, hy2⟩ := info_parts Tryz.infoFld
  obtain ⟨i0, hi0, hz0, hz1, hz2⟩ := info_parts Tryz.infoStr
  have HJ := hid hj0
  have HI := hid hi0
  obtain ⟨p, cap, rfl, hd, ht⟩ := hv
  have HD := hid hd
  have HX := hid ht
  have hl := hf.1
  unfold maxLen at hl
  have h40 := hc.1
  have H16 := hid hc.2
  clear hd ht hf hj0 hi0 hc
  go_enter Tryz.func87, Tryz.ntmps87
  go_wp2_with fail
  go_loopg [3, 4] d.length (fun g vs vi wr => ∃ (i : Nat) (o : List Fx), vi = .int .i64 i ∧ i ≤ d.length ∧ d.length - i ≤ g ∧ Hid (o.map Fx.fld = (d.take i).map Fx.fld) ∧ Hid (OwnJ w.heap.size wr vs o) ∧ Hid (Below w.heap.size w wr))
  case atStart => exact ⟨0, [], rfl, by omega, by omega, by show _ = _; simp, own_noneX _ _, Below.refl _ _⟩
  case round =>
    obtain ⟨i, o, rfl, hi, hgk, HM, HO, HB⟩ := hrel
    have hol : o.length = i := by have := congrArg List.length HM.out; simp at this; omega
    by_cases hlt : i < d.length
    · have hltz : (i : Int) < (d.length : Int) := by omega
      have hiz : (0 : Int) ≤ i := by omega
      obtain ⟨b, off, rfl, hxs⟩ : ∃ b off, p = some ⟨b, off, none⟩ ∧ XsAt w b off d := by
        rcases HD.out with h | h
        · subst h; simp at hlt
        · exact h
      have hxi : (d[i]).at w := HX.out _ (List.getElem_mem hlt)
      have hx16 := H16.out _ (List.getElem_mem hlt)
      have hcl := hxs i hlt
      have hnx : (d.take (i + 1)).map Fx.fld = (d.take i).map Fx.fld ++ [(d[i]).fld] := by
        rw [List.take_succ_eq_append_getElem hlt, List.map_append]; simp
      obtain ⟨x, hx⟩ : ∃ x, d[i] = x := ⟨_, rfl⟩
      rw [hx] at hxi hx16 hcl hnx
      obtain ⟨nm, p5, c5, ts⟩ := x
      simp only [Fx.at, Fx.sl, Fx.fld] at hxi hx16 hcl hnx
      have HNX := hid hnx
      have HXI := hid hxi
      have HCL : Hid (∀ W, Below w.heap.size w W → W.cell? ⟨b, off + i * 2, none⟩ = some (.string nm) ∧ W.cell? ⟨b, off + i * 2 + 1, none⟩ = some (.slice p5 ts.length c5)) := fun W hW =>
        ⟨(hW.cell (p := ⟨b, off + i * 2, none⟩) (cell_block hcl.1)).trans hcl.1, (hW.cell (p := ⟨b, off + i * 2 + 1, none⟩) (cell_block hcl.2)).trans hcl.2⟩
      have HOB : Hid (∀ y ∈ o, ∀ k, y.sl.ownBlock = some k → k < wr.heap.size) := fun y hy k hk => (World.ownsRow.lt (show wr.ownsRow w.heap.size 9 1 y.sl y.txt.length (y.txt.map Value.string) from HO.out.1.2 y hy) k hk).2
      have hsz := HB.out.size
      obtain ⟨M, hM⟩ : ∃ M, wr.heap.size = M := ⟨_, rfl⟩
      obtain ⟨W0, hW0⟩ : ∃ W0, wr = W0 := ⟨_, rfl⟩
      have HBW : Hid (∀ W, Below M W0 W → Below w.heap.size w W ∧ OwnJ w.heap.size W u3 o) := fun W hW => by
        rw [← hW0, ← hM] at hW
        exact ⟨bel_then HB.out hsz hW, HO.out.on hW⟩
      have HM0 : Hid (Below M W0 W0) := Below.refl _ _
      have HMS : Hid (M = W0.heap.size) := by show _ = _; rw [← hW0]; exact hM.symm
      rw [hM] at HOB hsz
      have HE0 : Hid (OwnT M W0 (.slice none 0 0) (ts.take 0)) := by show OwnT _ _ _ _; rw [List.take_zero]; exact World.ownsRow_nil _ _ _ _
      clear hxs hxi hx hcl hnx HO HB
      go_wp2_with fail
      go_loopg [5, 6] ts.length (fun g vs vj wr2 => ∃ j : Nat, vj = .int .i64 j ∧ j ≤ ts.length ∧ ts.length - j ≤ g ∧ Hid (OwnT M wr2 vs (ts.take j)) ∧ Hid (Below M W0 wr2))
      case atStart => exact ⟨0, rfl, by omega, by omega, HE0.out, HM0.out⟩
      case round =>
        clear HE0 hW0 hM
        obtain ⟨j, rfl, hj, hgj, HT, HBJ⟩ := hrel
        obtain ⟨hbw, hoj⟩ := HBW.out wr HBJ.out
        obtain ⟨e0, e1⟩ := HCL.out wr hbw
        have hszM : M ≤ wr.heap.size := by have := HBJ.out.size; have h2 := HMS.out; omega
        have htl : (ts.take j).length = j := by rw [List.length_take]; omega
        by_cases hlj : j < ts.length
        · have hljz : (j : Int) < (ts.length : Int) := by omega
          have hjz : (0 : Int) ≤ j := by omega
          obtain ⟨b2, o2, rfl, ht2⟩ : ∃ b o, p5 = some ⟨b, o, none⟩ ∧ ∀ i, (h : i < ts.length) → w.cell? ⟨b, o + i, none⟩ = some (.string ts[i]) := by
            rcases HXI.out with h | h
            · rw [h] at hlj; simp at hlj
            · exact h
          have t0 : wr.cell? ⟨b2, o2 + j, none⟩ = some (.string ts[j]) := (hbw.cell (p := ⟨b2, o2 + j, none⟩) (cell_block (ht2 j hlj))).trans (ht2 j hlj)
          have hst : ts.take (j + 1) = ts.take j ++ [ts[j]] := List.take_succ_eq_append_getElem hlj
          obtain ⟨t, hte⟩ : ∃ t, ts[j] = t := ⟨_, rfl⟩
          rw [hte] at t0 hst
          have HST := hid hst
          obtain ⟨acc, hacc⟩ : ∃ acc, ts.take j = acc := ⟨_, rfl⟩
          rw [hacc] at HT HST htl
          clear ht2 hst hte hacc hoj hbw
          go_wp2_with (at_builtin; refine wpList_append_own _ rfl _ _ 105 rfl M 9 i0 (.string ⟨#[]⟩) 1 16 Tryz.underlying105 HI.out hz0 hz1 hz2 rfl (by decide) _ _ _ rfl (World.ownsRow.alloc HT.out _) _ 1 1 [.string t] rfl rfl (fun j u hj => KT.news wr t j u hj) (by intro u hu; simp at hu; subst hu; rfl) (by unfold maxLen; omega) (by omega) (by simp; omega) ?_; intro v4 w4 hown4 hg4 hnil4; have HO4 := hid hown4; have HG4 := hid hg4; clear hown4 hg4 hnil4)
          go_roundg (ts.length - (j + 1))
          case measure => omega
          refine ⟨j + 1, by go_num, by omega, by omega, ?_, ?_⟩
          · rw [HST.out]
            show OwnT _ _ _ _
            unfold OwnT
            rw [List.length_append, List.map_append]
            exact HO4.out
          · exact (HBJ.out.alloc hszM _).grown HG4.out (by simp; omega) (fun k hk => (World.ownsRow.lt HT.out k hk).1)
        · have hljz : ¬ (j : Int) < (ts.length : Int) := by omega
          have hjt : ts.take j = ts := List.take_of_length_le (by omega)
          rw [hjt] at HT
          obtain ⟨p6, c6, hsl⟩ := own_slice HT.out
          subst hsl
          have HOJ := hid hoj
          have HBWW := hid hbw
          have hbs := hbw.size
          clear hjt htl hoj hbw
          go_wp2_with (at_builtin; refine wpList_append_own _ rfl _ _ 37 rfl w.heap.size 107 j0 (.agg #[.string ⟨#[]⟩, .slice none 0 0]) 2 40 Tryz.underlying37 HJ.out hy0 hy1 hy2 rfl (by decide) _ _ _ rfl (World.ownsRow.alloc HOJ.out.1.1 _) ⟨wr.heap.size, 0, none⟩ 1 1 (cellsX [⟨nm, p6, c6, ts⟩]) rfl rfl (news_x wr ⟨nm, p6, c6, ts⟩) (cellsX_one _) (by unfold maxLen; omega) (by omega) (by simp; omega) ?_; intro v4 w4 hown4 hg4 hnil4; have HO4 := hid hown4; have HG4 := hid hg4; clear hown4 hg4 hnil4)
          go_roundg (d.length - (i + 1))
          case measure => omega
          refine ⟨i + 1, o ++ [⟨nm, p6, c6, ts⟩], by go_num, by omega, by omega, ?_, ?_, ?_⟩
          · show _ = _
            rw [List.map_append, HM.out, HNX.out]; rfl
          · have hal := (Below.refl wr.heap.size wr).alloc (Nat.le_refl _) (.cells #[.string nm, .slice p6 ts.length c6] 107)
            exact joined_put (M := M) (HOJ.out.on hal) (show OwnT M _ (Fx.sl ⟨nm, p6, c6, ts⟩) ts from OwnT.on HT.out hal) (fun y hy k hk => HOB.out y hy k hk) hsz HO4.out HG4.out
          · exact (HBWW.out.alloc hbs _).grown HG4.out (by simp; omega) (fun k hk => (World.ownsRow.lt HOJ.out.1.1 k hk).1)
    · have hltz : ¬ (i : Int) < (d.length : Int) := by omega
      have hti : d.take i = d := List.take_of_length_le (by omega)
      rw [hti] at HM
      go_wp2_with fail
      go_ret
      exact ⟨_, rfl, o, HO.out, HM.out, HB.out⟩

end Go.Proofs.YticfpkodoghnnaaGreat

/-
  The contract of withText: a text behind a row of bytes.
-/
namespace Go.Proofs.YticfpkodoghnnaaGreat
open Go.RowKit

/-- v owns the bytes bs, in a row at or behind n0. -/
def OwnB (n0 : Nat) (w : World) (v : Value) (bs : List UInt8) : Prop := w.ownsRow n0 5 1 v bs.length (Lib.byteCells bs)

/-- Whatever is no row of bytes lies as it lay. -/
def KeptB (w w' : World) : Prop := ∀ (k : Nat) (o : Obj), w.heap[k]? = some o → (¬ ∃ cs fr, o = .cells cs 5 fr) → w'.heap[k]? = some o

theorem KeptB.refl (w : World) : KeptB w w := fun _ _ h _ => h
theorem KeptB.trans {a b c : World} (h : KeptB a b) (k : KeptB b c) : KeptB a c := fun i o hi hn => k i o (h i o hi hn) hn
theorem KeptB.alloc (w : World) (o : Obj) : KeptB w (w.alloc o) := fun i _ hi _ => (Below.heap_alloc w o i (Array.getElem?_eq_some_iff.1 hi).1).trans hi
theorem KeptB.grown {w w' : World} {n0 : Nat} {v : Value} {n : Nat} {xs : List Value} (hown : w.ownsRow n0 5 1 v n xs) (hg : w.grownBy w' v.ownBlock) : KeptB w w' := fun i o hi hn => by
  refine (hg.block i (Array.getElem?_eq_some_iff.1 hi).1 fun e => ?_).trans hi
  rcases hown.2 with ⟨hv, _⟩ | ⟨g, cap, cur, hv, _, hgb, _⟩
  · rw [hv] at e; cases e
  · rw [hv] at e
    have : i = g := by simpa [Value.ownBlock] using e
    subst this
    rw [hgb] at hi
    exact hn ⟨cur, (0, 0), by cases hi; rfl⟩
theorem KeptB.below {w w' : World} (h : Below w.heap.size w w') : KeptB w w' := fun i _ hi _ => (h.block i (Array.getElem?_eq_some_iff.1 hi).1).trans hi

theorem OwnB.on {n0 : Nat} {w w' : World} {v : Value} {bs : List UInt8} (h : OwnB n0 w v bs) (hb : Below w.heap.size w w') : OwnB n0 w' v bs := own_on h hb

end Go.Proofs.YticfpkodoghnnaaGreat

/-
  The contracts of Encode and Size.
-/
namespace Go.Proofs.YticfpkodoghnnaaGreat
open Go.RowKit

def encT (t : ByteArray) : List UInt8 := UInt8.ofNat t.size :: t.data.toList
def encF (f : Fld) : List UInt8 := encT f.1 ++ [UInt8.ofNat f.2.length] ++ f.2.flatMap encT
def encL (fs : List Fld) : List UInt8 := UInt8.ofNat fs.length :: fs.flatMap encF

theorem encT_len (t : ByteArray) : (encT t).length = t.size + 1 := by simp [encT]

theorem flat_len {α : Type} (f : α → List UInt8) (c : Nat) (l : List α) (h : ∀ x ∈ l, (f x).length ≤ c) : (l.flatMap f).length ≤ l.length * c := by
  induction l with
  | nil => simp
  | cons x l ih =>
    rw [List.flatMap_cons, List.length_append, List.length_cons, Nat.add_mul]
    have h1 := h x (by simp)
    have h2 := ih fun y hy => h y (by simp [hy])
    omega

theorem fieldB_len {l : List UInt8} (h : fieldB l = true) : l.length ≤ 32 := by
  unfold fieldB spell at h
  cases l with
  | nil => simp
  | cons c r => simp at h; simp; omega

theorem fits_parts {f : Fld} (h : fitsB f = true) : f.1.size ≤ 32 ∧ 0 < f.2.length ∧ f.2.length ≤ 8 ∧ (∀ t ∈ f.2, t.size ≤ 128) ∧ fieldB f.1.data.toList = true := by
  unfold fitsB at h
  simp only [Bool.and_eq_true, Bool.not_eq_true', decide_eq_true_eq] at h
  obtain ⟨⟨⟨h1, h2⟩, h3⟩, h4⟩ := h
  refine ⟨by simpa using fieldB_len h1, ?_, h3, fun t ht => ?_, h1⟩
  · cases hf : f.2 with
    | nil => rw [hf] at h2; simp at h2
    | cons _ _ => simp
  · rw [List.any_eq_false] at h4
    have := h4 t ht
    unfold longB at this
    simpa using this

theorem fits_texts {f : Fld} (h : fitsB f = true) (j : Nat) : ((f.2.take j).flatMap encT).length ≤ 1032 := by
  obtain ⟨_, _, h3, h4, _⟩ := fits_parts h
  have := flat_len encT 129 (f.2.take j) (fun t ht => by rw [encT_len]; have := h4 t (List.mem_of_mem_take ht); omega)
  rw [List.length_take] at this
  have h5 : min j f.2.length * 129 ≤ 8 * 129 := Nat.mul_le_mul_right _ (by omega)
  omega

theorem encF_len {f : Fld} (h : fitsB f = true) : (encF f).length ≤ 1066 := by
  have h1 := (fits_parts h).1
  have h2 := fits_texts h f.2.length
  rw [List.take_length] at h2
  unfold encF
  rw [List.length_append, List.length_append, encT_len]
  simp only [List.length_cons, List.length_nil]
  omega

theorem may_parts {fs : List Fld} (h : mayB fs = true) : fs.length ≤ 16 ∧ ∀ i, i < fs.length → stepOk fs i = true := by
  unfold mayB at h
  rw [Bool.and_eq_true, decide_eq_true_eq, List.all_eq_true] at h
  exact ⟨h.1, fun i hi => h.2 i (List.mem_range.2 hi)⟩

theorem may_fits {fs : List Fld} (h : mayB fs = true) : ∀ f ∈ fs, fitsB f = true := by
  intro f hf
  obtain ⟨i, hi, rfl⟩ := List.mem_iff_getElem.1 hf
  have := (may_parts h).2 i hi
  unfold stepOk at this
  rw [Bool.and_eq_true, List.getD_eq_getElem?_getD, List.getElem?_eq_getElem hi] at this
  exact this.1

theorem enc_ahead {fs : List Fld} (h : mayB fs = true) (i : Nat) : ((fs.take i).flatMap encF).length ≤ 17056 := by
  have := flat_len encF 1066 (fs.take i) (fun f hf => encF_len (may_fits h f (List.mem_of_mem_take hf)))
  rw [List.length_take] at this
  have h5 : min i fs.length * 1066 ≤ 16 * 1066 := Nat.mul_le_mul_right _ (by have := (may_parts h).1; omega)
  omega

/-- A field's box is no row of bytes. -/
theorem box_kept {w w' : World} {F : Nat} {cs : Array Value} {fr : Nat × Nat} (hk : KeptB w w') (h : w.heap[F]? = some (.cells cs 107 fr)) : w'.heap[F]? = some (.cells cs 107 fr) :=
  hk F _ h (by rintro ⟨cs', fr', e⟩; injection e with _ e; exact absurd e (by decide))

theorem box_cells {w w' : World} {u v : Value} (hk : KeptB (w.alloc (.cells #[u, v] 107)) w') :
    w'.cell? ⟨w.heap.size, 0, none⟩ = some u ∧ w'.cell? ⟨w.heap.size, 1, none⟩ = some v := by
  have hbx := box_kept hk (heap_alloc_new w _)
  exact ⟨by rw [Lib.cell_of_heap hbx]; rfl, by rw [Lib.cell_of_heap hbx]; rfl⟩

def encV (w' : World) (n0 : Nat) (fs : List Fld) (e : Ending) : Prop :=
  if mayB fs = true then ∃ v, e = .returned (.tuple #[v, .int .i64 0]) ∧ OwnB n0 w' v (encL fs) else e = .returned (.tuple #[.slice none 0 0, .int .i64 3])

end Go.Proofs.YticfpkodoghnnaaGreat

/-
  Frames (stage 6): which blocks have turned; and what of the rest stays.
-/
namespace Go.Proofs.YticfpkodoghnnaaGreat
open Go.RowKit

/-- The blocks of a value: its fields' row, and the rows of their texts. -/
def BlkX (u : Value) (o : List Fx) (k : Nat) : Prop := u.ownBlock = some k ∨ ∃ f ∈ o, f.sl.ownBlock = some k
def BlkV (x : Vx) (k : Nat) : Prop := BlkX x.sl x.o k

theorem ownJ_blk {N : Nat} {w : World} {u : Value} {o : List Fx} (h : OwnJ N w u o) (k : Nat) (hk : BlkX u o k) : N ≤ k ∧ k < w.heap.size := by
  rcases hk with hk | ⟨f, hf, hk⟩
  · exact World.ownsRow.lt h.1.1 k hk
  · exact World.ownsRow.lt (h.1.2 f hf) k hk

theorem ownJ_slice {n0 : Nat} {w : World} {u : Value} {o : List Fx} (h : OwnJ n0 w u o) : ∃ p cap, u = .slice p o.length cap := by
  rcases h.1.1.2 with ⟨h1, h2⟩ | ⟨g, cap, _, h1, _⟩
  · exact ⟨none, 0, by rw [h2]; exact h1⟩
  · exact ⟨_, _, h1⟩

theorem ownJ_fr {P : Nat → Prop} {N : Nat} {w W : World} {u : Value} {o : List Fx} (h : OwnJ N w u o) (f : Fr P w W) (hP : ∀ k, BlkX u o k → ¬ P k) : OwnJ N W u o :=
  ⟨⟨f.row h.1.1 fun k hk => hP k (Or.inl hk), fun x hx => f.row (h.1.2 x hx) fun k hk => hP k (Or.inr ⟨x, hx, hk⟩)⟩, h.2⟩

/-- A row of versions is no row of fields, and none of texts. -/
theorem ownJ_set {B : Nat} {w : World} {u : Value} {o : List Fx} (h : OwnJ B w u o) {b j : Nat} (hb : b < B) (v : Value) : OwnJ B (w.setCell ⟨b, j, none⟩ v) u o :=
  ownJ_fr h (Fr.of_grown (P := fun k => k = b) (grown_set w b j v) fun k hk => by simpa using hk.symm) fun k hk e => by
    have h1 := (ownJ_blk h k hk).1
    omega

theorem ver_off {n0 N : Nat} {w : World} {vs u : Value} {d : List Vx} {o : List Fx} (h : KV.Own n0 w vs d) (hx : OwnJ N w u o) (k : Nat) (hk : vs.ownBlock = some k) : ¬ BlkX u o k := by
  obtain ⟨cs, h1⟩ := own_type (show w.ownsRow n0 39 5 vs d.length (KV.cells d) from h) hk
  intro hb
  rcases hb with hb | ⟨f, hf, hb⟩
  · obtain ⟨cs', h2⟩ := own_type hx.1.1 hb
    rw [h1] at h2
    injection h2 with h2
    injection h2 with _ h2
    exact absurd h2 (by decide)
  · obtain ⟨cs', h2⟩ := own_type (show w.ownsRow N 9 1 f.sl f.txt.length (f.txt.map Value.string) from hx.1.2 f hf) hb
    rw [h1] at h2
    injection h2 with h2
    injection h2 with _ h2
    exact absurd h2 (by decide)

/-- A value that may be, fits. -/
theorem may_small {fs : List Fld} (h : mayB fs = true) : fs.length ≤ 16 ∧ ∀ f ∈ fs, f.1.size ≤ maxLen ∧ f.2.length ≤ 8 ∧ ∀ t ∈ f.2, t.size ≤ 128 := by
  unfold mayB at h
  rw [Bool.and_eq_true, decide_eq_true_eq, List.all_eq_true] at h
  refine ⟨h.1, fun f hf => ?_⟩
  obtain ⟨i, hi, rfl⟩ := List.mem_iff_getElem.1 hf
  have hs := h.2 i (by simpa using hi)
  have hg : fs.getD i default = fs[i] := by simp [List.getD, hi]
  unfold stepOk at hs
  rw [hg, Bool.and_eq_true] at hs
  obtain ⟨h1, _, h2, h3, _⟩ := fits_parts hs.1
  exact ⟨by unfold maxLen; omega, h2, h3⟩

theorem may_fit {o : List Fx} (h : mayB (o.map Fx.fld) = true) : FitX o ∧ CopyX o := by
  obtain ⟨h1, h2⟩ := may_small h
  rw [List.length_map] at h1
  have h3 : ∀ x ∈ o, x.name.size ≤ maxLen ∧ x.txt.length ≤ 8 ∧ ∀ t ∈ x.txt, t.size ≤ 128 := fun x hx => h2 x.fld (List.mem_map.2 ⟨x, hx, rfl⟩)
  refine ⟨⟨by unfold maxLen; omega, fun x hx => ⟨(h3 x hx).1, ?_, fun t ht => ?_⟩⟩, ⟨by omega, fun x hx => by have := (h3 x hx).2.1; omega⟩⟩
  · have := (h3 x hx).2.1
    show x.txt.length ≤ maxLen
    unfold maxLen; omega
  · have := (h3 x hx).2.2 t ht
    unfold maxLen; omega

theorem may_nil : mayB [] = true := by decide

/-- A chain of the program in block g: its list of versions. -/
structure PrgC (n0 : Nat) (w : World) (g : Nat) (d : List Vx) (vs : Value) : Prop where
  cell : w.cell? ⟨g, 0, none⟩ = some vs
  free : w.frozen? ⟨g, 0, none⟩ = false
  base : n0 ≤ g
  row : KV.Own n0 w vs d
  each : ∀ x ∈ d, OwnJ n0 w x.sl x.o ∧ mayB (x.o.map Fx.fld) = true
  off : ∀ k, (vs.ownBlock = some k ∨ ∃ x ∈ d, BlkV x k) → k ≠ g
  ok : OkV (d.map Vx.ver)
  top : (lastV (d.map Vx.ver)).num ≤ 2400000000000

/-- The blocks of a chain. -/
def BlkC (g : Nat) (d : List Vx) (vs : Value) (k : Nat) : Prop := k = g ∨ vs.ownBlock = some k ∨ ∃ x ∈ d, BlkV x k

theorem PrgC.blk {n0 : Nat} {w : World} {g : Nat} {d : List Vx} {vs : Value} (h : PrgC n0 w g d vs) (k : Nat) (hk : BlkC g d vs k) : n0 ≤ k ∧ k < w.heap.size := by
  rcases hk with rfl | hk | ⟨x, hx, hk⟩
  · exact ⟨h.base, cell_block h.cell⟩
  · exact World.ownsRow.lt (show w.ownsRow n0 39 5 vs d.length (KV.cells d) from h.row) k hk
  · exact ownJ_blk (h.each x hx).1 k hk

theorem PrgC.fr {P : Nat → Prop} {n0 : Nat} {w W : World} {g : Nat} {d : List Vx} {vs : Value} (h : PrgC n0 w g d vs) (f : Fr P w W) (hP : ∀ k, BlkC g d vs k → ¬ P k) : PrgC n0 W g d vs := by
  have hg : W.heap[g]? = w.heap[g]? := f.block g (cell_block h.cell) (hP g (Or.inl rfl))
  refine ⟨f.cell h.cell (hP g (Or.inl rfl)), ?_, h.base, f.row (show w.ownsRow n0 39 5 vs d.length (KV.cells d) from h.row) fun k hk => hP k (Or.inr (Or.inl hk)), fun x hx => ⟨ownJ_fr (h.each x hx).1 f fun k hk => hP k (Or.inr (Or.inr ⟨x, hx, hk⟩)), (h.each x hx).2⟩, h.off, h.ok, h.top⟩
  have := h.free
  unfold World.frozen? at this ⊢
  rw [hg]
  exact this

theorem PrgC.on {n0 : Nat} {w W : World} {g : Nat} {d : List Vx} {vs : Value} (h : PrgC n0 w g d vs) (hb : Below w.heap.size w W) : PrgC n0 W g d vs :=
  h.fr (P := fun _ => False) (Fr.of_below hb) fun _ _ hf => hf

theorem ok_len {l : List Vr} (h : OkV l) : (l.length : Int) ≤ (lastV l).num := by
  rcases Nat.eq_zero_or_pos l.length with e | e
  · obtain rfl := List.length_eq_zero_iff.1 e
    exact Int.le_refl _
  · rw [lastV_get e, ok_num h (l.length - 1) (by omega)]
    have := (h.first _ (List.getElem_mem e)).1
    omega

theorem PrgC.few {n0 : Nat} {w : World} {g : Nat} {d : List Vx} {vs : Value} (h : PrgC n0 w g d vs) : d.length ≤ 2400000000000 := by
  have h1 := ok_len h.ok
  have h2 := h.top
  rw [List.length_map] at h1
  omega

theorem PrgC.fits {n0 : Nat} {w : World} {g : Nat} {d : List Vx} {vs : Value} (h : PrgC n0 w g d vs) : ∀ x ∈ d, x.at w ∧ FitX x.o ∧ CopyX x.o := fun x hx => by
  obtain ⟨h1, h2⟩ := h.each x hx
  have h3 := may_fit h2
  exact ⟨h1.1.is, h3.1, h3.2⟩

end Go.Proofs.YticfpkodoghnnaaGreat

/-
  The program's chain (stage 6): a value in memory of its own.
-/
namespace Go.Proofs.YticfpkodoghnnaaGreat
open Go.RowKit

/-- A copy under way: the first ones have texts of their own. -/
structure CpIn (w : World) (u : Value) (d : List Fx) (i : Nat) (o : List Fx) (W : World) : Prop where
  len : o.length = i
  row : W.ownsRow w.heap.size 107 2 u d.length (cellsX (o ++ d.drop i))
  txt : ∀ x ∈ o, OwnT w.heap.size W x.sl x.txt
  apart : Apart o
  fld : o.map Fx.fld = (d.take i).map Fx.fld
  bel : Below w.heap.size w W

theorem set_mid {α : Type} {o d : List α} {i : Nat} (ho : o.length = i) (hi : i < d.length) (x : α) : (o ++ d.drop i).set i x = (o ++ [x]) ++ d.drop (i + 1) := by
  subst ho
  rw [List.drop_eq_getElem_cons hi, List.set_append_right _ _ (Nat.le_refl _), Nat.sub_self, List.set_cons_zero]
  simp

theorem get_mid {α : Type} {o d : List α} {i : Nat} (ho : o.length = i) (hi : i < d.length) : (o ++ d.drop i)[i]'(by simp [ho]; omega) = d[i] := by
  subst ho
  rw [List.getElem_append_right (Nat.le_refl _), List.getElem_drop]
  simp

theorem CpIn.start {w W : World} {u : Value} {d : List Fx} (h : W.ownsRow w.heap.size 107 2 u d.length (cellsX d)) (hb : Below w.heap.size w W) : CpIn w u d 0 [] W :=
  ⟨rfl, by simpa using h, fun x hx => by simp at hx, List.Pairwise.nil, by simp, hb⟩

theorem CpIn.cells {w W : World} {g c : Nat} {d o : List Fx} {i : Nat} (h : CpIn w (.slice (some ⟨g, 0, none⟩) d.length c) d i o W) (hi : i < d.length) : ∀ W', Below W.heap.size W W' →
    W'.cell? ⟨g, i * 2 + 1, none⟩ = some (d[i]).sl ∧ W'.frozen? ⟨g, i * 2 + 1, none⟩ = false := fun W' hb => by
  have hr := own_on h.row hb
  have hl : (o ++ d.drop i).length = d.length := by rw [List.length_append, List.length_drop, h.len]; omega
  have h1 := (cellsX_get (o ++ d.drop i) i (by omega)).2
  rw [get_mid h.len hi] at h1
  exact ⟨by rw [hr.cellAt _ (by omega)]; exact h1, hr.frozenAt _⟩

theorem CpIn.next {w W W5 : World} {g c : Nat} {d o : List Fx} {i : Nat} (h : CpIn w (.slice (some ⟨g, 0, none⟩) d.length c) d i o W) (hi : i < d.length) {p5 : Option Addr} {c5 : Nat} (hb : Below W.heap.size W W5) (ht : OwnT W.heap.size W5 (.slice p5 (d[i]).txt.length c5) (d[i]).txt) :
    CpIn w (.slice (some ⟨g, 0, none⟩) d.length c) d (i + 1) (o ++ [⟨(d[i]).name, p5, c5, (d[i]).txt⟩]) (W5.setCell ⟨g, i * 2 + 1, none⟩ (.slice p5 (d[i]).txt.length c5)) := by
  have hr5 := own_on h.row hb
  have hNg := (World.ownsRow.lt h.row g rfl).1
  have hNW : w.heap.size ≤ W.heap.size := h.bel.size
  have hl : (o ++ d.drop i).length = d.length := by rw [List.length_append, List.length_drop, h.len]; omega
  have hset := set_mid h.len hi (⟨(d[i]).name, p5, c5, (d[i]).txt⟩ : Fx)
  have hgr : W5.grownBy (W5.setCell ⟨g, i * 2 + 1, none⟩ (.slice p5 (d[i]).txt.length c5)) (Value.slice (some ⟨g, 0, none⟩) d.length c).ownBlock := grown_set W5 g _ _
  refine ⟨by rw [List.length_append, h.len]; rfl, ?_, fun x hx => ?_, ?_, ?_, ?_⟩
  · have hst := (hr5.stored (i * 2 + 1) (.slice p5 (d[i]).txt.length c5)).1
    rw [← hset, cellsX_set _ _ (by omega)]
    have e1 : (cellsX (o ++ d.drop i)).set (i * 2) (.string (⟨(d[i]).name, p5, c5, (d[i]).txt⟩ : Fx).name) = cellsX (o ++ d.drop i) := by
      apply List.ext_getElem?
      intro q
      rw [List.getElem?_set]
      split
      · rename_i hq
        subst hq
        rw [if_pos (by rw [cellsX_len]; omega)]
        have := (cellsX_get (o ++ d.drop i) i (by omega)).1
        rw [get_mid h.len hi] at this
        exact this.symm
      · rfl
    rw [e1]
    exact hst
  · rcases List.mem_append.1 hx with hx | hx
    · exact own_else (OwnT.on (h.txt x hx) hb) hr5 (by decide) hgr
    · rw [List.mem_singleton] at hx
      subst hx
      exact own_else (show W5.ownsRow w.heap.size 9 1 (.slice p5 (d[i]).txt.length c5) (d[i]).txt.length ((d[i]).txt.map Value.string) from own_weak ht hNW) hr5 (by decide) hgr
  · refine apart_snoc h.apart fun y hy => ?_
    rcases hk : y.sl.ownBlock with _ | k
    · exact Or.inl rfl
    · right
      have h1 := (World.ownsRow.lt (h.txt y hy) k hk).2
      intro e
      have h2 := (World.ownsRow.lt ht k (by rw [e]; rfl)).1
      omega
  · rw [List.map_append, h.fld, List.take_succ_eq_append_getElem hi, List.map_append]
    rfl
  · exact (bel_then h.bel hNW hb).setCell hNg _

theorem CpIn.done {w W : World} {u : Value} {d o : List Fx} {i : Nat} (h : CpIn w u d i o W) (hi : ¬ i < d.length) : OwnJ w.heap.size W u o ∧ o.map Fx.fld = d.map Fx.fld := by
  have hf := h.fld
  rw [List.take_of_length_le (by omega)] at hf
  have hol : o.length = d.length := by simpa using congrArg List.length hf
  have hr := h.row
  rw [List.drop_eq_nil_of_le (by omega), List.append_nil, ← hol] at hr
  exact ⟨⟨⟨hr, h.txt⟩, h.apart⟩, hf⟩

set_option maxHeartbeats 4000000 in
set_option maxRecDepth 100000 in
theorem copied_any (v : Value) (d : List Fx) (w : World) (hv : IsXs w v d) (hf : FitX d) (hc : CopyX d) :
    Calls Tryz.prog 80 #[v] w fun e w' => ∃ u o, e = .returned u ∧ OwnJ w.heap.size w' u o ∧ o.map Fx.fld = d.map Fx.fld ∧ Below w.heap.size w w' := by
  have HC := hid (cloneX_any v d w hv hc.1)
  have HT := hid hv.at_all
  have H16 := hid hc.2
  have hl := hf.1
  unfold maxLen at hl
  clear hv hf hc
  go_enter Tryz.func80, Tryz.ntmps80
  go_wp2_with fail
  refine HC.out.mono ?_
  rintro e w1 ⟨u, rfl, ho, hb⟩
  have H0 := hid (CpIn.start ho hb)
  obtain ⟨p, cap, rfl, hp⟩ : ∃ p cap, u = .slice p d.length cap ∧ (0 < d.length → ∃ g, p = some ⟨g, 0, none⟩) := by
    rcases ho.2 with ⟨h1, h2⟩ | ⟨g, cap, _, h1, _⟩
    · exact ⟨none, 0, by rw [h2]; exact h1, fun h => by omega⟩
    · exact ⟨_, _, h1, fun _ => ⟨g, rfl⟩⟩
  have HP := hid hp
  clear ho hb HC hp
  go_wp2_with fail
  go_loopg [9] d.length (fun gg vi wr => ∃ (i : Nat) (o : List Fx), vi = .int .i64 i ∧ i ≤ d.length ∧ d.length - i ≤ gg ∧ Hid (CpIn w (.slice p d.length cap) d i o wr))
  case atStart => exact ⟨0, [], rfl, by omega, by omega, H0.out⟩
  case round =>
    clear H0
    obtain ⟨i, o, rfl, hi, hgk, HI⟩ := hrel
    by_cases hlt : i < d.length
    · have hltz : (i : Int) < (d.length : Int) := by omega
      have hiz : (0 : Int) ≤ i := by omega
      obtain ⟨g, rfl⟩ := HP.out (by omega)
      obtain ⟨c0, f0⟩ := HI.out.cells hlt wr (Below.refl _ _)
      have HCL := hid (HI.out.cells hlt)
      have HCT := hid (cloneT_any (d[i]).p (d[i]).cap (d[i]).txt wr ((HT.out _ (List.getElem_mem hlt)).kept HI.out.bel) (H16.out _ (List.getElem_mem hlt)))
      have HNX : Hid (∀ W5 p5 c5, Below wr.heap.size wr W5 → OwnT wr.heap.size W5 (.slice p5 (d[i]).txt.length c5) (d[i]).txt → CpIn w (.slice (some ⟨g, 0, none⟩) d.length cap) d (i + 1) (o ++ [⟨(d[i]).name, p5, c5, (d[i]).txt⟩]) (W5.setCell ⟨g, i * 2 + 1, none⟩ (.slice p5 (d[i]).txt.length c5))) := fun W5 p5 c5 h1 h2 => HI.out.next hlt h1 h2
      clear HI
      generalize d[i] = x at *
      obtain ⟨nm, p5, c5, ts⟩ := x
      simp only [Fx.sl] at c0 HCL HCT HNX
      go_wp2_with fail
      refine HCT.out.mono ?_
      rintro e w5 ⟨sv, rfl, hot5, hb5⟩
      obtain ⟨p6, c6, rfl⟩ := own_slice hot5
      obtain ⟨q0, q1⟩ := HCL.out w5 hb5
      have HN := hid (HNX.out w5 p6 c6 hb5 hot5)
      clear hot5 hb5 c0 f0
      go_wp2_with fail
      go_roundg (d.length - (i + 1))
      case measure => omega
      exact ⟨i + 1, _, by go_num, by omega, by omega, HN.out⟩
    · have hltz : ¬ (i : Int) < (d.length : Int) := by omega
      have HD := hid (HI.out.done hlt)
      have HB := hid HI.out.bel
      clear HI
      go_wp2_with fail
      go_ret
      exact ⟨_, rfl, o, HD.out.1, HD.out.2, HB.out⟩

end Go.Proofs.YticfpkodoghnnaaGreat

/-
  The program's chain (stage 6): versions in memory of their own, one and all.
-/
namespace Go.Proofs.YticfpkodoghnnaaGreat
open Go.RowKit

theorem kcells {α : Type} {K : Kind α} {w : World} {b off : Nat} {d : List α} (h : K.At w b off d) : ∀ j u, (K.cells d)[j]? = some u → w.cell? ⟨b, off + j, none⟩ = some u := by
  intro j u hj
  obtain ⟨a, he⟩ : ∃ a, a = (some ⟨b, off, none⟩ : Option Addr) := ⟨_, rfl⟩
  have hk : 0 < K.k := K.pos
  have hjl := (List.getElem?_eq_some_iff.1 hj).1
  rw [K.cells_len] at hjl
  have hd : j / K.k < d.length := by rw [Nat.div_lt_iff_lt_mul hk]; exact hjl
  have hm := Nat.mod_lt j hk
  have hdm : j / K.k * K.k + j % K.k = j := by rw [Nat.mul_comm]; exact Nat.div_add_mod j K.k
  have hg := K.cells_get d (j / K.k) hd (j % K.k) hm
  rw [hdm, hj] at hg
  have := h (j / K.k) hd (j % K.k) u hg.symm
  rwa [Nat.add_assoc, hdm] at this

set_option maxHeartbeats 2000000 in
set_option maxRecDepth 100000 in
theorem cloneV_any (v : Value) (p : List Vx) (w : World) (hv : KV.Is w v p) (hs : p.length * 56 ≤ 140737488355328) :
    Calls Tryz.prog 83 #[v] w fun e w' => ∃ u, e = .returned u ∧ KV.Own w.heap.size w' u p ∧ Below w.heap.size w w' := by
  obtain ⟨i0, hi, hz0, hz1, hz2⟩ := info_parts Tryz.infoVer
  obtain ⟨q, cap, rfl, hd⟩ := hv
  have q22 : ∀ (w : World) (a : Option Addr) (n c n' c' : Nat), (binOp .eql 51 (.slice a n c) (.slice none n' c')).run Tryz.prog w = .ok (.bool a.isNone) w := fun w a n c n' c' => Lib.run_eql_slice_nil w _ _ a n c n' c' Tryz.underlying51
  have HD := hid hd
  clear hd
  cases q with
  | none =>
    have h0 : p = [] := by
      rcases HD.out with h | ⟨b, off, h, _⟩
      · exact h
      · cases h
    subst h0
    go_enter Tryz.func83, Tryz.ntmps83
    go_wp2_with fail
    go_ret
    exact ⟨_, rfl, KV.own_nil _ _, Below.refl _ _⟩
  | some a =>
    have hcells : ∀ j u, (KV.cells p)[j]? = some u → (w.alloc (.cells #[] 39)).cell? (a.add j) = some u := by
      rcases HD.out with h | ⟨b, off, h, hx⟩
      · subst h; intro j u hj; simp [Kind.cells] at hj
      · intro j u hj
        obtain rfl : a = ⟨b, off, none⟩ := by simpa using h
        rw [addr_add]
        have := kcells hx j u hj
        rw [World.cell?_alloc_lt _ _ ⟨b, off + j, none⟩ (cell_block this)]; exact this
    have HC := hid hcells
    clear hcells
    go_enter Tryz.func83, Tryz.ntmps83
    go_wp2_with (at_builtin; refine wpList_append_own _ rfl _ _ 51 rfl w.heap.size 39 i0 (.agg #[.int .i64 0, .int .u64 0, .int .i64 0, .bool false, .slice none 0 0]) 5 56 Tryz.underlying51 hi hz0 hz1 hz2 rfl (by decide) _ _ _ rfl (World.ownsRow_made w #[] 0 (Nat.le_refl _) (Nat.zero_le _) (by simp)) a p.length cap (KV.cells p) rfl ?c0 ?c1 ?c2 ?c3 ?c4 ?c5 ?_)
    case c0 => exact KV.cells_len p
    case c1 => exact HC.out
    case c2 => exact KV.cells_ones p
    case c3 => unfold maxLen; omega
    case c4 => omega
    case c5 => simp
    intro v' w1 hown hgrow hnil
    have hb1 : Below w.heap.size w w1 := ((Below.refl _ w).alloc (Nat.le_refl _) _).grown hgrow (by simp) (by intro k hk; simp [Value.ownBlock] at hk; omega)
    have HO : Hid (KV.Own w.heap.size w1 v' p) := hid (by show w1.ownsRow w.heap.size 39 5 v' p.length (KV.cells p); simpa using hown)
    clear hown hgrow hnil
    go_wp2_with fail
    go_ret
    exact ⟨_, rfl, HO.out, hb1⟩

theorem cellsV_cons (x : Vx) (l : List Vx) : KV.cells (x :: l) = .int .i64 x.num :: .int .u64 x.stamp :: .int .i64 x.tick :: .bool x.live :: x.sl :: KV.cells l := rfl

theorem cellsV_len (l : List Vx) : (KV.cells l).length = l.length * 5 := KV.cells_len l

/-- A version's value is put in its place. -/
theorem cellsV_set : ∀ (l : List Vx) (i : Nat) (h : i < l.length) (p : Option Addr) (cap : Nat) (o : List Fx),
    KV.cells (l.set i ⟨(l[i]).num, (l[i]).stamp, (l[i]).tick, (l[i]).live, p, cap, o⟩) = (KV.cells l).set (i * 5 + 4) (.slice p o.length cap)
  | [], i, h, _, _, _ => by simp at h
  | x :: l, 0, _, p, cap, o => by simp only [List.set_cons_zero, List.getElem_cons_zero, cellsV_cons]; rfl
  | x :: l, i + 1, h, p, cap, o => by
    have h' : i < l.length := by simpa using h
    rw [List.set_cons_succ]
    simp only [List.getElem_cons_succ, cellsV_cons]
    rw [cellsV_set l i h' p cap o, show (i + 1) * 5 + 4 = i * 5 + 4 + 1 + 1 + 1 + 1 + 1 by omega]
    rfl

/-- Versions that share no block. -/
def ApartV (o : List Vx) : Prop := o.Pairwise fun x y => ∀ k, BlkV x k → ¬ BlkV y k

/-- A list of copies under way. -/
structure TdIn (w : World) (u : Value) (d : List Vx) (i : Nat) (o : List Vx) (W : World) : Prop where
  len : o.length = i
  row : W.ownsRow w.heap.size 39 5 u d.length (KV.cells (o ++ d.drop i))
  val : ∀ x ∈ o, OwnJ w.heap.size W x.sl x.o
  apart : ApartV o
  ver : o.map Vx.ver = (d.take i).map Vx.ver
  bel : Below w.heap.size w W

theorem TdIn.start {w W : World} {u : Value} {d : List Vx} (h : KV.Own w.heap.size W u d) (hb : Below w.heap.size w W) : TdIn w u d 0 [] W :=
  ⟨rfl, by
    have h' : W.ownsRow w.heap.size 39 5 u d.length (KV.cells d) := h
    simpa using h', fun x hx => by simp at hx, List.Pairwise.nil, by simp, hb⟩

theorem TdIn.cells {w W : World} {g c : Nat} {d o : List Vx} {i : Nat} (h : TdIn w (.slice (some ⟨g, 0, none⟩) d.length c) d i o W) (hi : i < d.length) : ∀ W', Below W.heap.size W W' →
    W'.cell? ⟨g, i * 5 + 4, none⟩ = some (d[i]).sl ∧ W'.frozen? ⟨g, i * 5 + 4, none⟩ = false := fun W' hb => by
  have hr := own_on h.row hb
  have hl : (o ++ d.drop i).length = d.length := by rw [List.length_append, List.length_drop, h.len]; omega
  have h1 := KV.cells_get (o ++ d.drop i) i (by omega) 4 (by decide)
  rw [get_mid h.len hi] at h1
  exact ⟨by rw [hr.cellAt _ (by omega)]; exact h1, hr.frozenAt _⟩

theorem TdIn.next {w W W5 : World} {g c : Nat} {d o : List Vx} {i : Nat} (h : TdIn w (.slice (some ⟨g, 0, none⟩) d.length c) d i o W) (hi : i < d.length) {p5 : Option Addr} {c5 : Nat} {o5 : List Fx} (hb : Below W.heap.size W W5)
    (ht : OwnJ W.heap.size W5 (.slice p5 o5.length c5) o5) (hm : o5.map Fx.fld = (d[i]).o.map Fx.fld) :
    TdIn w (.slice (some ⟨g, 0, none⟩) d.length c) d (i + 1) (o ++ [⟨(d[i]).num, (d[i]).stamp, (d[i]).tick, (d[i]).live, p5, c5, o5⟩]) (W5.setCell ⟨g, i * 5 + 4, none⟩ (.slice p5 o5.length c5)) := by
  have hr5 := own_on h.row hb
  have hNg := (World.ownsRow.lt h.row g rfl).1
  have hNW : w.heap.size ≤ W.heap.size := h.bel.size
  have hl : (o ++ d.drop i).length = d.length := by rw [List.length_append, List.length_drop, h.len]; omega
  have hset := set_mid h.len hi (⟨(d[i]).num, (d[i]).stamp, (d[i]).tick, (d[i]).live, p5, c5, o5⟩ : Vx)
  have hgr : Fr (fun k => k = g) W5 (W5.setCell ⟨g, i * 5 + 4, none⟩ (.slice p5 o5.length c5)) := Fr.of_grown (grown_set W5 g _ _) fun k hk => by simpa using hk.symm
  have hoff : ∀ {N : Nat} {u : Value} {q : List Fx}, OwnJ N W5 u q → ∀ k, BlkX u q k → ¬ k = g := fun hj k hk e => by
    subst e
    have hr5' : KV.Own w.heap.size W5 (.slice (some ⟨k, 0, none⟩) d.length c) (o ++ d.drop i) := by
      show W5.ownsRow _ _ _ _ (o ++ d.drop i).length _
      rw [hl]; exact hr5
    exact ver_off hr5' hj k rfl hk
  refine ⟨by rw [List.length_append, h.len]; rfl, ?_, fun x hx => ?_, ?_, ?_, ?_⟩
  · have hst := (hr5.stored (i * 5 + 4) (.slice p5 o5.length c5)).1
    have hcs := cellsV_set (o ++ d.drop i) i (by omega) p5 c5 o5
    rw [get_mid h.len hi] at hcs
    rw [← hset, hcs]
    exact hst
  · rcases List.mem_append.1 hx with hx | hx
    · exact ownJ_fr ((h.val x hx).on hb) hgr (hoff ((h.val x hx).on hb))
    · rw [List.mem_singleton] at hx
      subst hx
      exact ownJ_fr (own_weakJ ht hNW) hgr (hoff ht)
  · unfold ApartV
    rw [List.pairwise_append]
    refine ⟨h.apart, List.pairwise_singleton _ _, fun a ha b hb2 k hk hk2 => ?_⟩
    rw [List.mem_singleton] at hb2
    subst hb2
    have h1 := (ownJ_blk (h.val a ha) k hk).2
    have h2 := (ownJ_blk ht k hk2).1
    omega
  · rw [List.map_append, h.ver, List.take_succ_eq_append_getElem hi, List.map_append]
    simp only [List.map_cons, List.map_nil, Vx.ver, hm]
  · exact (bel_then h.bel hNW hb).setCell hNg _

/-- What a list of copies is. -/
def AllPost (w : World) (l : List Vr) (e : Ending) (w' : World) : Prop :=
  ∃ u o, e = .returned u ∧ KV.Own w.heap.size w' u o ∧ (∀ x ∈ o, OwnJ w.heap.size w' x.sl x.o) ∧ ApartV o ∧ o.map Vx.ver = l ∧ Below w.heap.size w w'

theorem TdIn.done {w W : World} {u : Value} {d o : List Vx} {i : Nat} (h : TdIn w u d i o W) (hi : ¬ i < d.length) : AllPost w (d.map Vx.ver) (.returned u) W := by
  have hf := h.ver
  rw [List.take_of_length_le (by omega)] at hf
  have hol : o.length = d.length := by simpa using congrArg List.length hf
  have hr := h.row
  rw [List.drop_eq_nil_of_le (by omega), List.append_nil, ← hol] at hr
  exact ⟨u, o, rfl, hr, h.val, h.apart, hf, h.bel⟩

set_option maxHeartbeats 4000000 in
set_option maxRecDepth 100000 in
theorem toldAll_any (v : Value) (d : List Vx) (w : World) (hv : KV.Is w v d) (ha : ∀ x ∈ d, x.at w ∧ FitX x.o ∧ CopyX x.o) (hl : d.length ≤ 2400000000000) :
    Calls Tryz.prog 94 #[v] w fun e w' => AllPost w (d.map Vx.ver) e w' := by
  have HC := hid (cloneV_any v d w hv (by omega))
  have HA := hid ha
  clear hv ha
  go_enter Tryz.func94, Tryz.ntmps94
  go_wp2_with fail
  refine HC.out.mono ?_
  rintro e w1 ⟨u, rfl, ho, hb⟩
  have H0 := hid (TdIn.start ho hb)
  obtain ⟨p, cap, rfl, hp⟩ : ∃ p cap, u = .slice p d.length cap ∧ (0 < d.length → ∃ g, p = some ⟨g, 0, none⟩) := by
    rcases ho.2 with ⟨h1, h2⟩ | ⟨g, cap, _, h1, _⟩
    · exact ⟨none, 0, by rw [h2]; exact h1, fun h => by omega⟩
    · exact ⟨_, _, h1, fun _ => ⟨g, rfl⟩⟩
  have HP := hid hp
  clear ho hb HC hp
  go_wp2_with fail
  go_loopg [9] d.length (fun gg vi wr => ∃ (i : Nat) (o : List Vx), vi = .int .i64 i ∧ i ≤ d.length ∧ d.length - i ≤ gg ∧ Hid (TdIn w (.slice p d.length cap) d i o wr))
  case atStart => exact ⟨0, [], rfl, by omega, by omega, H0.out⟩
  case round =>
    clear H0
    obtain ⟨i, o, rfl, hi, hgk, HI⟩ := hrel
    by_cases hlt : i < d.length
    · have hltz : (i : Int) < (d.length : Int) := by omega
      have hiz : (0 : Int) ≤ i := by omega
      obtain ⟨g, rfl⟩ := HP.out (by omega)
      obtain ⟨c0, f0⟩ := HI.out.cells hlt wr (Below.refl _ _)
      have HCL := hid (HI.out.cells hlt)
      have hax := HA.out _ (List.getElem_mem hlt)
      have HCT := hid (copied_any (d[i]).sl (d[i]).o wr (hax.1.kept HI.out.bel) hax.2.1 hax.2.2)
      have HNX : Hid (∀ W5 p5 c5 o5, Below wr.heap.size wr W5 → OwnJ wr.heap.size W5 (.slice p5 o5.length c5) o5 → o5.map Fx.fld = (d[i]).o.map Fx.fld → TdIn w (.slice (some ⟨g, 0, none⟩) d.length cap) d (i + 1) (o ++ [⟨(d[i]).num, (d[i]).stamp, (d[i]).tick, (d[i]).live, p5, c5, o5⟩]) (W5.setCell ⟨g, i * 5 + 4, none⟩ (.slice p5 o5.length c5))) := fun W5 p5 c5 o5 h1 h2 h3 => HI.out.next hlt h1 h2 h3
      clear HI hax
      generalize d[i] = x at *
      obtain ⟨xn, xs, xt, xl, xp, xc, xo⟩ := x
      simp only [Vx.sl] at c0 HCL HCT HNX
      go_wp2_with fail
      refine HCT.out.mono ?_
      rintro e w5 ⟨sv, o5, rfl, hot5, hm5, hb5⟩
      obtain ⟨p6, c6, rfl⟩ := ownJ_slice hot5
      obtain ⟨q0, q1⟩ := HCL.out w5 hb5
      have HN := hid (HNX.out w5 p6 c6 o5 hb5 hot5 hm5)
      clear hot5 hb5 c0 f0 hm5
      go_wp2_with fail
      go_roundg (d.length - (i + 1))
      case measure => omega
      exact ⟨i + 1, _, by go_num, by omega, by omega, HN.out⟩
    · have hltz : ¬ (i : Int) < (d.length : Int) := by omega
      have HD := hid (HI.out.done hlt)
      clear HI
      go_wp2_with fail
      go_ret
      exact HD.out

/-- What one version, told, is: none is the zero version. -/
def VAns (w : World) (o : Option Vr) (e : Ending) (w' : World) : Prop :=
  ∃ x : Vx, e = .returned (.tuple #[.agg (encVx x).toArray, .bool o.isSome]) ∧ x.ver = o.getD zeroV ∧ OwnJ w.heap.size w' x.sl x.o ∧ Below w.heap.size w w'

def getV (l : List Vr) (place : Int) : Option Vr := if 0 ≤ place then l[place.toNat]? else none

theorem zero_ver : zeroVx.ver = zeroV := rfl

set_option maxHeartbeats 1000000 in
set_option maxRecDepth 100000 in
theorem told_any (v : Value) (d : List Vx) (place : Int) (w : World) (hv : KV.Is w v d) (ha : ∀ x ∈ d, x.at w ∧ FitX x.o ∧ CopyX x.o) (_hl : d.length ≤ 2400000000000) :
    Calls Tryz.prog 88 #[v, .int .i64 place] w fun e w' => VAns w (getV (d.map Vx.ver) place) e w' := by
  obtain ⟨p, cap, rfl, hd⟩ := hv
  have HD := hid hd
  have HA := hid ha
  have HBX : Hid (Below w.heap.size w (w.alloc (.cells #[.int .i64 0, .int .u64 0, .int .i64 0, .bool false, .slice none 0 0] 39))) := (Below.refl _ _).alloc (Nat.le_refl _) _
  clear hd ha
  by_cases h1 : place < 0
  · have HG : Hid (getV (d.map Vx.ver) place = none) := by show _ = _; unfold getV; rw [if_neg (by omega)]
    go_enter Tryz.func88, Tryz.ntmps88
    go_wp2_with fail
    rw [HG.out]
    exact bodyPost_ret (v := .tuple #[.agg #[.int .i64 0, .int .u64 0, .int .i64 0, .bool false, .slice none 0 0], .bool false]) (by simp [results, Tryz.results88, go_sem]) rfl
      ⟨zeroVx, rfl, zero_ver, own_noneX _ _, by
        first
        | exact (Below.refl _ _).alloc (Nat.le_refl _) _
        | exact (((((HBX.out.setCell (Nat.le_refl _) _).setCell (Nat.le_refl _) _).setCell (Nat.le_refl _) _).setCell (Nat.le_refl _) _).setCell (Nat.le_refl _) _)⟩
  · by_cases h2 : (d.length : Int) ≤ place
    · have HG : Hid (getV (d.map Vx.ver) place = none) := by
        show _ = _
        unfold getV
        rw [if_pos (by omega), List.getElem?_eq_none (by rw [List.length_map]; omega)]
      go_enter Tryz.func88, Tryz.ntmps88
      go_wp2_with fail
      rw [HG.out]
      exact bodyPost_ret (v := .tuple #[.agg #[.int .i64 0, .int .u64 0, .int .i64 0, .bool false, .slice none 0 0], .bool false]) (by simp [results, Tryz.results88, go_sem]) rfl
        ⟨zeroVx, rfl, zero_ver, own_noneX _ _, by
          first
          | exact (Below.refl _ _).alloc (Nat.le_refl _) _
          | exact (((((HBX.out.setCell (Nat.le_refl _) _).setCell (Nat.le_refl _) _).setCell (Nat.le_refl _) _).setCell (Nat.le_refl _) _).setCell (Nat.le_refl _) _)⟩
    · obtain ⟨k, rfl⟩ : ∃ k : Nat, place = (k : Int) := ⟨place.toNat, by omega⟩
      have hk : k < d.length := by omega
      have hk0 : (0 : Int) ≤ (k : Int) := by omega
      have hkl : (k : Int) < (d.length : Int) := by omega
      obtain ⟨b1, o1, rfl, k1⟩ : ∃ b off, p = some ⟨b, off, none⟩ ∧ KV.At w b off d := by
        rcases HD.out with h | h
        · rw [h] at hk; simp at hk
        · exact h
      obtain ⟨y0, y1, y2, y3, y4⟩ := kv_at (Kind.at_kept k1 HBX.out) k hk
      have HG : Hid (getV (d.map Vx.ver) (k : Int) = some (d[k]).ver) := by
        show _ = _
        unfold getV
        rw [if_pos hk0, Int.toNat_natCast, List.getElem?_map, List.getElem?_eq_getElem hk]; rfl
      have hax := HA.out _ (List.getElem_mem hk)
      generalize d[k] = x at *
      have HB2 : Hid (Below w.heap.size w ((w.alloc (.cells #[.int .i64 0, .int .u64 0, .int .i64 0, .bool false, .slice none 0 0] 39)).alloc (.cells (encVx x).toArray 39))) := HBX.out.alloc (by simp) _
      have HCP := hid (copied_any x.sl x.o _ (hax.1.kept HB2.out) hax.2.1 hax.2.2)
      obtain ⟨xn, xs, xt, xl, xp, xc, xo⟩ := x
      simp only [Vx.sl, encVx] at y0 y1 y2 y3 y4 HCP HB2
      clear k1 hax h1 h2 HA
      rw [HG.out]
      go_enter Tryz.func88, Tryz.ntmps88
      go_wp2_with fail
      refine HCP.out.mono ?_
      rintro e w1 ⟨u, o, rfl, hJ, hm, hq⟩
      obtain ⟨p5, c5, rfl⟩ := ownJ_slice hJ
      obtain ⟨N, hN⟩ : ∃ N, w.heap.size = N := ⟨_, rfl⟩
      have z1 : w1.heap[N]? = some (.cells #[.int .i64 0, .int .u64 0, .int .i64 0, .bool false, .slice none 0 0] 39 (0, 0)) := by
        rw [hq.block N (by simp; omega), heap_alloc_old _ _ (by rw [← hN]; simp), ← hN]
        exact heap_alloc_new w _
      have z2 : w1.heap[N + 1]? = some (.cells #[.int .i64 xn, .int .u64 xs, .int .i64 xt, .bool xl, .slice xp xo.length xc] 39 (0, 0)) := by
        rw [hq.block (N + 1) (by simp; omega)]
        have := heap_alloc_new (w.alloc (.cells #[.int .i64 0, .int .u64 0, .int .i64 0, .bool false, .slice none 0 0] 39)) (.cells #[.int .i64 xn, .int .u64 xs, .int .i64 xt, .bool xl, .slice xp xo.length xc] 39)
        rw [← hN]
        simpa using this
      have q10 : w1.cell? ⟨N, 0, none⟩ = some (.int .i64 0) := by rw [Lib.cell_of_heap z1]; rfl
      have q11 : w1.cell? ⟨N, 1, none⟩ = some (.int .u64 0) := by rw [Lib.cell_of_heap z1]; rfl
      have q12 : w1.cell? ⟨N, 2, none⟩ = some (.int .i64 0) := by rw [Lib.cell_of_heap z1]; rfl
      have q13 : w1.cell? ⟨N, 3, none⟩ = some (.bool false) := by rw [Lib.cell_of_heap z1]; rfl
      have q14 : w1.cell? ⟨N, 4, none⟩ = some (.slice none 0 0) := by rw [Lib.cell_of_heap z1]; rfl
      have q20 : w1.cell? ⟨N + 1, 0, none⟩ = some (.int .i64 xn) := by rw [Lib.cell_of_heap z2]; rfl
      have q21 : w1.cell? ⟨N + 1, 1, none⟩ = some (.int .u64 xs) := by rw [Lib.cell_of_heap z2]; rfl
      have q22 : w1.cell? ⟨N + 1, 2, none⟩ = some (.int .i64 xt) := by rw [Lib.cell_of_heap z2]; rfl
      have q23 : w1.cell? ⟨N + 1, 3, none⟩ = some (.bool xl) := by rw [Lib.cell_of_heap z2]; rfl
      have q24 : w1.cell? ⟨N + 1, 4, none⟩ = some (.slice xp xo.length xc) := by rw [Lib.cell_of_heap z2]; rfl
      have fz : ∀ (B j : Nat) (cs : Array Value), w1.heap[B]? = some (.cells cs 39 (0, 0)) → w1.frozen? ⟨B, j, none⟩ = false := fun B j cs h => by
        unfold World.frozen?
        rw [h]; rfl
      have r10 := fz N 0 _ z1
      have r11 := fz N 1 _ z1
      have r12 := fz N 2 _ z1
      have r13 := fz N 3 _ z1
      have r14 := fz N 4 _ z1
      have r24 := fz (N + 1) 4 _ z2
      have HJ := hid (own_weakJ hJ (M := N + 2) (by simp; omega))
      have HM := hid hm
      have HZ1 := hid z1
      have HZ2 := hid z2
      have hNs : N ≤ w1.heap.size := by have := hq.size; simp at this; omega
      have HBQ : Hid (Below N w w1) := by rw [← hN] at *; exact bel_then HB2.out HB2.out.size hq
      clear fz hJ hm hq z1 z2 HCP HBX HB2 y0 y1 y2 y3 y4
      simp only [hN]
      go_wp2_with fail
      exact bodyPost_ret (v := .tuple #[.agg #[.int .i64 xn, .int .u64 xs, .int .i64 xt, .bool xl, .slice p5 o.length c5], .bool true]) (by simp [results, Tryz.results88, go_sem, q10, q11, q12, q13, q14]) rfl
        ⟨⟨xn, xs, xt, xl, p5, c5, o⟩, rfl, by show Vr.mk _ _ _ _ _ = Vr.mk _ _ _ _ _; rw [HM.out], by
          rw [hN]
          refine own_weakJ (N := N + 2) ?_ (by omega)
          exact ownJ_set (ownJ_set (ownJ_set (ownJ_set (ownJ_set (ownJ_set HJ.out (by omega) _) (by omega) _) (by omega) _) (by omega) _) (by omega) _) (by omega) _, by
          rw [hN]
          exact (((((HBQ.out.setCell (Nat.le_succ _) _).setCell (Nat.le_refl _) _).setCell (Nat.le_refl _) _).setCell (Nat.le_refl _) _).setCell (Nat.le_refl _) _).setCell (Nat.le_refl _) _⟩

end Go.Proofs.YticfpkodoghnnaaGreat

/-
  The program's chain (stage 6): how many versions have stamps of t or less.
-/
namespace Go.Proofs.YticfpkodoghnnaaGreat
open Go.RowKit

set_option maxHeartbeats 2000000 in
theorem through1_any (x : Vx) (t : Int) (w : World) :
    Calls Tryz.prog 108 #[.agg (encVx x).toArray, .int .u64 t] w fun e w' => e = .returned (.int .i64 (if x.stamp ≤ t then -1 else 1)) ∧ Below w.heap.size w w' := by
  have HBX : Hid (Below w.heap.size w (w.alloc (.cells (encVx x).toArray 39))) := (Below.refl _ _).alloc (Nat.le_refl _) _
  obtain ⟨xn, xs, xt, xl, xp, xc, xo⟩ := x
  simp only [encVx, Vx.sl] at HBX ⊢
  by_cases h : xs ≤ t
  · rw [if_pos h]
    go_enter Tryz.func108, Tryz.ntmps108
    go_wp2_with fail
    go_ret
    exact ⟨rfl, HBX.out⟩
  · rw [if_neg h]
    go_enter Tryz.func108, Tryz.ntmps108
    go_wp2_with fail
    go_ret
    exact ⟨rfl, HBX.out⟩

theorem enters_through1 : ∀ args w, (callFunc 108 args).run Tryz.prog w = .ok (.enter 108 args) w := enters_of Tryz.func108 (by kernel_rfl) rfl

theorem cut_lt {d : List Vx} (hr : RiseV (d.map Vx.ver)) (t : Int) (k : Nat) (hk : k < d.length) : ((d[k]).stamp ≤ t ↔ k < cutV (d.map Vx.ver) t) := by
  have hk' : k < (d.map Vx.ver).length := by rw [List.length_map]; exact hk
  have e : ((d.map Vx.ver)[k]).stamp = (d[k]).stamp := by rw [List.getElem_map]; rfl
  constructor
  · intro h
    rcases Nat.lt_or_ge k (cutV (d.map Vx.ver) t) with h1 | h1
    · exact h1
    · have := cutV_above _ hr t k hk' h1
      omega
  · intro h
    have := cutV_below _ t k hk' h
    omega

set_option maxHeartbeats 4000000 in
set_option maxRecDepth 100000 in
theorem bsf_any (v : Value) (d : List Vx) (t : Int) (w : World) (hv : KV.Is w v d) (hr : RiseV (d.map Vx.ver)) (hl : d.length ≤ 2400000000000) :
    Calls Tryz.prog 107 #[v, .int .u64 t, .func (.func 108) #[] #[]] w fun e w' => (∃ b, e = .returned (.tuple #[.int .i64 (cutV (d.map Vx.ver) t : Nat), .bool b]) ∧ b = false) ∧ Below w.heap.size w w' := by
  have eg := enters_through1
  obtain ⟨p, cap, rfl, hd⟩ := hv
  have HD := hid hd
  have HR := hid (cut_lt hr t)
  have hcl := cutV_le (d.map Vx.ver) t
  rw [List.length_map] at hcl
  obtain ⟨c, hc⟩ : ∃ c, cutV (d.map Vx.ver) t = c := ⟨_, rfl⟩
  rw [hc] at HR hcl ⊢
  clear hd hr hc
  go_enter Tryz.func107, Tryz.ntmps107
  go_wp2_with fail
  go_loopg [9, 10] d.length (fun kx s9 s10 wr => ∃ lo hi : Nat, s9 = .int .i64 lo ∧ s10 = .int .i64 hi ∧ lo ≤ c ∧ c ≤ hi ∧ hi ≤ d.length ∧ hi - lo ≤ kx ∧ Hid (Below w.heap.size w wr))
  case atStart => exact ⟨0, d.length, rfl, rfl, Nat.zero_le _, hcl, Nat.le_refl _, by omega, Below.refl _ _⟩
  case round =>
    obtain ⟨lo, hi, rfl, rfl, hlc, hch, hhd, hg, HB⟩ := hrel
    by_cases hlt : lo < hi
    · have hk : (lo + hi) / 2 < d.length := by omega
      obtain ⟨b1, o1, rfl, k1⟩ : ∃ b off, p = some ⟨b, off, none⟩ ∧ KV.At w b off d := by
        rcases HD.out with h | h
        · rw [h] at hk; simp at hk
        · exact h
      obtain ⟨y0, y1, y2, y3, y4⟩ := kv_at (Kind.at_kept k1 HB.out) ((lo + hi) / 2) hk
      have hiff := HR.out ((lo + hi) / 2) hk
      have hsz := HB.out.size
      generalize d[(lo + hi) / 2] = x at *
      have hcall := through1_any x t wr
      obtain ⟨xn, xs, xt, xl, xp, xc, xo⟩ := x
      simp only [Vx.sl, encVx] at y0 y1 y2 y3 y4 hiff hcall
      have HCALL := hid hcall
      clear k1 hcall
      by_cases hs : xs ≤ t
      · rw [if_pos hs] at HCALL
        have hkc := hiff.1 hs
        clear hiff
        go_wp2_with (go_at_fn 108; refine HCALL.out.mono ?_; rintro e w1 ⟨rfl, hq⟩)
        have HB1 := hid (bel_then HB.out hsz hq)
        go_roundg (hi - ((lo + hi) / 2 + 1))
        case measure => omega
        exact ⟨(lo + hi) / 2 + 1, hi, by rw [show ((lo : Int) + (hi : Int)) / 2 + 1 = (((lo + hi) / 2 + 1 : Nat) : Int) by omega], rfl, by omega, hch, hhd, by omega, HB1.out⟩
      · rw [if_neg hs] at HCALL
        have hkc : ¬ (lo + hi) / 2 < c := fun h => hs (hiff.2 h)
        clear hiff
        go_wp2_with (go_at_fn 108; refine HCALL.out.mono ?_; rintro e w1 ⟨rfl, hq⟩)
        have HB1 := hid (bel_then HB.out hsz hq)
        go_roundg ((lo + hi) / 2 - lo)
        case measure => omega
        exact ⟨lo, (lo + hi) / 2, rfl, by rw [show ((lo : Int) + (hi : Int)) / 2 = (((lo + hi) / 2 : Nat) : Int) by omega], hlc, by omega, by omega, by omega, HB1.out⟩
    · obtain rfl : lo = c := by omega
      obtain rfl : hi = lo := by omega
      by_cases hn : hi < d.length
      · obtain ⟨b1, o1, rfl, k1⟩ : ∃ b off, p = some ⟨b, off, none⟩ ∧ KV.At w b off d := by
          rcases HD.out with h | h
          · rw [h] at hn; simp at hn
          · exact h
        obtain ⟨y0, y1, y2, y3, y4⟩ := kv_at (Kind.at_kept k1 HB.out) hi hn
        have hiff := HR.out hi hn
        have hsz := HB.out.size
        generalize d[hi] = x at *
        have hcall := through1_any x t wr
        obtain ⟨xn, xs, xt, xl, xp, xc, xo⟩ := x
        simp only [Vx.sl, encVx] at y0 y1 y2 y3 y4 hiff hcall
        have hs : ¬ xs ≤ t := fun h => by have := hiff.1 h; omega
        rw [if_neg hs] at hcall
        have HCALL := hid hcall
        clear k1 hcall hiff
        go_wp2_with (go_at_fn 108; refine HCALL.out.mono ?_; rintro e w1 ⟨rfl, hq⟩)
        have HB1 := hid (bel_then HB.out hsz hq)
        go_ret2
        exact ⟨⟨_, rfl, rfl⟩, HB1.out⟩
      · go_wp2_with fail
        go_ret2
        exact ⟨⟨_, rfl, rfl⟩, HB.out⟩

set_option maxHeartbeats 2000000 in
theorem through_any (v : Value) (d : List Vx) (t : Int) (w : World) (hv : KV.Is w v d) (hr : RiseV (d.map Vx.ver)) (hl : d.length ≤ 2400000000000) :
    Calls Tryz.prog 81 #[v, .int .u64 t] w fun e w' => e = .returned (.int .i64 (cutV (d.map Vx.ver) t : Nat)) ∧ Below w.heap.size w w' := by
  have HC := hid (bsf_any v d t w hv hr hl)
  obtain ⟨p, cap, rfl, _⟩ := hv
  clear hr
  go_enter Tryz.func81, Tryz.ntmps81
  go_wp2_with fail
  refine HC.out.mono ?_
  rintro e w1 ⟨⟨b, rfl, rfl⟩, hq⟩
  have HQ := hid hq
  clear hq
  go_wp2_with fail
  go_ret
  exact ⟨rfl, HQ.out⟩

end Go.Proofs.YticfpkodoghnnaaGreat

/-
  The program's chain (stage 6): what is told of it.
-/
namespace Go.Proofs.YticfpkodoghnnaaGreat
open Go.RowKit

set_option maxHeartbeats 1000000 in
theorem versions_any {n0 : Nat} {w : World} {g : Nat} {d : List Vx} {vs : Value} (hC : PrgC n0 w g d vs) :
    Calls Tryz.prog 82 #[.pointer (some ⟨g, 0, none⟩)] w fun e w' => e = .returned vs ∧ w' = w := by
  obtain ⟨p, cap, rfl⟩ := Kind.own_shape hC.row
  have c0 := hC.cell
  clear hC
  go_enter Tryz.func82, Tryz.ntmps82
  go_wp2_with fail
  go_ret
  exact ⟨rfl, rfl⟩

/-- A block with the zero version. -/
def ZeroAt (w : World) (N : Nat) : Prop := w.heap[N]? = some (.cells #[.int .i64 0, .int .u64 0, .int .i64 0, .bool false, .slice none 0 0] 39 (0, 0))

theorem ZeroAt.cells {w : World} {N : Nat} (h : ZeroAt w N) : w.cell? ⟨N, 0, none⟩ = some (.int .i64 0) ∧ w.cell? ⟨N, 1, none⟩ = some (.int .u64 0) ∧ w.cell? ⟨N, 2, none⟩ = some (.int .i64 0) ∧ w.cell? ⟨N, 3, none⟩ = some (.bool false) ∧ w.cell? ⟨N, 4, none⟩ = some (.slice none 0 0) := by
  unfold ZeroAt at h
  refine ⟨?_, ?_, ?_, ?_, ?_⟩ <;> (rw [Lib.cell_of_heap h]; rfl)

theorem ZeroAt.free {w : World} {N : Nat} (h : ZeroAt w N) (j : Nat) : w.frozen? ⟨N, j, none⟩ = false := by
  unfold ZeroAt at h
  unfold World.frozen?
  rw [h]; rfl

theorem zero_new (w : World) : ZeroAt (w.alloc (.cells #[.int .i64 0, .int .u64 0, .int .i64 0, .bool false, .slice none 0 0] 39)) w.heap.size := heap_alloc_new w _
theorem ZeroAt.on {w W : World} {N : Nat} (h : ZeroAt w N) (hb : Below w.heap.size w W) : ZeroAt W N := by
  have hlt : N < w.heap.size := by
    unfold ZeroAt at h
    rcases Nat.lt_or_ge N w.heap.size with h' | h'
    · exact h'
    · rw [Array.getElem?_eq_none h'] at h; cases h
  exact (hb.block N hlt).trans h

theorem get_at {l : List Vr} (t : Int) : getV l ((cutV l t : Nat) - 1 : Int) = atV l t := by
  unfold getV atV
  by_cases h : cutV l t = 0
  · rw [if_neg (by omega), if_pos h]
  · rw [if_pos (by omega), if_neg h]
    congr 1
    omega

theorem get_last {l : List Vr} : getV l ((l.length : Nat) - 1 : Int) = l.getLast? := by
  unfold getV
  rw [List.getLast?_eq_getElem?]
  by_cases h : l.length = 0
  · rw [if_neg (by omega), List.length_eq_zero_iff.1 h]; rfl
  · rw [if_pos (by omega)]
    congr 1
    omega

set_option maxHeartbeats 2000000 in
set_option maxRecDepth 100000 in
theorem at_any {n0 : Nat} {w : World} {g : Nat} {d : List Vx} {vs : Value} (hC : PrgC n0 w g d vs) (t : Int) :
    Calls Tryz.prog 61 #[.pointer (some ⟨g, 0, none⟩), .int .u64 t] w fun e w' => VAns w (atV (d.map Vx.ver) t) e w' := by
  have HBX : Hid (Below w.heap.size w (w.alloc (.cells #[.int .i64 0, .int .u64 0, .int .i64 0, .bool false, .slice none 0 0] 39))) := (Below.refl _ _).alloc (Nat.le_refl _) _
  have HZ := hid (zero_new w)
  obtain ⟨N, hN⟩ : ∃ N, w.heap.size = N := ⟨_, rfl⟩
  have hs1 : (w.alloc (.cells #[.int .i64 0, .int .u64 0, .int .i64 0, .bool false, .slice none 0 0] 39)).heap.size = N + 1 := by simp [hN]
  have hC1 := hC.on HBX.out
  have HV := hid (versions_any hC1)
  obtain ⟨p, cap, rfl⟩ := Kind.own_shape hC.row
  have hT := through_any _ d t _ (Kind.own_is hC1.row) hC.ok.rise hC.few
  have hTo := fun W hW place => told_any _ d place W (Kind.is_kept (Kind.own_is hC1.row) hW) (hC1.on hW).fits hC.few
  have HCL : Hid (cutV (d.map Vx.ver) t ≤ 2400000000000) := by have h1 := cutV_le (d.map Vx.ver) t; have h2 := hC.few; rw [List.length_map] at h1; show _ ≤ _; omega
  have HGA := hid (get_at (l := d.map Vx.ver) t)
  obtain ⟨c, hc⟩ : ∃ c, cutV (d.map Vx.ver) t = c := ⟨_, rfl⟩
  rw [hc] at hT HCL HGA
  have hcl := HCL.out
  have HT := hid hT
  have HTO := hid hTo
  rw [← HGA.out]
  have hN' : w.heap.size = N := hN
  rw [hN] at HBX HZ
  obtain ⟨W1, hW1⟩ : ∃ W1, w.alloc (.cells #[.int .i64 0, .int .u64 0, .int .i64 0, .bool false, .slice none 0 0] 39) = W1 := ⟨_, rfl⟩
  rw [hW1] at HBX HZ HV HT HTO hs1
  clear hT hTo hC1 hC hc HGA HCL
  go_enter Tryz.func61, Tryz.ntmps61
  go_wp2_with fail
  try rw [hW1]
  refine HV.out.mono ?_
  rintro e w1 ⟨rfl, rfl⟩
  go_wp2_with fail
  refine HT.out.mono ?_
  rintro e w2 ⟨rfl, hq2⟩
  have HQ2 := hid hq2
  have HTC := hid (HTO.out w2 hq2 ((c : Int) - 1))
  have hs2 := hq2.size
  clear hq2 HT HTO HV
  go_wp2_with fail
  refine HTC.out.mono ?_
  rintro e w3 ⟨x, rfl, hx, hJ, hq3⟩
  have hZ3 := (HZ.out.on HQ2.out).on hq3
  obtain ⟨q0, q1, q2, q3, q4⟩ := hZ3.cells
  have r0 := hZ3.free 0
  have r1 := hZ3.free 1
  have r2 := hZ3.free 2
  have r3 := hZ3.free 3
  have r4 := hZ3.free 4
  have HX := hid hx
  have HJ := hid (own_weakJ hJ (M := N + 1) (by omega))
  have HB3 : Hid (Below N w w3) := bel_then (bel_then HBX.out (by omega) HQ2.out) (by omega) hq3
  obtain ⟨xn, xs, xt, xl, xp, xc, xo⟩ := x
  simp only [encVx, Vx.sl] at HJ ⊢
  clear hx hJ hq3 hZ3 HTC HQ2 HZ HBX
  try simp only [hN]
  go_wp2_with fail
  exact bodyPost_ret (v := .tuple #[.agg #[.int .i64 xn, .int .u64 xs, .int .i64 xt, .bool xl, .slice xp xo.length xc], .bool (getV (d.map Vx.ver) ((c : Int) - 1)).isSome]) (by simp [results, Tryz.results61, go_sem, q0, q1, q2, q3, q4]) rfl
    ⟨⟨xn, xs, xt, xl, xp, xc, xo⟩, rfl, HX.out, by
      rw [hN]
      refine own_weakJ (N := N + 1) ?_ (by omega)
      exact ownJ_set (ownJ_set (ownJ_set (ownJ_set (ownJ_set HJ.out (by omega) _) (by omega) _) (by omega) _) (by omega) _) (by omega) _, by
      rw [hN]
      exact ((((HB3.out.setCell (Nat.le_refl _) _).setCell (Nat.le_refl _) _).setCell (Nat.le_refl _) _).setCell (Nat.le_refl _) _).setCell (Nat.le_refl _) _⟩

theorem num_none {l : List Vr} (h : OkV l) {n : Int} (hn : (h0 : 0 < l.length) → n < (l[0]).num) : numV l n = none := by
  unfold numV
  rw [List.find?_eq_none]
  intro v hv
  obtain ⟨i, hi, rfl⟩ := List.mem_iff_getElem.1 hv
  have h1 := ok_num h i hi
  have h2 := hn (by omega)
  simp only [decide_eq_true_eq]
  omega

theorem num_get {l : List Vr} (h : OkV l) (h0 : 0 < l.length) {n : Int} (hn : (l[0]).num ≤ n) : numV l n = getV l (n - (l[0]).num) := by
  unfold getV
  rw [if_pos (by omega)]
  by_cases hk : (n - (l[0]).num).toNat < l.length
  · rw [List.getElem?_eq_getElem hk, ← ok_find h _ hk, ok_num h _ hk]
    congr 1
    omega
  · rw [List.getElem?_eq_none (by omega)]
    unfold numV
    rw [List.find?_eq_none]
    intro v hv
    obtain ⟨i, hi, rfl⟩ := List.mem_iff_getElem.1 hv
    have h1 := ok_num h i hi
    simp only [decide_eq_true_eq]
    omega

set_option maxHeartbeats 1000000 in
set_option maxRecDepth 100000 in
theorem number_any {n0 : Nat} {w : World} {g : Nat} {d : List Vx} {vs : Value} (hC : PrgC n0 w g d vs) (n : Int) (hn63 : n ≤ 9223372036854775807) :
    Calls Tryz.prog 73 #[.pointer (some ⟨g, 0, none⟩), .int .i64 n] w fun e w' => VAns w (numV (d.map Vx.ver) n) e w' := by
  have HBX : Hid (Below w.heap.size w (w.alloc (.cells #[.int .i64 0, .int .u64 0, .int .i64 0, .bool false, .slice none 0 0] 39))) := (Below.refl _ _).alloc (Nat.le_refl _) _
  have hC1 := hC.on HBX.out
  have HV := hid (versions_any hC1)
  have hfew := hC.few
  rcases Nat.eq_zero_or_pos d.length with he | he
  · have HG : Hid (numV (d.map Vx.ver) n = none) := num_none hC.ok (fun h => by rw [List.length_map] at h; omega)
    obtain ⟨p, cap, rfl⟩ := Kind.own_shape hC.row
    rw [HG.out]
    rw [he] at HV
    clear hC hC1 he HG
    go_enter Tryz.func73, Tryz.ntmps73
    go_wp2_with fail
    refine HV.out.mono ?_
    rintro e w1 ⟨rfl, rfl⟩
    go_wp2_with fail
    exact bodyPost_ret (v := .tuple #[.agg #[.int .i64 0, .int .u64 0, .int .i64 0, .bool false, .slice none 0 0], .bool false]) (by simp [results, Tryz.results73, go_sem]) rfl
      ⟨zeroVx, rfl, zero_ver, own_noneX _ _, by
        first
        | exact (Below.refl _ _).alloc (Nat.le_refl _) _
        | exact (((((HBX.out.setCell (Nat.le_refl _) _).setCell (Nat.le_refl _) _).setCell (Nat.le_refl _) _).setCell (Nat.le_refl _) _).setCell (Nat.le_refl _) _)⟩
  · have he' : 0 < (d.map Vx.ver).length := by rw [List.length_map]; exact he
    have e0 : ((d.map Vx.ver)[0]).num = (d[0]).num := by rw [List.getElem_map]; rfl
    have h1 : 1 ≤ (d[0]).num := by rw [← e0]; exact (hC.ok.first _ (List.getElem_mem he')).1
    obtain ⟨p, cap, rfl⟩ := Kind.own_shape hC.row
    obtain ⟨b1, o1, rfl, k1⟩ : ∃ b off, p = some ⟨b, off, none⟩ ∧ KV.At w b off d := by
      obtain ⟨p', c', hsl, h⟩ := Kind.own_is hC.row
      injection hsl with e1 _ _
      subst e1
      rcases h with h | h
      · rw [h] at he; simp at he
      · exact h
    have k1' := Kind.at_kept k1 HBX.out
    have y0 := (kv_at k1' 0 he).1
    have hnz : ((d.length : Int) == (0 : Int)) = false := by
      rw [beq_eq_false_iff_ne]
      omega
    have h0z : (0 : Int) < (d.length : Int) := by omega
    by_cases hn : n < (d[0]).num
    · have HG : Hid (numV (d.map Vx.ver) n = none) := num_none hC.ok (fun h => by rw [e0]; exact hn)
      rw [HG.out]
      obtain ⟨m, hm⟩ : ∃ m, (d[0]).num = m := ⟨_, rfl⟩
      rw [hm] at y0 hn
      have y0' : (w.alloc (.cells #[.int .i64 0, .int .u64 0, .int .i64 0, .bool false, .slice none 0 0] 39)).cell? ⟨b1, o1, none⟩ = some (.int .i64 m) := by simpa using y0
      clear hC hC1 HG k1 k1' e0 h1 hm he he' y0
      go_enter Tryz.func73, Tryz.ntmps73
      go_wp2_with fail
      refine HV.out.mono ?_
      rintro e w1 ⟨rfl, rfl⟩
      go_wp2_with fail
      exact bodyPost_ret (v := .tuple #[.agg #[.int .i64 0, .int .u64 0, .int .i64 0, .bool false, .slice none 0 0], .bool false]) (by simp [results, Tryz.results73, go_sem]) rfl
        ⟨zeroVx, rfl, zero_ver, own_noneX _ _, by
          first
          | exact (Below.refl _ _).alloc (Nat.le_refl _) _
          | exact (((((HBX.out.setCell (Nat.le_refl _) _).setCell (Nat.le_refl _) _).setCell (Nat.le_refl _) _).setCell (Nat.le_refl _) _).setCell (Nat.le_refl _) _)⟩
    · have HG : Hid (numV (d.map Vx.ver) n = getV (d.map Vx.ver) (n - (d[0]).num)) := by
        have := num_get hC.ok he' (n := n) (by rw [e0]; omega)
        rw [e0] at this
        exact this
      rw [HG.out]
      have HTC := hid (told_any _ d (n - (d[0]).num) _ (Kind.own_is hC1.row) hC1.fits hC.few)
      obtain ⟨m, hm⟩ : ∃ m, (d[0]).num = m := ⟨_, rfl⟩
      rw [hm] at y0 hn h1 HTC ⊢
      have y0' : (w.alloc (.cells #[.int .i64 0, .int .u64 0, .int .i64 0, .bool false, .slice none 0 0] 39)).cell? ⟨b1, o1, none⟩ = some (.int .i64 m) := by simpa using y0
      have HZ := hid (zero_new w)
      obtain ⟨N, hN⟩ : ∃ N, w.heap.size = N := ⟨_, rfl⟩
      have hs1 : (w.alloc (.cells #[.int .i64 0, .int .u64 0, .int .i64 0, .bool false, .slice none 0 0] 39)).heap.size = N + 1 := by simp [hN]
      clear hC hC1 HG k1 k1' e0 hm he he' y0
      rw [hN] at HZ HBX
      obtain ⟨W1, hW1⟩ : ∃ W1, w.alloc (.cells #[.int .i64 0, .int .u64 0, .int .i64 0, .bool false, .slice none 0 0] 39) = W1 := ⟨_, rfl⟩
      rw [hW1] at HBX HZ HV HTC hs1 y0'
      go_enter Tryz.func73, Tryz.ntmps73
      go_wp2_with fail
      try rw [hW1]
      refine HV.out.mono ?_
      rintro e w1 ⟨rfl, rfl⟩
      go_wp2_with fail
      refine HTC.out.mono ?_
      rintro e w3 ⟨x, rfl, hx, hJ, hq3⟩
      have hZ3 := HZ.out.on hq3
      obtain ⟨q0, q1, q2, q3, q4⟩ := hZ3.cells
      have r0 := hZ3.free 0
      have r1 := hZ3.free 1
      have r2 := hZ3.free 2
      have r3 := hZ3.free 3
      have r4 := hZ3.free 4
      have HX := hid hx
      have HJ := hid (own_weakJ hJ (M := N + 1) (by omega))
      have HB3 : Hid (Below N w w3) := bel_then HBX.out (by omega) hq3
      obtain ⟨xn, xs, xt, xl, xp, xc, xo⟩ := x
      simp only [encVx, Vx.sl] at HJ ⊢
      clear hx hJ hq3 hZ3 HTC HZ HBX y0'
      try simp only [hN]
      go_wp2_with fail
      exact bodyPost_ret (v := .tuple #[.agg #[.int .i64 xn, .int .u64 xs, .int .i64 xt, .bool xl, .slice xp xo.length xc], .bool (getV (d.map Vx.ver) (n - m)).isSome]) (by simp [results, Tryz.results73, go_sem, q0, q1, q2, q3, q4]) rfl
        ⟨⟨xn, xs, xt, xl, xp, xc, xo⟩, rfl, HX.out, by
          rw [hN]
          refine own_weakJ (N := N + 1) ?_ (by omega)
          exact ownJ_set (ownJ_set (ownJ_set (ownJ_set (ownJ_set HJ.out (by omega) _) (by omega) _) (by omega) _) (by omega) _) (by omega) _, by
          rw [hN]
          exact ((((HB3.out.setCell (Nat.le_refl _) _).setCell (Nat.le_refl _) _).setCell (Nat.le_refl _) _).setCell (Nat.le_refl _) _).setCell (Nat.le_refl _) _⟩

set_option maxHeartbeats 2000000 in
set_option maxRecDepth 100000 in
theorem last_any {n0 : Nat} {w : World} {g : Nat} {d : List Vx} {vs : Value} (hC : PrgC n0 w g d vs) :
    Calls Tryz.prog 74 #[.pointer (some ⟨g, 0, none⟩)] w fun e w' => VAns w (d.map Vx.ver).getLast? e w' := by
  have HBX : Hid (Below w.heap.size w (w.alloc (.cells #[.int .i64 0, .int .u64 0, .int .i64 0, .bool false, .slice none 0 0] 39))) := (Below.refl _ _).alloc (Nat.le_refl _) _
  have HZ := hid (zero_new w)
  obtain ⟨N, hN⟩ : ∃ N, w.heap.size = N := ⟨_, rfl⟩
  have hs1 : (w.alloc (.cells #[.int .i64 0, .int .u64 0, .int .i64 0, .bool false, .slice none 0 0] 39)).heap.size = N + 1 := by simp [hN]
  have hC1 := hC.on HBX.out
  have HV := hid (versions_any hC1)
  obtain ⟨p, cap, rfl⟩ := Kind.own_shape hC.row
  have HTC := hid (told_any _ d ((d.length : Int) - 1) _ (Kind.own_is hC1.row) hC1.fits hC.few)
  have HGA := hid (get_last (l := d.map Vx.ver))
  rw [List.length_map] at HGA
  have hfew := hC.few
  rw [← HGA.out]
  rw [hN] at HBX HZ
  obtain ⟨W1, hW1⟩ : ∃ W1, w.alloc (.cells #[.int .i64 0, .int .u64 0, .int .i64 0, .bool false, .slice none 0 0] 39) = W1 := ⟨_, rfl⟩
  rw [hW1] at HBX HZ HV HTC hs1
  clear hC1 hC HGA
  go_enter Tryz.func74, Tryz.ntmps74
  go_wp2_with fail
  try rw [hW1]
  refine HV.out.mono ?_
  rintro e w1 ⟨rfl, rfl⟩
  go_wp2_with fail
  refine HTC.out.mono ?_
  rintro e w3 ⟨x, rfl, hx, hJ, hq3⟩
  have hZ3 := HZ.out.on hq3
  obtain ⟨q0, q1, q2, q3, q4⟩ := hZ3.cells
  have r0 := hZ3.free 0
  have r1 := hZ3.free 1
  have r2 := hZ3.free 2
  have r3 := hZ3.free 3
  have r4 := hZ3.free 4
  have HX := hid hx
  have HJ := hid (own_weakJ hJ (M := N + 1) (by omega))
  have HB3 : Hid (Below N w w3) := bel_then HBX.out (by omega) hq3
  obtain ⟨xn, xs, xt, xl, xp, xc, xo⟩ := x
  simp only [encVx, Vx.sl] at HJ ⊢
  clear hx hJ hq3 hZ3 HTC HZ HBX
  try simp only [hN]
  go_wp2_with fail
  exact bodyPost_ret (v := .tuple #[.agg #[.int .i64 xn, .int .u64 xs, .int .i64 xt, .bool xl, .slice xp xo.length xc], .bool (getV (d.map Vx.ver) ((d.length : Int) - 1)).isSome]) (by simp [results, Tryz.results74, go_sem, q0, q1, q2, q3, q4]) rfl
    ⟨⟨xn, xs, xt, xl, xp, xc, xo⟩, rfl, HX.out, by
      rw [hN]
      refine own_weakJ (N := N + 1) ?_ (by omega)
      exact ownJ_set (ownJ_set (ownJ_set (ownJ_set (ownJ_set HJ.out (by omega) _) (by omega) _) (by omega) _) (by omega) _) (by omega) _, by
      rw [hN]
      exact ((((HB3.out.setCell (Nat.le_refl _) _).setCell (Nat.le_refl _) _).setCell (Nat.le_refl _) _).setCell (Nat.le_refl _) _).setCell (Nat.le_refl _) _⟩

set_option maxHeartbeats 2000000 in
theorem len_any {n0 : Nat} {w : World} {g : Nat} {d : List Vx} {vs : Value} (hC : PrgC n0 w g d vs) :
    Calls Tryz.prog 75 #[.pointer (some ⟨g, 0, none⟩)] w fun e w' => e = .returned (.int .i64 (d.length : Int)) ∧ w' = w := by
  have HV := hid (versions_any hC)
  obtain ⟨p, cap, rfl⟩ := Kind.own_shape hC.row
  clear hC
  go_enter Tryz.func75, Tryz.ntmps75
  go_wp2_with fail
  refine HV.out.mono ?_
  rintro e w1 ⟨rfl, rfl⟩
  go_wp2_with fail
  go_ret
  exact ⟨rfl, rfl⟩

end Go.Proofs.YticfpkodoghnnaaGreat

/-
  The program's chain (stage 6): Since, Prune, New.
-/
namespace Go.Proofs.YticfpkodoghnnaaGreat
open Go.RowKit

theorem own_caps {n0 : Nat} {w : World} {p : Option Addr} {cap : Nat} {d : List Vx} (h : KV.Own n0 w (.slice p d.length cap) d) : d.length ≤ cap ∧ (p = none → d.length = 0 ∧ cap = 0) := by
  rcases h.2 with ⟨h1, h2⟩ | ⟨g, c, cur, h1, _, _, h2, _⟩
  · injection h1 with a b c
    exact ⟨by omega, fun _ => ⟨by omega, by omega⟩⟩
  · injection h1 with a b c
    subst a c
    exact ⟨h2, fun e => by cases e⟩

/-- A list from k on: where it lies. -/
def tailV (p : Option Addr) (n cap k : Nat) : Value := .slice (if cap = k then p else p.map (·.add (k * 5))) (n - k) (cap - k)

theorem tail_is {n0 : Nat} {w : World} {p : Option Addr} {cap : Nat} {d : List Vx} (h : KV.Own n0 w (.slice p d.length cap) d) (k : Nat) (hk : k ≤ d.length) : KV.Is w (tailV p d.length cap k) (d.drop k) := by
  obtain ⟨h1, _⟩ := own_caps h
  unfold tailV
  refine ⟨_, _, by rw [List.length_drop], ?_⟩
  by_cases hl : k = d.length
  · exact Or.inl (List.drop_eq_nil_of_le (by omega))
  · right
    obtain ⟨p', c', hsl, hI⟩ := Kind.own_is h
    injection hsl with e1 _ _
    subst e1
    rcases hI with hI | ⟨b, off, rfl, hat⟩
    · rw [hI] at hl hk; simp at hl hk; omega
    · rw [if_neg (by omega)]
      exact ⟨b, off + k * 5, by simp [addr_add], kv_drop k hat⟩

set_option maxHeartbeats 2000000 in
set_option maxRecDepth 100000 in
theorem since_any {n0 : Nat} {w : World} {g : Nat} {d : List Vx} {vs : Value} (hC : PrgC n0 w g d vs) (t : Int) :
    Calls Tryz.prog 68 #[.pointer (some ⟨g, 0, none⟩), .int .u64 t] w fun e w' => AllPost w (sinceV (d.map Vx.ver) t) e w' := by
  have HV := hid (versions_any hC)
  obtain ⟨p, cap, rfl⟩ := Kind.own_shape hC.row
  have HT := hid (through_any _ d t w (Kind.own_is hC.row) hC.ok.rise hC.few)
  have hcut := cutV_le (d.map Vx.ver) t
  rw [List.length_map] at hcut
  have hcap := (own_caps hC.row).1
  have hcp : cap ≤ maxLen := by
    rcases hC.row.2 with ⟨h1, _⟩ | ⟨_, c, _, h1, _, _, _, h2, _⟩
    · injection h1 with _ _ e; rw [e]; exact Nat.zero_le _
    · injection h1 with _ _ e; rw [e]; exact h2
  unfold maxLen at hcp
  have hpn := (own_caps hC.row).2
  unfold sinceV
  obtain ⟨c, hc⟩ : ∃ c, cutV (d.map Vx.ver) t = c := ⟨_, rfl⟩
  rw [hc] at HT hcut ⊢
  have HTA : Hid (∀ W, Below w.heap.size w W → Calls Tryz.prog 94 #[tailV p d.length cap c] W fun e w' => AllPost W ((d.map Vx.ver).drop c) e w') := fun W hW => by
    rw [← List.map_drop]
    exact toldAll_any _ (d.drop c) W (Kind.is_kept (tail_is hC.row c hcut) hW) (fun x hx => (hC.on hW).fits x (List.mem_of_mem_drop hx)) (by rw [List.length_drop]; have := hC.few; omega)
  have h1 : (0 : Int) ≤ (c : Int) := by omega
  have h2 : (c : Int) ≤ (d.length : Int) := by omega
  have h3 : (d.length : Int) ≤ (cap : Int) := by omega
  have h4 : (c : Int) ≤ (cap : Int) := by omega
  clear hC hc
  unfold tailV at HTA
  by_cases hcc : cap = c
  · subst hcc
    rw [if_pos rfl] at HTA
    obtain rfl : d.length = cap := by omega
    go_enter Tryz.func68, Tryz.ntmps68
    go_wp2_with fail
    refine HV.out.mono ?_
    rintro e w1 ⟨rfl, rfl⟩
    go_wp2_with fail
    refine HT.out.mono ?_
    rintro e w2 ⟨rfl, hq2⟩
    have HTC := hid (HTA.out w2 hq2)
    have HQ2 := hid hq2
    simp only [Nat.sub_self] at HTC
    clear hq2
    go_wp2_with fail
    refine HTC.out.mono ?_
    rintro e w3 ⟨u, o, rfl, a1, a2, a3, a4, a5⟩
    have hs := HQ2.out.size
    have HH : Hid (AllPost w1 ((d.map Vx.ver).drop d.length) (.returned u) w3) := ⟨u, o, rfl, Kind.own_weak a1 hs, fun x hx => own_weakJ (a2 x hx) hs, a3, a4, bel_then HQ2.out hs a5⟩
    clear a1 a2 a3 a4 a5
    go_wp2_with fail
    go_ret
    exact HH.out
  · rw [if_neg hcc] at HTA
    obtain ⟨a, rfl⟩ : ∃ a, p = some a := by
      cases p with
      | none => have := hpn rfl; omega
      | some a => exact ⟨a, rfl⟩
    have hz : ¬ (cap : Int) = (c : Int) := by omega
    go_enter Tryz.func68, Tryz.ntmps68
    go_wp2_with fail
    refine HV.out.mono ?_
    rintro e w1 ⟨rfl, rfl⟩
    go_wp2_with fail
    refine HT.out.mono ?_
    rintro e w2 ⟨rfl, hq2⟩
    have HTC := hid (HTA.out w2 hq2)
    have HQ2 := hid hq2
    clear hq2
    go_wp2_with fail
    refine HTC.out.mono ?_
    rintro e w3 ⟨u, o, rfl, a1, a2, a3, a4, a5⟩
    have hs := HQ2.out.size
    have HH : Hid (AllPost w1 ((d.map Vx.ver).drop c) (.returned u) w3) := ⟨u, o, rfl, Kind.own_weak a1 hs, fun x hx => own_weakJ (a2 x hx) hs, a3, a4, bel_then HQ2.out hs a5⟩
    clear a1 a2 a3 a4 a5
    go_wp2_with fail
    go_ret
    exact HH.out

/-- What a chain is, behind a call that turns it: its versions are l; what else is there is as it was. -/
def TurnC (n0 : Nat) (w : World) (g : Nat) (d : List Vx) (vs : Value) (l : List Vr) (w' : World) : Prop :=
  ∃ d' vs', PrgC n0 w' g d' vs' ∧ d'.map Vx.ver = l ∧ (∀ k, BlkC g d' vs' k → BlkC g d vs k ∨ w.heap.size ≤ k) ∧ Fr (BlkC g d vs) w w'

theorem TurnC.same {n0 : Nat} {w W : World} {g : Nat} {d : List Vx} {vs : Value} (hC : PrgC n0 w g d vs) (hb : Below w.heap.size w W) : TurnC n0 w g d vs (d.map Vx.ver) W :=
  ⟨d, vs, hC.on hb, rfl, fun _ h => Or.inl h, Fr.of_below hb⟩

theorem lastV_drop {l : List Vr} {n : Nat} (h : n < l.length) : lastV (l.drop n) = lastV l := by
  unfold lastV
  rw [List.getLast?_eq_getElem?, List.getLast?_eq_getElem?, List.getElem?_drop, List.length_drop]
  congr 2
  omega

set_option maxHeartbeats 2000000 in
set_option maxRecDepth 100000 in
theorem prune_any {n0 : Nat} {w : World} {g : Nat} {d : List Vx} {vs : Value} (hC : PrgC n0 w g d vs) (f : Int) :
    Calls Tryz.prog 56 #[.pointer (some ⟨g, 0, none⟩), .int .u64 f] w fun e w' => e = .returned (.int .i64 (pruneN (d.map Vx.ver) f : Nat)) ∧ TurnC n0 w g d vs (pruneV (d.map Vx.ver) f) w' := by
  have HC := hid hC
  have HV := hid (versions_any hC)
  obtain ⟨p, cap, rfl⟩ := Kind.own_shape hC.row
  have HT := hid (through_any _ d f w (Kind.own_is hC.row) hC.ok.rise hC.few)
  have hcut := cutV_le (d.map Vx.ver) f
  rw [List.length_map] at hcut
  have hcap := (own_caps hC.row).1
  have hfew := hC.few
  unfold pruneV pruneN
  obtain ⟨c, hc⟩ : ∃ c, cutV (d.map Vx.ver) f = c := ⟨_, rfl⟩
  rw [hc] at HT hcut ⊢
  by_cases h1 : c ≤ 1
  · have e0 : c - 1 = 0 := by omega
    rw [e0, List.drop_zero]
    have hz : (c : Int) - 1 ≤ 0 := by omega
    clear hC hc e0
    go_enter Tryz.func56, Tryz.ntmps56
    go_wp2_with fail
    refine HV.out.mono ?_
    rintro e w1 ⟨rfl, rfl⟩
    go_wp2_with fail
    refine HT.out.mono ?_
    rintro e w2 ⟨rfl, hq2⟩
    have HQ2 := hid hq2
    clear hq2
    go_wp2_with fail
    go_ret
    exact ⟨rfl, TurnC.same HC.out HQ2.out⟩
  · obtain ⟨m, rfl⟩ : ∃ m, c = m + 1 := ⟨c - 1, by omega⟩
    have e0 : m + 1 - 1 = m := by omega
    rw [e0]
    have e1 : ((m + 1 : Nat) : Int) = (m : Int) + 1 := by omega
    rw [e1] at HT
    have hz : ¬ (m : Int) ≤ 0 := by omega
    have hm : m < d.length := by omega
    have hm0 : 0 < m := by omega
    obtain ⟨b, hb⟩ : ∃ b, p = some ⟨b, 0, none⟩ := by
      rcases hC.row.2 with ⟨h, _⟩ | ⟨b, _, _, h, _⟩
      · injection h with _ h2 _; omega
      · injection h with h2 _ _; exact ⟨b, h2⟩
    subst hb
    have HCL : Hid (∀ W, Below w.heap.size w W → Calls Tryz.prog 83 #[.slice (some ⟨b, m * 5, none⟩) (d.length - m) (cap - m)] W fun e w' => ∃ u, e = .returned u ∧ KV.Own W.heap.size w' u (d.drop m) ∧ Below W.heap.size W w') := fun W hW => by
      have := tail_is hC.row m (by omega)
      unfold tailV at this
      rw [if_neg (by omega)] at this
      have e2 : (some (⟨b, 0, none⟩ : Addr)).map (·.add (m * 5)) = some ⟨b, m * 5, none⟩ := by simp [addr_add]
      rw [e2] at this
      exact cloneV_any _ (d.drop m) W (Kind.is_kept this hW) (by rw [List.length_drop]; omega)
    have i1 : (0 : Int) ≤ (m : Int) := by omega
    have i2 : (m : Int) ≤ (d.length : Int) := by omega
    have i3 : (d.length : Int) ≤ (cap : Int) := by omega
    have i4 : (m : Int) ≤ (cap : Int) := by omega
    have i5 : ¬ cap = m := by omega
    clear hC hc e0 e1 h1
    go_enter Tryz.func56, Tryz.ntmps56
    go_wp2_with fail
    refine HV.out.mono ?_
    rintro e w1 ⟨rfl, rfl⟩
    go_wp2_with fail
    refine HT.out.mono ?_
    rintro e w2 ⟨rfl, hq2⟩
    have HQ2 := hid hq2
    have hc2 := (HC.out.on hq2).cell
    have HCC := hid (HCL.out w2 hq2)
    clear hq2 HT HCL
    go_wp2_with fail
    refine HCC.out.mono ?_
    rintro e w3 ⟨u, rfl, a1, a2⟩
    obtain ⟨pu, cu, hu⟩ := Kind.own_shape a1
    have hC3 := (HC.out.on HQ2.out).on a2
    have hc3 := hC3.cell
    have hf3 := hC3.free
    have hb3 := bel_then HQ2.out HQ2.out.size a2
    have HTC : Hid (TurnC n0 w1 g d (.slice (some ⟨b, 0, none⟩) d.length cap) ((d.map Vx.ver).drop m) (w3.setCell ⟨g, 0, none⟩ u)) := by
      have hgs : Fr (fun k => k = g) w3 (w3.setCell ⟨g, 0, none⟩ u) := Fr.of_grown (grown_set w3 g 0 u) fun k hk => by simpa using hk.symm
      have hgl : g < w1.heap.size := cell_block HC.out.cell
      have hng := HC.out.base
      have hs2 := HQ2.out.size
      have hublk : ∀ k, u.ownBlock = some k → w2.heap.size ≤ k := fun k hk => (World.ownsRow.lt (show w3.ownsRow w2.heap.size 39 5 u (d.drop m).length (KV.cells (d.drop m)) from a1) k hk).1
      refine ⟨d.drop m, u, ⟨?_, ?_, hng, ?_, fun x hx => ?_, ?_, ?_, ?_⟩, List.map_drop.symm ▸ rfl, ?_, ?_⟩
      · simp [go_sem, hc3]
      · simp [go_sem, hf3]
      · exact hgs.row (show w3.ownsRow n0 39 5 u (d.drop m).length (KV.cells (d.drop m)) from own_weak a1 (by omega)) fun k hk e => by have := hublk k hk; omega
      · have hx' := hC3.each x (List.mem_of_mem_drop hx)
        exact ⟨ownJ_fr hx'.1 hgs fun k hk e => HC.out.off k (Or.inr ⟨x, List.mem_of_mem_drop hx, hk⟩) e, hx'.2⟩
      · rintro k (hk | ⟨x, hx, hk⟩)
        · have := hublk k hk; omega
        · exact HC.out.off k (Or.inr ⟨x, List.mem_of_mem_drop hx, hk⟩)
      · rw [List.map_drop]; exact ok_drop HC.out.ok _
      · rw [List.map_drop, lastV_drop (by rw [List.length_map]; omega)]; exact HC.out.top
      · rintro k (rfl | hk | ⟨x, hx, hk⟩)
        · exact Or.inl (Or.inl rfl)
        · have := hublk k hk; exact Or.inr (by omega)
        · exact Or.inl (Or.inr (Or.inr ⟨x, List.mem_of_mem_drop hx, hk⟩))
      · exact (Fr.of_below hb3).then hgs fun k hk => Or.inl (Or.inl hk)
    subst hu
    rw [List.length_drop] at HTC
    clear hC3 a1 a2 hb3
    go_wp2_with fail
    go_ret
    exact ⟨rfl, HTC.out⟩

set_option maxHeartbeats 1000000 in
theorem new_any (w : World) : Calls Tryz.prog 53 #[] w fun e w' => e = .returned (.pointer (some ⟨w.heap.size, 0, none⟩)) ∧ PrgC w.heap.size w' w.heap.size [] (.slice none 0 0) ∧ Below w.heap.size w w' := by
  have HC : Hid (PrgC w.heap.size (w.alloc (.cells #[.slice none 0 0] 132)) w.heap.size [] (.slice none 0 0)) := by
    refine ⟨by simp [go_sem], ?_, Nat.le_refl _, KV.own_nil _ _, fun x hx => by simp at hx, ?_, ok_nil, by decide⟩
    · unfold World.frozen?
      rw [heap_alloc_new]; rfl
    · rintro k (hk | ⟨x, hx, _⟩)
      · cases hk
      · simp at hx
  go_enter Tryz.func53, Tryz.ntmps53
  go_wp2_with fail
  go_ret
  exact ⟨rfl, HC.out, (Below.refl _ _).alloc (Nat.le_refl _) _⟩

end Go.Proofs.YticfpkodoghnnaaGreat
