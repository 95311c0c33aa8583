/-
  Texts of this claim, one behind the other: Hp3 Hp4 Hp5 Hp6 Hw0 Cb0 Re1 Re2 Hw1 Hw2 Hw3 Hw4 Hd0 Hdm Trm Rp0 Rp1 Rp2 Pc0 Kst Kr0 Rfm Ris Kro.
-/
import Derived.Test.YtelcongbnmfegabGreatDoorPc
import Derived.Test.YtelcongbnmfegabGreatDoorPa
import Derived.Deep.RegionLaw
import Derived.Test.YtelcongbnmfegabGreatDoorPb
import Derived.Laws.CopyOwn
import Derived.Maps.AppendAt
import Derived.Deep.AppendLies
import Derived.Shelf.SlicesE.DeleteFunc
import Derived.Shelf.Slices.Turned
import Derived.Lib.OwnBridge
import Derived.Deep.CutRange
import Derived.Laws.StructEq
import Derived.Shelf.SlSortCmp.SmallK
import Derived.Lib.SlicesCompact
import Derived.Lib.SliceRun
/-
  The contracts of againstName, of slices.BinarySearchFunc over it, and of slices.Delete at fields.
-/
namespace Go.Proofs.YtelcongbnmfegabGreatDoor
open Go.RowKit Go.Lib

theorem enters_against : ∀ args w, (callFunc 66 args).run Tryz.prog w = .ok (.enter 66 args) w := enters_of Tryz.func66 (by kernel_rfl) rfl

set_option maxHeartbeats 1000000 in
theorem against_any (nm n : ByteArray) (sl : Value) (w : World) : Calls Tryz.prog 66 #[.agg #[.string nm, sl], .string n] w fun e w' => e = .returned (.int .i64 (Lib.compareBytes nm.data.toList n.data.toList)) ∧ Below w.heap.size w w' := by
  go_enter Tryz.func66, Tryz.ntmps66
  go_wp2_with (first | (go_at_call 92; refine (Tryz.strings_Compare _ _ _).mono ?_; rintro e w1 ⟨rfl, rfl⟩))
  go_ret
  exact ⟨rfl, (Below.refl _ _).alloc (Nat.le_refl _) _⟩

theorem place_fx {o : List Fx} {n : ByteArray} {c : Nat} {F : Bool} (P : Place (o.map Fx.fld) n c F) (k : Nat) (h : k < o.length) : ((Lib.compareBytes (o[k]).name.data.toList n.data.toList < 0) ↔ k < c) := by
  have := P.lt k (by rw [List.length_map]; exact h)
  rw [List.getElem_map] at this
  rw [← this]
  show _ ↔ ltB (o[k]).name n = true
  unfold ltB
  rw [decide_eq_true_iff]

theorem place_eq {o : List Fx} {n : ByteArray} {c : Nat} {F : Bool} (P : Place (o.map Fx.fld) n c F) (h : c < o.length) : (Lib.compareBytes (o[c]).name.data.toList n.data.toList == 0) = F := by
  have hc : c < (o.map Fx.fld).length := by rw [List.length_map]; exact h
  have e : ((o.map Fx.fld)[c]).1 = (o[c]).name := by rw [List.getElem_map]; rfl
  cases F with
  | true =>
    obtain ⟨_, h2⟩ := P.here rfl
    rw [e] at h2
    rw [h2, cb_self]
    rfl
  | false =>
    have h2 := P.no rfl hc
    rw [e] at h2
    rw [beq_eq_false_iff_ne]
    exact fun h3 => h2 (ba_eq ((cb_zero _ _).1 h3))

theorem place_end {o : List Fx} {n : ByteArray} {c : Nat} {F : Bool} (P : Place (o.map Fx.fld) n c F) (h : ¬ c < o.length) : F = false := by
  cases F with
  | true =>
    obtain ⟨h1, _⟩ := P.here rfl
    rw [List.length_map] at h1
    exact absurd h1 h
  | false => rfl

set_option maxHeartbeats 4000000 in
set_option maxRecDepth 100000 in
theorem bsx_any (v : Value) (o : List Fx) (n : ByteArray) (c : Nat) (F : Bool) (w : World) (hv : IsXs w v o) (hP : Place (o.map Fx.fld) n c F) (hl : o.length ≤ 1000000) :
    Calls Tryz.prog 65 #[v, .string n, .func (.func 66) #[] #[]] w fun e w' => e = .returned (.tuple #[.int .i64 (c : Nat), .bool F]) ∧ Below w.heap.size w w' := by
  have eg := enters_against
  obtain ⟨p, cap, rfl, hd, _⟩ := hv
  have HD := hid hd
  have HR := hid (place_fx hP)
  have HE := hid (fun h => place_eq hP h)
  have HN := hid (fun h => place_end hP h)
  have hcl : c ≤ o.length := by have := hP.le; rwa [List.length_map] at this
  clear hd hP
  go_enter Tryz.func65, Tryz.ntmps65
  go_wp2_with fail
  go_loopg [9, 10] o.length (fun kx s9 s10 wr => ∃ lo hi : Nat, s9 = .int .i64 lo ∧ s10 = .int .i64 hi ∧ lo ≤ c ∧ c ≤ hi ∧ hi ≤ o.length ∧ hi - lo ≤ kx ∧ Hid (Below w.heap.size w wr))
  case atStart => exact ⟨0, o.length, rfl, rfl, Nat.zero_le _, hcl, Nat.le_refl _, by omega, Below.refl _ _⟩
  case round =>
    obtain ⟨lo, hi, rfl, rfl, hlc, hch, hhd, hg, HB⟩ := hrel
    by_cases hlt : lo < hi
    · have hk : (lo + hi) / 2 < o.length := by omega
      obtain ⟨b1, o1, rfl, k1⟩ : ∃ b off, p = some ⟨b, off, none⟩ ∧ XsAt w b off o := by
        rcases HD.out with h | h
        · rw [h] at hk; simp at hk
        · exact h
      obtain ⟨y0, y1⟩ := k1.kept HB.out ((lo + hi) / 2) hk
      have hiff := HR.out ((lo + hi) / 2) hk
      have hsz := HB.out.size
      generalize o[(lo + hi) / 2] = x at *
      have hcall := against_any x.name n x.sl wr
      obtain ⟨xn, xp, xc, xt⟩ := x
      simp only [Fx.sl] at y0 y1 hiff hcall
      have HCALL := hid hcall
      clear k1 hcall
      generalize Lib.compareBytes xn.data.toList n.data.toList = cmp at *
      by_cases hs : cmp < 0
      · have hkc := hiff.1 hs
        clear hiff
        go_wp2_with (go_at_fn 66; refine HCALL.out.mono ?_; rintro e w1 ⟨rfl, hq⟩)
        have HB1 := hid (bel_then HB.out hsz hq)
        go_roundg (hi - ((lo + hi) / 2 + 1))
        case measure => omega
        exact ⟨(lo + hi) / 2 + 1, hi, by rw [show ((lo : Int) + (hi : Int)) / 2 + 1 = (((lo + hi) / 2 + 1 : Nat) : Int) by omega], rfl, by omega, hch, hhd, by omega, HB1.out⟩
      · have hkc : ¬ (lo + hi) / 2 < c := fun h => hs (hiff.2 h)
        clear hiff
        go_wp2_with (go_at_fn 66; refine HCALL.out.mono ?_; rintro e w1 ⟨rfl, hq⟩)
        have HB1 := hid (bel_then HB.out hsz hq)
        go_roundg ((lo + hi) / 2 - lo)
        case measure => omega
        exact ⟨lo, (lo + hi) / 2, rfl, by rw [show ((lo : Int) + (hi : Int)) / 2 = (((lo + hi) / 2 : Nat) : Int) by omega], hlc, by omega, by omega, by omega, HB1.out⟩
    · obtain rfl : lo = c := by omega
      obtain rfl : hi = lo := by omega
      by_cases hn : hi < o.length
      · obtain ⟨b1, o1, rfl, k1⟩ : ∃ b off, p = some ⟨b, off, none⟩ ∧ XsAt w b off o := by
          rcases HD.out with h | h
          · rw [h] at hn; simp at hn
          · exact h
        obtain ⟨y0, y1⟩ := k1.kept HB.out hi hn
        have heq := HE.out hn
        have hsz := HB.out.size
        generalize o[hi] = x at *
        have hcall := against_any x.name n x.sl wr
        obtain ⟨xn, xp, xc, xt⟩ := x
        simp only [Fx.sl] at y0 y1 heq hcall
        have HCALL := hid hcall
        clear k1 hcall
        generalize Lib.compareBytes xn.data.toList n.data.toList = cmp at *
        go_wp2_with (go_at_fn 66; refine HCALL.out.mono ?_; rintro e w1 ⟨rfl, hq⟩)
        have HB1 := hid (bel_then HB.out hsz hq)
        go_ret2
        exact ⟨rfl, HB1.out⟩
      · have hF := HN.out hn
        subst hF
        go_wp2_with fail
        go_ret2
        exact ⟨rfl, HB.out⟩

end Go.Proofs.YtelcongbnmfegabGreatDoor

/-
  The contract of slices.Delete at fields, one of them taken out.
-/
namespace Go.Proofs.YtelcongbnmfegabGreatDoor
open Go.RowKit Go.Lib

/-- append in a region that draws its order, where its run is known. -/
theorem step_append_run {P : Program} {ops : Array Oper} {o : Oper} {a : Act} {w : World} {K : Act → World → Prop} {Q : Exit → Act → World → Prop} {E : Prop}
    (hg : o.guard = none) (s x : Operand) (t t' : TypeId) (hop : o.op = Op.call { callee := Callee.builtin Builtin.append, args := #[s, x], argTypes := #[t, t'] })
    (v u : Value) (hs : a.eval s = v) (hx : a.eval x = u) {v' : Value} {w' : World} (hr : (Builtin.append_ #[t, t'] o.type #[v, u]).run P w = .ok v' w') (hK : K (a.put o.dst v') w') :
    if Region.wanted o (yielded ops a.tmps) = true then Oper.wp P o a w K Q else E := by
  have hw : Region.wanted o (yielded ops a.tmps) = true := by simp [Region.wanted, hg]
  rw [if_pos hw]
  unfold Oper.wp
  simp [execOp, hop, resolve, invoke, builtin, hs, hx, hr, Result.andThen]
  exact hK

/-- The cells of a field in a row. -/
theorem rowX_cell {N g n cap : Nat} {w : World} {o : List Fx} (h : RowX N w (.slice (some ⟨g, 0, none⟩) n cap) o) (j : Nat) (u : Value) (hu : (cellsX o)[j]? = some u) : w.cell? ⟨g, j, none⟩ = some u := by
  obtain ⟨hn, _, _, _, cur, hg, hs, ht⟩ := rowX_block h
  have hj : j < n * 2 := by
    have := (List.getElem?_eq_some_iff.1 hu).1
    rwa [cellsX_len, hn] at this
  rw [cell_of_row w g j cur _ _ hg, ← Array.getElem?_toList]
  rw [← ht, List.getElem?_take, if_pos hj] at hu
  exact hu

theorem rowX_drew {N g n cap : Nat} {w : World} {o : List Fx} (h : RowX N w (.slice (some ⟨g, 0, none⟩) n cap) o) : RowX N w.drew (.slice (some ⟨g, 0, none⟩) n cap) o := h

set_option maxHeartbeats 4000000 in
set_option maxRecDepth 100000 in
theorem delX_any (N g n cap i : Nat) (o : List Fx) (w : World) (h : RowX N w (.slice (some ⟨g, 0, none⟩) n cap) o) (hi : i < n) :
    Calls Tryz.prog 67 #[.slice (some ⟨g, 0, none⟩) n cap, .int .i64 i, .int .i64 ((i : Int) + 1)] w fun e w' =>
      e = .returned (.slice (some ⟨g, 0, none⟩) (n - 1) cap) ∧ RowX N w' (.slice (some ⟨g, 0, none⟩) (n - 1) cap) (o.eraseIdx i) ∧ w.grownBy w' (some g) := by
  obtain ⟨i0, hi0, hz0, hz1, hz2⟩ := info_parts Tryz.infoFld
  obtain ⟨hn, hNg, hnc, hcm, cur, hg, hs, ht⟩ := rowX_block h
  have hnl : (cellsX (o.drop (i + 1))).length = (n - (i + 1)) * i0.size := by rw [cellsX_len, List.length_drop, hn, hz1]
  obtain ⟨news, hnews⟩ : ∃ news, cellsX (o.drop (i + 1)) = news := ⟨_, rfl⟩
  have hsrc : ∀ j u, news[j]? = some u → w.drew.cell? ((⟨g, (i + 1) * 2, none⟩ : Addr).add j) = some u := fun j u hu => by
    rw [addr_add]
    rw [← hnews, cellsX_drop, List.getElem?_drop] at hu
    exact rowX_cell (rowX_drew h) _ u hu
  have hones : ∀ u ∈ news, u.oneCell' = true := by rw [← hnews]; exact cellsX_ones _
  have hrd := rowX_del (w := w.drew) hn hi hNg hg hnc hcm hs ht
  rw [hnews] at hnl hrd
  have hrun : ∀ (A : Addr) (c : Nat) (ty : TypeId), (0 < n - (i + 1) → A = ⟨g, (i + 1) * 2, none⟩) → (Builtin.append_ #[22, 22] ty #[.slice (some ⟨g, 0, none⟩) i cap, .slice (some A) (n - (i + 1)) c]).run Tryz.prog w.drew =
      .ok (.slice (some ⟨g, 0, none⟩) (n - 1) cap) (w.drew.setRow g (cur.toList.take (i * 2) ++ news ++ cur.toList.drop (i * 2 + news.length)).toArray) := fun A c ty hA => by
    have hsrc' : ∀ j u, news[j]? = some u → w.drew.cell? (A.add j) = some u := fun j u hu => by
      have hj := (List.getElem?_eq_some_iff.1 hu).1
      rw [hnl] at hj
      have h0 : 0 < n - (i + 1) := Nat.pos_of_ne_zero fun e => by rw [e] at hj; simp at hj
      rw [hA h0]
      exact hsrc j u hu
    have := run_append_room (P := Tryz.prog) w.drew 22 ty 35 i0 Tryz.underlying22 hi0 g i cap cur hg A (n - (i + 1)) c news hnl hsrc' hones (by omega) (by rw [hnl, hz1, hs]; omega)
    rw [show i + (n - (i + 1)) = n - 1 by omega, hz1] at this
    exact this
  obtain ⟨W1, hW1⟩ : ∃ W1, w.drew.setRow g (cur.toList.take (i * 2) ++ news ++ cur.toList.drop (i * 2 + news.length)).toArray = W1 := ⟨_, rfl⟩
  rw [hW1] at hrun hrd
  have hg1 : w.grownBy W1 (some g) := by rw [← hW1]; exact grown_setRowD w g _
  obtain ⟨_, _, _, _, cur1, hgc1, hs1, _⟩ := rowX_block hrd
  obtain ⟨zs, hcl⟩ : ∃ zs : List Value, ∀ ty c, (Builtin.clear_ #[22] ty #[.slice (some ⟨g, (n - 1) * 2, none⟩) 1 c]).run Tryz.prog W1 = .ok (.tuple #[]) (W1.setCells g ((n - 1) * 2) zs) := by
    have hc : ∀ j, j < 1 * 2 → (W1.cell? ⟨g, (n - 1) * 2 + j, none⟩).isSome = true := fun j hj => by
      rw [cell_of_row W1 g _ cur1 _ _ hgc1, Array.getElem?_eq_getElem (by omega)]; rfl
    have hf : ∀ j, j < 1 * 2 → W1.frozen? ⟨g, (n - 1) * 2 + j, none⟩ = false := fun j hj => Lib.frozen_of_heap hgc1 _
    obtain ⟨zs, hz⟩ := run_clearX W1 0 g ((n - 1) * 2) 1 0 (by omega) hc hf
    exact ⟨zs, fun ty c => hz⟩
  have HRD := hid (rowX_past zs W1 ((n - 1) * 2) hrd (by rw [List.length_eraseIdx, if_pos (by omega), hn]) (Nat.le_refl _))
  have HG := hid (grown_setsX zs W1 w ((n - 1) * 2) hg1)
  have HRUN := hid hrun
  have mixed : Tryz.prog.follows .mixedOrders = true := by kernel_rfl
  obtain ⟨A, hA, HA2⟩ : ∃ A : Addr, (if cap = i + 1 then some (⟨g, 0, none⟩ : Addr) else some ⟨g, (i + 1) * 2, none⟩) = some A ∧ Hid (0 < n - (i + 1) → A = ⟨g, (i + 1) * 2, none⟩) := by
    by_cases hh : cap = i + 1
    · exact ⟨_, if_pos hh, fun h0 => absurd h0 (by omega)⟩
    · exact ⟨_, if_neg hh, fun _ => rfl⟩
  have hiz : (0 : Int) ≤ i := by omega
  have hiz1 : (0 : Int) ≤ (i : Int) + 1 := by omega
  have hin : (i : Int) + 1 ≤ (n : Int) := by omega
  have hic : (i : Int) ≤ (cap : Int) := by omega
  have hlt1 : (i : Int) ≤ (i : Int) + 1 := by omega
  have hnc' : (n : Int) ≤ (cap : Int) := by omega
  have htn : ((i : Int) + 1).toNat = i + 1 := by omega
  have hne : ((i : Int) == (i : Int) + 1) = false := by rw [beq_eq_false_iff_ne]; omega
  have hn1 : n - (n - 1) = 1 := by omega
  have hnz : ((n - 1 : Nat) : Int) ≤ (n : Int) := by omega
  have hnz0 : (0 : Int) ≤ ((n - 1 : Nat) : Int) := by omega
  have hcn1 : ¬ (cap = n - 1) := by omega
  clear hrun hrd hg1 hgc1 hs1 hsrc hones hnl hnews hW1 hg hs ht h hz0 hz2 hi0 hz1
  go_enter Tryz.func67, Tryz.ntmps67
  go_wp2_with fail
  go_region_law_o (refine step_append_run rfl (.tmp 22) (.tmp 25) 22 22 rfl (.slice (some ⟨g, 0, none⟩) i cap) (.slice (some A) (n - (i + 1)) (cap - (i + 1))) (by simp [Act.eval, Act.put]) (by simp [Act.eval, Act.put]) (HRUN.out A _ _ HA2.out) ?_)
  go_wp2_with fail
  go_ret
  exact ⟨rfl, HRD.out, HG.out⟩

end Go.Proofs.YtelcongbnmfegabGreatDoor

/-
  The contract of slices.Insert at fields, one of them laid in.
-/
namespace Go.Proofs.YtelcongbnmfegabGreatDoor
open Go.RowKit Go.Lib

theorem drop_len {X Y : List Value} {k : Nat} (h : X.length = k) : (X ++ Y).drop k = Y := by subst h; exact List.drop_left
theorem take_len {X Y : List Value} {k : Nat} (h : X.length = k) : (X ++ Y).take k = X := by subst h; exact List.take_left

/-- What a list is behind two segments laid over it, the first behind the second. -/
theorem seg_two (L cs e : List Value) (a : Nat) (he : e.length = 2) (hL : a + 2 + cs.length ≤ L.length) (L1 L2 : List Value)
    (h1 : L1 = L.take (a + 2) ++ cs ++ L.drop (a + 2 + cs.length)) (h2 : L2 = L1.take a ++ e ++ L1.drop (a + e.length)) :
    L2.length = L.length ∧ L2.take a = L.take a ∧ (L2.drop a).take 2 = e ∧ (L2.drop (a + 2)).take cs.length = cs := by
  have l1 : L1.length = L.length := by rw [h1]; simp; omega
  have t1 : L1.take a = L.take a := by
    rw [h1, List.append_assoc, List.take_append_of_le_length (by simp; omega), List.take_take]
    congr 1
    omega
  have d1 : L1.drop (a + 2) = cs ++ L.drop (a + 2 + cs.length) := by
    rw [h1, List.append_assoc]
    exact drop_len (by simp; omega)
  have la : (L1.take a).length = a := by rw [List.length_take]; omega
  have l2 : L2.length = L.length := by rw [h2]; simp; omega
  refine ⟨l2, ?_, ?_, ?_⟩
  · rw [h2, List.append_assoc, List.take_append_of_le_length (by omega), List.take_of_length_le (by omega), t1]
  · rw [h2, List.append_assoc, drop_len la]
    exact take_len he
  · rw [h2, he, d1]
    rw [drop_len (by rw [List.length_append, la, he])]
    exact take_len rfl

/-- .. and the second behind the first. -/
theorem seg_owt (L cs e : List Value) (a : Nat) (he : e.length = 2) (hL : a + 2 + cs.length ≤ L.length) (L1 L2 : List Value)
    (h1 : L1 = L.take a ++ e ++ L.drop (a + e.length)) (h2 : L2 = L1.take (a + 2) ++ cs ++ L1.drop (a + 2 + cs.length)) :
    L2.length = L.length ∧ L2.take a = L.take a ∧ (L2.drop a).take 2 = e ∧ (L2.drop (a + 2)).take cs.length = cs := by
  have la : (L.take a).length = a := by rw [List.length_take]; omega
  have l1 : L1.length = L.length := by rw [h1]; simp; omega
  have t1 : L1.take (a + 2) = L.take a ++ e := by
    rw [h1, List.take_append_of_le_length (by simp; omega), List.take_of_length_le (by simp; omega)]
  have l2 : L2.length = L.length := by rw [h2]; simp; omega
  refine ⟨l2, ?_, ?_, ?_⟩
  · rw [h2, t1, List.append_assoc, List.append_assoc, List.take_append_of_le_length (by omega), List.take_of_length_le (by omega)]
  · rw [h2, t1, List.append_assoc, List.append_assoc, drop_len la]
    exact take_len he
  · rw [h2, t1]
    rw [List.append_assoc, drop_len (by rw [List.length_append, la, he])]
    exact take_len rfl

theorem shape_of {w : World} {b : Nat} {cs : Array Value} {t : TypeId} (h : w.heap[b]? = some (.cells cs t (0, 0))) : w.shape? b = some (t, cs.size) := by
  unfold World.shape?
  rw [h]

theorem encX_len (x : Fx) : (encX x).length = 2 := rfl
theorem encX_ones (x : Fx) : ∀ u ∈ encX x, u.oneCell' = true := by
  intro u hu
  simp [encX, Fx.sl] at hu
  rcases hu with rfl | rfl <;> rfl

theorem box_cellsX {w : World} {b : Nat} {x : Fx} (h : w.heap[b]? = some (.cells (encX x).toArray 35 (0, 0))) : ∀ j u, (encX x)[j]? = some u → w.cell? ((⟨b, 0, none⟩ : Addr).add j) = some u := fun j u hu => by
  rw [addr_add, Nat.zero_add, cell_of_row w b j _ _ _ h]
  simpa using hu

/-- copy in a region that draws its order, where its run is known. -/
theorem step_copy_run {P : Program} {ops : Array Oper} {o : Oper} {a : Act} {w : World} {K : Act → World → Prop} {Q : Exit → Act → World → Prop} {E : Prop}
    (hg : o.guard = none) (d x : Operand) (dT sT : TypeId) (hop : o.op = Op.call { callee := Callee.builtin Builtin.copy, args := #[d, x], argTypes := #[dT, sT] })
    (v u : Value) (hd : a.eval d = v) (hx : a.eval x = u) {v' : Value} {w' : World} (hr : (Builtin.copy_ #[dT, sT] o.type #[v, u]).run P w = .ok v' w') (hK : K (a.put o.dst v') w') :
    if Region.wanted o (yielded ops a.tmps) = true then Oper.wp P o a w K Q else E := by
  have hw : Region.wanted o (yielded ops a.tmps) = true := by simp [Region.wanted, hg]
  rw [if_pos hw]
  unfold Oper.wp
  simp [execOp, hop, resolve, invoke, builtin, hd, hx, hr, Result.andThen]
  exact hK

theorem wpList_copy_run {P : Program} (w : World) {ops : Array Oper} {rest : List Oper} {o : Oper} {a : Act} {Q : Exit → Act → World → Prop} (hgd : o.guard = none) (d s : Operand) (t t' : TypeId)
    (ho : o.op = .call { callee := .builtin .copy, args := #[d, s], argTypes := #[t, t'] }) (v u : Value) (hd : a.eval d = v) (hs : a.eval s = u) {v' : Value} {w' : World}
    (hr : (Builtin.copy_ #[t, t'] o.type #[v, u]).run P w = .ok v' w') (h : wpList P ops Q rest (a.put o.dst v') w') : wpList P ops Q (o :: rest) a w :=
  wpList_plain hgd fun K hK => by
    unfold Oper.wp
    simp [execOp, ho, resolve, invoke, builtin, hd, hs, hr, Result.andThen]
    exact hK _ _ h

def InsPost (N : Nat) (w : World) (v : Value) (o : List Fx) (i : Nat) (x : Fx) (e : Ending) (w' : World) : Prop :=
  ∃ u, e = .returned u ∧ RowX N w' u (o.take i ++ x :: o.drop i) ∧ w.grownBy w' v.ownBlock

set_option maxHeartbeats 4000000 in
set_option maxRecDepth 100000 in
/-- At the end. -/
theorem insX_end (N : Nat) (v : Value) (o : List Fx) (x : Fx) (b : Nat) (w : World) (hv : RowX N w v o) (hl : o.length ≤ 1000000) (hx : w.heap[b]? = some (.cells (encX x).toArray 35 (0, 0))) (hN : N ≤ w.heap.size) :
    Calls Tryz.prog 68 #[v, .int .i64 (o.length : Nat), .slice (some ⟨b, 0, none⟩) 1 1] w fun e w' => InsPost N w v o o.length x e w' := by
  obtain ⟨i0, hi0, hz0, hz1, hz2⟩ := info_parts Tryz.infoFld
  have HI := hid hi0
  have HC := hid (box_cellsX hx)
  have HV := hid hv
  obtain ⟨p, cap, hvv, hcap, hnil⟩ : ∃ p cap, v = .slice p o.length cap ∧ o.length ≤ cap ∧ (p = none → cap = 0) := by
    rcases hv.2 with ⟨h1, h2⟩ | ⟨g, cap, cur, h1, _, _, h4, _⟩
    · exact ⟨none, 0, by rw [h1, h2], by omega, fun _ => rfl⟩
    · exact ⟨_, cap, h1, h4, fun h => by cases h⟩
  subst hvv
  have hz : (0 : Int) ≤ (o.length : Int) := by omega
  have HT : Hid (o.take o.length ++ x :: o.drop o.length = o ++ [x]) := by show _ = _; simp
  obtain ⟨n, hn⟩ : ∃ n, o.length = n := ⟨_, rfl⟩
  have HL : Hid (RowX N w (.slice p n cap) o) := by rw [← hn]; exact hv
  have HN2 := hid hn
  have HCE : Hid (∀ (v' : Value) (w' : World), w'.ownsRow N 35 2 v' (n + 1) (cellsX o ++ encX x) → RowX N w' v' (o.take n ++ x :: o.drop n)) := fun v' w' h => by
    have e : cellsX (o ++ [x]) = cellsX o ++ encX x := by rw [cellsX_append]; simp [cellsX]
    rw [← hn, HT.out]
    unfold RowX
    rw [e, List.length_append, hn]
    exact h
  have HLO : Hid (w.ownsRow N 35 2 (.slice p n cap) n (cellsX o)) := by have := HL.out; unfold RowX at this; rw [hn] at this; exact this
  rw [hn] at hl hcap hz ⊢
  clear hv hx hi0 hn HV HT
  cases p with
  | none =>
    obtain rfl := hnil rfl
    obtain rfl : n = 0 := by omega
    go_enter Tryz.func68, Tryz.ntmps68
    go_wp2_with (at_builtin; refine wpList_append_own _ rfl _ _ 22 rfl N 35 i0 (.agg #[.string ⟨#[]⟩, .slice none 0 0]) 2 40 Tryz.underlying22 HI.out hz0 hz1 hz2 rfl (by decide) _ _ _ rfl HLO.out _ 1 1 (encX x) rfl rfl HC.out (encX_ones x) (by unfold maxLen; omega) (by omega) hN ?_; intro v4 w4 hown4 hg4 hnil4; have HO4 := hid hown4; have HG4 := hid hg4; clear hown4 hg4 hnil4)
    go_ret
    exact ⟨_, rfl, HCE.out _ _ HO4.out, HG4.out⟩
  | some ad =>
    have hzc : ((n : Nat) : Int) ≤ (cap : Int) := by omega
    clear hnil
    go_enter Tryz.func68, Tryz.ntmps68
    go_wp2_with (at_builtin; refine wpList_append_own _ rfl _ _ 22 rfl N 35 i0 (.agg #[.string ⟨#[]⟩, .slice none 0 0]) 2 40 Tryz.underlying22 HI.out hz0 hz1 hz2 rfl (by decide) _ _ _ rfl HLO.out _ 1 1 (encX x) rfl rfl HC.out (encX_ones x) (by unfold maxLen; omega) (by omega) hN ?_; intro v4 w4 hown4 hg4 hnil4; have HO4 := hid hown4; have HG4 := hid hg4; clear hown4 hg4 hnil4)
    all_goals
      go_ret
      exact ⟨_, rfl, HCE.out _ _ HO4.out, HG4.out⟩

end Go.Proofs.YtelcongbnmfegabGreatDoor

/-
  The contract of slices.Insert at fields, ahead of the end: where there is room, and where there is none.
-/
namespace Go.Proofs.YtelcongbnmfegabGreatDoor
open Go.RowKit Go.Lib

set_option maxHeartbeats 4000000 in
set_option maxRecDepth 100000 in
/-- Ahead of the end, in place. -/
theorem insX_room (N g n cap i : Nat) (o : List Fx) (x : Fx) (b : Nat) (w : World) (h : RowX N w (.slice (some ⟨g, 0, none⟩) n cap) o) (hi : i < n) (hc : n + 1 ≤ cap) (hm : n ≤ 1000000)
    (hx : w.heap[b]? = some (.cells (encX x).toArray 35 (0, 0))) (hb : b ≠ g) :
    Calls Tryz.prog 68 #[.slice (some ⟨g, 0, none⟩) n cap, .int .i64 i, .slice (some ⟨b, 0, none⟩) 1 1] w fun e w' => InsPost N w (.slice (some ⟨g, 0, none⟩) n cap) o i x e w' := by
  obtain ⟨i0, hi0, hz0, hz1, hz2⟩ := info_parts Tryz.infoFld
  obtain ⟨hn, hNg, hnc, hcm, cur, hg, hs, ht⟩ := rowX_block h
  obtain ⟨cs, hcs⟩ : ∃ cs, cellsX (o.drop i) = cs := ⟨_, rfl⟩
  have hcl : cs.length = (n - i) * 2 := by rw [← hcs, cellsX_len, List.length_drop, hn]
  have hcur : cur.toList.length = cap * 2 := by rw [Array.length_toList, hs]
  obtain ⟨L1, hL1⟩ : ∃ L1, L1 = cur.toList.take (i * 2 + 2) ++ cs ++ cur.toList.drop (i * 2 + 2 + cs.length) := ⟨_, rfl⟩
  obtain ⟨L2, hL2⟩ : ∃ L2, L2 = L1.take (i * 2) ++ encX x ++ L1.drop (i * 2 + (encX x).length) := ⟨_, rfl⟩
  obtain ⟨q1, q2, q3, q4⟩ := seg_two cur.toList cs (encX x) (i * 2) rfl (by rw [hcl, hcur]; omega) L1 L2 hL1 hL2
  have hl1 : L1.length = cap * 2 := by rw [hL1]; simp only [List.length_append, List.length_take, List.length_drop, hcur, hcl]; omega
  obtain ⟨W1, hW1⟩ : ∃ W1, w.drew.setRow g L1.toArray = W1 := ⟨_, rfl⟩
  have hg1 : W1.heap[g]? = some (.cells L1.toArray 35 (0, 0)) := by rw [← hW1]; exact setRow_heap w.drew g cur _ _ _ hg
  have hx1 : W1.heap[b]? = some (.cells (encX x).toArray 35 (0, 0)) := by rw [← hW1, setRow_other w.drew g b _ hb]; exact hx
  have hr1 : ∀ (ty : TypeId) (dc sc sl : Nat), n - i ≤ sl → (Builtin.copy_ #[22, 22] ty #[.slice (some ⟨g, (i + 1) * 2, none⟩) (n - i) dc, .slice (some ⟨g, i * 2, none⟩) sl sc]).run Tryz.prog w.drew = .ok (goInt ((n - i : Nat) : Int)) W1 := fun ty dc sc sl hsl => by
    have := run_copyK (P := Tryz.prog) w.drew 22 22 ty 35 i0 Tryz.underlying22 hi0 g ((i + 1) * 2) (n - i) dc ⟨g, i * 2, none⟩ sl sc cur 35 cs hg (n - i) (Nat.min_eq_right hsl) (by rw [hcl, hz1])
      (fun j u hu => by
        rw [addr_add]
        rw [← hcs, cellsX_drop, List.getElem?_drop] at hu
        exact rowX_cell (rowX_drew h) _ u hu)
      (by rw [hcl, hs]; omega) (by rw [← hcs]; exact cellsX_ones _)
    rw [this, show (i + 1) * 2 = i * 2 + 2 by omega, ← hL1, hW1]
  obtain ⟨W2, hW2⟩ : ∃ W2, W1.setRow g L2.toArray = W2 := ⟨_, rfl⟩
  have hr2 : ∀ (ty : TypeId) (dc dl : Nat), 1 ≤ dl → (Builtin.copy_ #[22, 22] ty #[.slice (some ⟨g, i * 2, none⟩) dl dc, .slice (some ⟨b, 0, none⟩) 1 1]).run Tryz.prog W1 = .ok (goInt ((1 : Nat) : Int)) W2 := fun ty dc dl hdl => by
    have := run_copyK (P := Tryz.prog) W1 22 22 ty 35 i0 Tryz.underlying22 hi0 g (i * 2) dl dc ⟨b, 0, none⟩ 1 1 L1.toArray 35 (encX x) hg1 1 (Nat.min_eq_left hdl) (by rw [hz1]; rfl)
      (box_cellsX hx1) (by rw [List.size_toArray, hl1, encX_len]; omega) (encX_ones x)
    rw [this]
    show _ = Result.ok _ _
    rw [← hL2, hW2]
  have hg2 : W2.heap[g]? = some (.cells L2.toArray 35 (0, 0)) := by rw [← hW2]; exact setRow_heap W1 g _ _ _ _ hg1
  have HROW : Hid (RowX N W2 (.slice (some ⟨g, 0, none⟩) (n + 1) cap) (o.take i ++ x :: o.drop i)) := by
    refine rowX_ins hn (by omega) hNg hg2 hc hcm (by rw [List.size_toArray, q1, hcur]) ?_ q3 ?_
    · show L2.take _ = _
      rw [q2, cellsX_take, ← ht, List.take_take]
      congr 1
      omega
    · show (L2.drop _).take _ = _
      rw [show (i + 1) * 2 = i * 2 + 2 by omega, ← hcl, q4, hcs]
  have HG : Hid (w.grownBy W2 (some g)) := by
    show World.grownBy _ _ _
    rw [← hW2, ← hW1]
    exact grown_trans (grown_setRowD w g L1.toArray) (grown_setRow _ g L2.toArray)
  have hov : ∀ lb cb, (callFunc 93 #[.slice (some ⟨b, 0, none⟩) 1 1, .slice (some ⟨g, (i + 1) * 2, none⟩) lb cb]).run Tryz.prog w = .ok (.value (.bool false)) w := fun lb cb => by
    rw [run_callFunc_extern Tryz.func93 (by kernel_rfl) (by kernel_rfl) (by kernel_rfl) (e := Extern.SlicesOverlaps.overlaps #[22, 22] #[4]) (by kernel_rfl),
      Lib.run_overlaps_apart w 22 4 35 Tryz.underlying22 2 Tryz.sizeOf35 ⟨b, 0, none⟩ ⟨g, (i + 1) * 2, none⟩ 1 1 lb cb hb _ _ _ _ (shape_of hx) (shape_of hg) (by rw [hs]; omega) (Lib.frozen_of_heap hx 0) (Lib.frozen_of_heap hx _)]
    rfl
  have mixed : Tryz.prog.follows .mixedOrders = true := by kernel_rfl
  have HR1 := hid hr1
  have hcp : ∀ ty, (Builtin.copy_ #[22, 22] ty #[.slice (some ⟨g, i * 2, none⟩) (n + 1 - i) (cap - i), .slice (some ⟨b, 0, none⟩) 1 1]).run Tryz.prog W1 = .ok (goInt ((1 : Nat) : Int)) W2 := fun ty => hr2 ty _ _ (by omega)
  have hiz : (0 : Int) ≤ i := by omega
  have hin : (i : Int) ≤ (n : Int) := by omega
  have hne : ((i : Int) == (n : Int)) = false := by rw [beq_eq_false_iff_ne]; omega
  have hw1 : IntKind.i64.wrap ((n : Int) + 1) = (n : Int) + 1 := by rw [IntKind.wrap_i64]; omega
  have hw2 : IntKind.i64.wrap ((i : Int) + 1) = (i : Int) + 1 := by rw [IntKind.wrap_i64]; omega
  have hgt : ¬ ((cap : Int) < (n : Int) + 1) := by omega
  have hle : (n : Int) + 1 ≤ (cap : Int) := by omega
  have hnz : (0 : Int) ≤ (n : Int) + 1 := by omega
  have htn : ((n : Int) + 1).toNat = n + 1 := by omega
  have hti : ((i : Int) + 1).toNat = i + 1 := by omega
  have hiz1 : (0 : Int) ≤ (i : Int) + 1 := by omega
  have hin1 : (i : Int) + 1 ≤ (n : Int) + 1 := by omega
  have hin2 : (i : Int) ≤ (n : Int) + 1 := by omega
  have hci : ¬ (cap = i) := by omega
  have hci1 : ¬ (cap = i + 1) := by omega
  have hsub : n + 1 - (i + 1) = n - i := by omega
  clear hr1 hr2 hg1 hg2 hx1 hx hg ht hs h q1 q2 q3 q4 hL1 hL2 hW1 hW2 hcs hcl hcur hl1 hi0 hz0 hz1 hz2
  go_enter Tryz.func68, Tryz.ntmps68
  go_wp2_with (simp only [hov])
  go_region_law_o (refine step_copy_run rfl _ _ 22 22 rfl (.slice (some ⟨g, (i + 1) * 2, none⟩) (n - i) (cap - (i + 1))) (.slice (some ⟨g, i * 2, none⟩) (n + 1 - i) (cap - i)) (by simp [Act.eval, Act.put]) (by simp [Act.eval, Act.put]) (HR1.out _ _ _ _ (by omega)) ?_)
  go_wp2_with fail
  go_ret
  exact ⟨_, rfl, HROW.out, HG.out⟩

set_option maxHeartbeats 4000000 in
set_option maxRecDepth 100000 in
/-- Ahead of the end, without room: a new row. -/
theorem insX_grow (N g n cap i : Nat) (o : List Fx) (x : Fx) (b : Nat) (w : World) (h : RowX N w (.slice (some ⟨g, 0, none⟩) n cap) o) (hi : i < n) (hc : cap < n + 1) (hm : n ≤ 1000000) (hN : N ≤ w.heap.size)
    (hx : w.heap[b]? = some (.cells (encX x).toArray 35 (0, 0))) :
    Calls Tryz.prog 68 #[.slice (some ⟨g, 0, none⟩) n cap, .int .i64 i, .slice (some ⟨b, 0, none⟩) 1 1] w fun e w' => InsPost N w (.slice (some ⟨g, 0, none⟩) n cap) o i x e w' := by
  obtain ⟨i0, hi0, hz0, hz1, hz2⟩ := info_parts Tryz.infoFld
  obtain ⟨hn, hNg, hnc, hcm, cur, hg, hs, ht⟩ := rowX_block h
  have hglt : g < w.heap.size := (Array.getElem?_eq_some_iff.1 hg).1
  have hblt : b < w.heap.size := (Array.getElem?_eq_some_iff.1 hx).1
  obtain ⟨cs, hcs⟩ : ∃ cs, cellsX (o.drop i) = cs := ⟨_, rfl⟩
  have hcl : cs.length = (n - i) * 2 := by rw [← hcs, cellsX_len, List.length_drop, hn]
  have hold : (Builtin.firstCells i0.size i (.slice (some ⟨g, 0, none⟩) i cap)).run Tryz.prog w.drew = .ok (cellsX (o.take i)).toArray w.drew :=
    run_firstCells_some w.drew i0.size i ⟨g, 0, none⟩ i cap (cellsX (o.take i)) (by rw [cellsX_len, hz1, List.length_take]; omega) (fun j u hu => by
      rw [addr_add, Nat.zero_add]
      refine rowX_cell (rowX_drew h) j u ?_
      rw [cellsX_take] at hu
      have hj := (List.getElem?_eq_some_iff.1 hu).1
      rw [List.length_take] at hj
      rwa [List.getElem?_take, if_pos (by omega)] at hu)
  have hik : i + (n + 1 - i) = n + 1 := by omega
  have hza : ∀ ty, (Builtin.append_ #[22, 3] ty #[.slice (some ⟨g, 0, none⟩) i cap, .int .i64 ((n + 1 - i : Nat) : Int)]).run Tryz.prog w = _ := fun ty =>
    Lib.run_append_grow_zeros w 22 3 ty 35 i0 _ .i64 .i64 Tryz.underlying22 Tryz.underlying3 hi0 hz0 (some ⟨g, 0, none⟩) i cap (cellsX (o.take i)) hold (n + 1 - i) (by omega) (by rw [hz1]; decide) (by omega) (by omega) (by rw [hz2]; omega) (by rw [hz2, hik]; exact growslice_fits hc (by omega))
  rw [hik] at hza
  obtain ⟨G, hG⟩ : ∃ G, grownCap w (n + 1) cap 35 = G := ⟨_, rfl⟩
  have hGn : n + 1 ≤ G := by rw [← hG]; exact grownCap_ge w _ _ _
  have hGm : G ≤ maxLen := by rw [← hG]; exact grownCap_le_maxLen w (n + 1) cap 35 (by unfold maxLen; omega)
  rw [hG] at hza
  obtain ⟨Z1, hZ1⟩ : ∃ Z1, Builtin.zeroCells (Value.agg #[.string ⟨#[]⟩, .slice none 0 0]).cells (n + 1 - i) = Z1 := ⟨_, rfl⟩
  obtain ⟨Z2, hZ2⟩ : ∃ Z2, Builtin.zeroCells (Value.agg #[.string ⟨#[]⟩, .slice none 0 0]).cells (G - (n + 1)) = Z2 := ⟨_, rfl⟩
  have hZ1s : Z1.size = (n + 1 - i) * 2 := by rw [← hZ1, size_zeroCells]; rfl
  have hZ2s : Z2.size = (G - (n + 1)) * 2 := by rw [← hZ2, size_zeroCells]; rfl
  rw [hZ1, hZ2] at hza
  obtain ⟨L0, hL0⟩ : ∃ L0, (cellsX (o.take i)).toArray ++ Z1 ++ Z2 = L0 := ⟨_, rfl⟩
  rw [hL0] at hza
  have hct : (cellsX (o.take i)).length = i * 2 := by rw [cellsX_len, List.length_take]; omega
  have hL0s : L0.size = G * 2 := by rw [← hL0, Array.size_append, Array.size_append, hZ1s, hZ2s, List.size_toArray, hct]; omega
  have hL0t : L0.toList.take (i * 2) = cellsX (o.take i) := by
    rw [← hL0, Array.toList_append, Array.toList_append, List.append_assoc]
    show List.take _ (cellsX (o.take i) ++ _) = _
    rw [← hct, List.take_left]
  obtain ⟨H, hH⟩ : ∃ H, w.heap.size = H := ⟨_, rfl⟩
  obtain ⟨W0, hW0⟩ : ∃ W0, w.drew.alloc (.cells L0 35) = W0 := ⟨_, rfl⟩
  rw [hW0, hH] at hza
  have hg0 : W0.heap[H]? = some (.cells L0 35 (0, 0)) := by rw [← hW0, ← hH]; exact heap_alloc_new w.drew _
  have hk0 : ∀ k, k < H → W0.heap[k]? = w.heap[k]? := fun k hk => by rw [← hW0]; exact Below.heap_alloc w.drew _ k (by rw [← hH] at hk; exact hk)
  have hgr0 : w.grownBy W0 (some g) := by
    rw [← hW0]
    exact ⟨rfl, rfl, rfl, by simp, fun k hk _ => Below.heap_alloc w.drew _ k hk⟩
  obtain ⟨L1, hL1⟩ : ∃ L1, L1 = L0.toList.take (i * 2) ++ encX x ++ L0.toList.drop (i * 2 + (encX x).length) := ⟨_, rfl⟩
  obtain ⟨L2, hL2⟩ : ∃ L2, L2 = L1.take (i * 2 + 2) ++ cs ++ L1.drop (i * 2 + 2 + cs.length) := ⟨_, rfl⟩
  obtain ⟨q1, q2, q3, q4⟩ := seg_owt L0.toList cs (encX x) (i * 2) rfl (by rw [hcl, Array.length_toList, hL0s]; omega) L1 L2 hL1 hL2
  have hl1 : L1.length = G * 2 := by rw [hL1]; simp only [List.length_append, List.length_take, List.length_drop, Array.length_toList, hL0s, encX_len]; omega
  have hr1 : ∀ (ty : TypeId) (dc dl : Nat), 1 ≤ dl → (Builtin.copy_ #[22, 22] ty #[.slice (some ⟨H, i * 2, none⟩) dl dc, .slice (some ⟨b, 0, none⟩) 1 1]).run Tryz.prog W0 = .ok (goInt ((1 : Nat) : Int)) (W0.setRow H L1.toArray) := fun ty dc dl hdl => by
    have := run_copyK (P := Tryz.prog) W0 22 22 ty 35 i0 Tryz.underlying22 hi0 H (i * 2) dl dc ⟨b, 0, none⟩ 1 1 L0 35 (encX x) hg0 1 (Nat.min_eq_left hdl) (by rw [hz1]; rfl)
      (box_cellsX (show W0.heap[b]? = _ from (hk0 b (by rw [← hH]; exact hblt)).trans hx)) (by rw [hL0s, encX_len]; omega) (encX_ones x)
    rw [this, ← hL1]
  have hg1 : (W0.setRow H L1.toArray).heap[H]? = some (.cells L1.toArray 35 (0, 0)) := setRow_heap W0 H _ _ _ _ hg0
  have hr2 : ∀ (ty : TypeId) (dc sc dl : Nat), n - i ≤ dl → (Builtin.copy_ #[22, 22] ty #[.slice (some ⟨H, (i + 1) * 2, none⟩) dl dc, .slice (some ⟨g, i * 2, none⟩) (n - i) sc]).run Tryz.prog (W0.setRow H L1.toArray).drew = .ok (goInt ((n - i : Nat) : Int)) ((W0.setRow H L1.toArray).drew.setRow H L2.toArray) := fun ty dc sc dl hdl => by
    have := run_copyK (P := Tryz.prog) (W0.setRow H L1.toArray).drew 22 22 ty 35 i0 Tryz.underlying22 hi0 H ((i + 1) * 2) dl dc ⟨g, i * 2, none⟩ (n - i) sc L1.toArray 35 cs hg1 (n - i) (Nat.min_eq_left hdl) (by rw [hcl, hz1])
      (fun j u hu => by
        rw [addr_add]
        rw [← hcs, cellsX_drop, List.getElem?_drop] at hu
        have h1 := rowX_cell h _ u hu
        have h2 : (W0.setRow H L1.toArray).drew.heap[g]? = w.heap[g]? := (setRow_other W0 H g _ (by omega)).trans (hk0 g (by rw [← hH]; exact hglt))
        rw [World.cell?_of_block (a := ⟨g, i * 2 + j, none⟩) h2]
        exact h1)
      (by rw [List.size_toArray, hl1, hcl]; omega) (by rw [← hcs]; exact cellsX_ones _)
    rw [this, show (i + 1) * 2 = i * 2 + 2 by omega]
    show _ = Result.ok _ _
    rw [← hL2]
  have HROW : Hid (RowX N ((W0.setRow H L1.toArray).drew.setRow H L2.toArray) (.slice (some ⟨H, 0, none⟩) (n + 1) G) (o.take i ++ x :: o.drop i)) := by
    refine rowX_ins hn (by omega) (by rw [← hH]; exact hN) (setRow_heap _ H _ _ _ _ hg1) hGn hGm (by rw [List.size_toArray, q1, Array.length_toList, hL0s]) ?_ q3 ?_
    · show L2.take _ = _
      rw [q2, hL0t]
    · show (L2.drop _).take _ = _
      rw [show (i + 1) * 2 = i * 2 + 2 by omega, ← hcl, q4, hcs]
  have HG : Hid (w.grownBy ((W0.setRow H L1.toArray).drew.setRow H L2.toArray) (some g)) := by
    refine ⟨hgr0.os, hgr0.tape, hgr0.output, ?_, fun k hk hne => ?_⟩
    · simpa [World.setRow] using hgr0.size
    · exact (setRow_other _ H k _ (by omega)).trans ((setRow_other _ H k _ (by omega)).trans (hk0 k (by omega)))
  have mixed : Tryz.prog.follows .mixedOrders = true := by kernel_rfl
  have hcp : ∀ ty, (Builtin.copy_ #[22, 22] ty #[.slice (some ⟨H, i * 2, none⟩) (n + 1 - i) (G - i), .slice (some ⟨b, 0, none⟩) 1 1]).run Tryz.prog W0 = .ok (goInt ((1 : Nat) : Int)) (W0.setRow H L1.toArray) := fun ty => hr1 ty _ _ (by omega)
  have HR2 := hid hr2
  have HZA := hid hza
  have hiz : (0 : Int) ≤ i := by omega
  have hin : (i : Int) ≤ (n : Int) := by omega
  have hne : ((i : Int) == (n : Int)) = false := by rw [beq_eq_false_iff_ne]; omega
  have hw1 : IntKind.i64.wrap ((n : Int) + 1) = (n : Int) + 1 := by rw [IntKind.wrap_i64]; omega
  have hw2 : IntKind.i64.wrap ((i : Int) + 1) = (i : Int) + 1 := by rw [IntKind.wrap_i64]; omega
  have hw3 : IntKind.i64.wrap ((n : Int) + 1 - (i : Int)) = ((n + 1 - i : Nat) : Int) := by rw [IntKind.wrap_i64]; omega
  have hgt : (cap : Int) < (n : Int) + 1 := by omega
  have hti : ((i : Int) + 1).toNat = i + 1 := by omega
  have hiz1 : (0 : Int) ≤ (i : Int) + 1 := by omega
  have hin1 : (i : Int) + 1 ≤ (n : Int) + 1 := by omega
  have hin2 : (i : Int) ≤ (n : Int) + 1 := by omega
  have hic : (i : Int) ≤ (cap : Int) := by omega
  have hci : ¬ (cap = i) := by omega
  have hGi : ¬ (G = i) := by omega
  have hGi1 : ¬ (G = i + 1) := by omega
  have hsub : n + 1 - (i + 1) = n - i := by omega
  clear hr1 hr2 hg1 hx hg ht hs h q1 q2 q3 q4 hL1 hL2 hcs hcl hl1 hi0 hz0 hz1 hz2 hza hZ1 hZ2 hZ1s hZ2s hL0 hct hL0s hL0t hW0 hg0 hk0 hgr0 hG hold hglt hblt hH
  go_enter Tryz.func68, Tryz.ntmps68
  go_wp2_with (at_builtin; refine Lib.wpList_append_run _ rfl _ _ _ _ rfl _ _ rfl rfl _ _ (HZA.out _) ?_)
  go_region_law_o (refine step_copy_run rfl _ _ 22 22 rfl (.slice (some ⟨H, (i + 1) * 2, none⟩) (n - i) (G - (i + 1))) (.slice (some ⟨g, i * 2, none⟩) (n - i) (cap - i)) (by simp [Act.eval, Act.put]) (by simp [Act.eval, Act.put]) (HR2.out _ _ _ _ (by omega)) ?_)
  go_wp2_with fail
  go_ret
  exact ⟨_, rfl, HROW.out, HG.out⟩

end Go.Proofs.YtelcongbnmfegabGreatDoor

/-
  The contract of with: a value with other texts for a name.
-/
namespace Go.Proofs.YtelcongbnmfegabGreatDoor
open Go.RowKit Go.Lib

theorem insX_any (N i : Nat) (v : Value) (o : List Fx) (x : Fx) (b : Nat) (w : World) (hv : RowX N w v o) (hi : i ≤ o.length) (hl : o.length ≤ 1000000) (hx : w.heap[b]? = some (.cells (encX x).toArray 35 (0, 0))) (hb : v.ownBlock ≠ some b) (hN : N ≤ w.heap.size) :
    Calls Tryz.prog 68 #[v, .int .i64 i, .slice (some ⟨b, 0, none⟩) 1 1] w fun e w' => InsPost N w v o i x e w' := by
  by_cases h : i = o.length
  · subst h
    exact insX_end N v o x b w hv hl hx hN
  · rcases hv.2 with ⟨_, h0⟩ | ⟨g, cap, cur, rfl, _, _, hc, _⟩
    · omega
    · by_cases hr : o.length + 1 ≤ cap
      · exact insX_room N g o.length cap i o x b w hv (by omega) hr hl hx (fun e => hb (by rw [e]; rfl))
      · exact insX_grow N g o.length cap i o x b w hv (by omega) (by omega) hl hN hx

theorem grownE_below {w W : World} (hb : Below w.heap.size w W) (ob : Option Nat) : w.grownBy W ob := ⟨hb.os, hb.tape, hb.output, hb.size, fun k hk _ => hb.block k hk⟩
theorem grownE_two {w1 w2 w3 : World} {ob : Option Nat} (h : w1.grownBy w2 ob) (k : w2.grownBy w3 ob) : w1.grownBy w3 ob :=
  ⟨k.os.trans h.os, k.tape.trans h.tape, k.output.trans h.output, Nat.le_trans h.size k.size, fun j hj hne => (k.block j (Nat.lt_of_lt_of_le hj h.size) hne).trans (h.block j hj hne)⟩

def PWithPost (N : Nat) (w : World) (v : Value) (r : List Fld) (e : Ending) (w' : World) : Prop := ∃ u o', e = .returned u ∧ OwnJ N w' u o' ∧ o'.map Fx.fld = r ∧ w.grownBy w' v.ownBlock

/-- A row of fields that was turned: what it holds now, and its texts. -/
theorem ownJ_turn {N : Nat} {w w' : World} {v u : Value} {o o' : List Fx} (hv : OwnJ N w v o) (hg : w.grownBy w' v.ownBlock) (hrow : RowX N w' u o') (hap : Apart o') (hm : ∀ y ∈ o', y ∈ o ∨ OwnT N w y.sl y.txt) : OwnJ N w' u o' := by
  refine ⟨⟨hrow, fun y hy => ?_⟩, hap⟩
  rcases hm y hy with h | h
  · exact own_else (hv.1.2 y h) hv.1.1 (by decide) hg
  · exact own_else h hv.1.1 (by decide) hg

theorem ownT_turn {N M : Nat} {w w' : World} {v t : Value} {o : List Fx} {ts : List ByteArray} (hv : OwnJ N w v o) (ht : OwnT M w t ts) (hg : w.grownBy w' v.ownBlock) : OwnT M w' t ts := own_else ht hv.1.1 (by decide) hg

theorem bel_grown {N : Nat} {w w' : World} {v : Value} {o : List Fx} (hv : OwnJ N w v o) (hN : N ≤ w.heap.size) (hg : w.grownBy w' v.ownBlock) : Below N w w' :=
  (Below.refl _ _).grown hg hN (fun k hk => (World.ownsRow.lt hv.1.1 k hk).1)

theorem map_ins {o : List Fx} {c : Nat} {x : Fx} : (o.take c ++ x :: o.drop c).map Fx.fld = (o.map Fx.fld).take c ++ x.fld :: (o.map Fx.fld).drop c := by
  rw [List.map_append, List.map_cons, List.map_take, List.map_drop]

theorem map_erase {o : List Fx} {c : Nat} : (o.eraseIdx c).map Fx.fld = (o.map Fx.fld).eraseIdx c := by
  rw [List.eraseIdx_eq_take_drop_succ, List.eraseIdx_eq_take_drop_succ, List.map_append, List.map_take, List.map_drop]

/-- A field is laid in: what is there then. -/
theorem with_laid {N : Nat} {w w' : World} {v u : Value} {o : List Fx} {c : Nat} {n : ByteArray} {p : Option Addr} {cap : Nat} {ts : List ByteArray} (hv : OwnJ N w v o) (ht : OwnT N w (.slice p ts.length cap) ts)
    (hap : ∀ y ∈ o, y.sl.ownBlock = none ∨ y.sl.ownBlock ≠ (Value.slice p ts.length cap).ownBlock) (hrow : RowX N w' u (o.take c ++ ⟨n, p, cap, ts⟩ :: o.drop c)) (hg : w.grownBy w' v.ownBlock) :
    OwnJ N w' u (o.take c ++ ⟨n, p, cap, ts⟩ :: o.drop c) := by
  refine ownJ_turn hv hg hrow (apart_ins (by rw [List.take_append_drop]; exact hv.2) (fun y hy => hap y (by rwa [List.take_append_drop] at hy))) (fun y hy => ?_)
  rw [List.mem_append, List.mem_cons] at hy
  rcases hy with hy | rfl | hy
  · exact Or.inl (List.mem_of_mem_take hy)
  · exact Or.inr ht
  · exact Or.inl (List.mem_of_mem_drop hy)

set_option maxHeartbeats 4000000 in
set_option maxRecDepth 100000 in
theorem pwith_any (N : Nat) (v tv : Value) (n : ByteArray) (ts : List ByteArray) (o : List Fx) (w : World) (hv : OwnJ N w v o) (hr : Rising (o.map Fx.fld)) (hl : o.length ≤ 1000000) (ht : OwnT N w tv ts) (hts : ts.length ≤ 1000000)
    (hap : ∀ y ∈ o, y.sl.ownBlock = none ∨ y.sl.ownBlock ≠ tv.ownBlock) (hN : N ≤ w.heap.size) :
    Calls Tryz.prog 34 #[v, .string n, tv] w fun e w' => PWithPost N w v (setF (o.map Fx.fld) n ts) e w' := by
  obtain ⟨c, F, P⟩ := place_of (o.map Fx.fld) hr n
  have hset := setF_place P ts
  have hcl : c ≤ o.length := by have := P.le; rwa [List.length_map] at this
  have HB := hid (bsx_any v o n c F w hv.1.is P hl)
  obtain ⟨p, cap, rfl⟩ := own_slice ht
  have HNB := hid hN
  have hlz : ∀ {m : Nat}, m ≠ 0 → (0 : Int) < (m : Int) := fun h => by omega
  have hz0 : (0 : Int) ≤ (c : Int) := by omega
  have hw1 : IntKind.i64.wrap ((c : Int) + 1) = (c : Int) + 1 := by rw [IntKind.wrap_i64]; omega
  cases F with
  | false =>
    simp only [Bool.false_eq_true, if_false] at hset
    by_cases h0 : ts = []
    · subst h0
      have hset2 : setF (o.map Fx.fld) n [] = o.map Fx.fld := by rw [hset]; simp
      have HS := hid hset2
      have HV := hid hv
      clear hset hset2 hv hr ht hap P
      go_enter Tryz.func34, Tryz.ntmps34
      go_wp2_with fail
      refine HB.out.mono ?_
      rintro e w1 ⟨rfl, hb1⟩
      have HB1 := hid hb1
      clear hb1
      go_wp2_with fail
      go_ret
      exact ⟨_, o, rfl, HV.out.on HB1.out, HS.out.symm, grownE_below HB1.out _⟩
    · have hlen : ts.length ≠ 0 := fun e => h0 (List.length_eq_zero_iff.1 e)
      have hlenz : (0 : Int) < (ts.length : Int) := hlz hlen
      have hset2 : setF (o.map Fx.fld) n ts = (o.take c ++ ⟨n, p, cap, ts⟩ :: o.drop c).map Fx.fld := by
        rw [hset, map_ins]
        have : ts.isEmpty = false := by cases ts with | nil => exact absurd rfl h0 | cons _ _ => rfl
        rw [this]
        rfl
      have HS := hid hset2
      have HV := hid hv
      have HT := hid ht
      have HAP := hid hap
      clear hset hset2 hv hr ht hap P h0 hlen
      go_enter Tryz.func34, Tryz.ntmps34
      go_wp2_with fail
      refine HB.out.mono ?_
      rintro e w1 ⟨rfl, hb1⟩
      obtain ⟨W, hW⟩ : ∃ W, w1.alloc (.cells #[.string n, .slice p ts.length cap] 35) = W := ⟨_, rfl⟩
      obtain ⟨B, hB⟩ : ∃ B, w1.heap.size = B := ⟨_, rfl⟩
      have hb2 : Below w.heap.size w W := by rw [← hW]; exact hb1.alloc hb1.size _
      have hbx : W.heap[B]? = some (.cells (encX ⟨n, p, cap, ts⟩).toArray 35 (0, 0)) := by rw [← hW, ← hB]; exact heap_alloc_new w1 _
      have hvW := HV.out.on hb2
      have hne : v.ownBlock ≠ some B := fun e => by
        have := (World.ownsRow.lt HV.out.1.1 B e).2
        have := hb1.size
        omega
      have HIN := hid (insX_any N c v o ⟨n, p, cap, ts⟩ B W hvW.1.1 hcl hl hbx hne (Nat.le_trans hN hb2.size))
      have HVW := hid hvW
      have HTW := hid (OwnT.on HT.out hb2)
      have HB2 := hid hb2
      clear hb1 hb2 hbx hvW hne
      go_wp2_with fail
      refine HIN.out.mono ?_
      rintro e w2 ⟨u, rfl, hrow, hg⟩
      have HR := hid hrow
      have HG := hid hg
      clear hrow hg
      go_wp2_with fail
      go_ret
      refine ⟨_, _, rfl, with_laid HVW.out HTW.out HAP.out HR.out HG.out, HS.out.symm, ?_⟩
      exact grownE_two (grownE_below HB2.out _) HG.out
  | true =>
    rw [if_pos rfl] at hset
    obtain ⟨hc, _⟩ := P.here rfl
    rw [List.length_map] at hc
    obtain ⟨et, ed⟩ := erase_take (o.map Fx.fld) c (by rw [List.length_map]; exact hc)
    obtain ⟨g, cp, hvv⟩ : ∃ g cp, v = .slice (some ⟨g, 0, none⟩) o.length cp := by
      rcases hv.1.1.2 with ⟨_, h0⟩ | ⟨g, cp, cur, h1, _⟩
      · omega
      · exact ⟨g, cp, h1⟩
    subst hvv
    obtain ⟨m, hm⟩ : ∃ m, o.length = m := ⟨_, rfl⟩
    have HV : Hid (OwnJ N w (.slice (some ⟨g, 0, none⟩) m cp) o) := by rw [← hm]; exact hv
    have HT := hid ht
    have HAP := hid hap
    have HDEL : Hid (∀ W, Below w.heap.size w W → Calls Tryz.prog 67 #[.slice (some ⟨g, 0, none⟩) m cp, .int .i64 c, .int .i64 ((c : Int) + 1)] W fun e w' => e = .returned (.slice (some ⟨g, 0, none⟩) (m - 1) cp) ∧ RowX N w' (.slice (some ⟨g, 0, none⟩) (m - 1) cp) (o.eraseIdx c) ∧ W.grownBy w' (some g)) :=
      fun W hb => delX_any N g m cp c o W (HV.out.on hb).1.1 (by omega)
    have HJ : Hid (∀ W w', Below w.heap.size w W → RowX N w' (.slice (some ⟨g, 0, none⟩) (m - 1) cp) (o.eraseIdx c) → W.grownBy w' (some g) → OwnJ N w' (.slice (some ⟨g, 0, none⟩) (m - 1) cp) (o.eraseIdx c) ∧ OwnT N w' (.slice p ts.length cap) ts ∧ w.grownBy w' (some g)) := fun W w' hb hrow hg =>
      ⟨ownJ_turn (HV.out.on hb) hg hrow (apart_less hv.2 (List.eraseIdx_sublist _ _)) (fun y hy => Or.inl ((List.eraseIdx_sublist _ _).subset hy)), ownT_turn (HV.out.on hb) (OwnT.on HT.out hb) hg, grownE_two (grownE_below hb _) hg⟩
    rw [hm] at HB hl hc hcl ⊢
    by_cases h0 : ts = []
    · subst h0
      have hset2 : setF (o.map Fx.fld) n [] = (o.eraseIdx c).map Fx.fld := by
        rw [hset, map_erase, List.eraseIdx_eq_take_drop_succ]
        rfl
      have HS := hid hset2
      clear hset hset2 hv hr ht hap P et ed hm
      go_enter Tryz.func34, Tryz.ntmps34
      go_wp2_with fail
      refine HB.out.mono ?_
      rintro e w1 ⟨rfl, hb1⟩
      have HB1 := hid hb1
      clear hb1
      go_wp2_with fail
      refine (HDEL.out _ HB1.out).mono ?_
      rintro e w2 ⟨rfl, hrow, hg⟩
      have HK := hid (HJ.out _ _ HB1.out hrow hg)
      clear hrow hg
      go_wp2_with fail
      go_ret
      exact ⟨_, _, rfl, HK.out.1, HS.out.symm, HK.out.2.2⟩
    · have hlen : ts.length ≠ 0 := fun e => h0 (List.length_eq_zero_iff.1 e)
      have hlenz : (0 : Int) < (ts.length : Int) := hlz hlen
      have hset2 : setF (o.map Fx.fld) n ts = ((o.eraseIdx c).take c ++ ⟨n, p, cap, ts⟩ :: (o.eraseIdx c).drop c).map Fx.fld := by
        rw [hset, map_ins, map_erase, et, ed]
        have : ts.isEmpty = false := by cases ts with | nil => exact absurd rfl h0 | cons _ _ => rfl
        rw [this]
        rfl
      have HS := hid hset2
      have hel : (o.eraseIdx c).length = m - 1 := by rw [List.length_eraseIdx, if_pos (by omega), hm]
      have HEL := hid hel
      clear hset hset2 hv hr ht hap P h0 hlen et ed hm hel
      go_enter Tryz.func34, Tryz.ntmps34
      go_wp2_with fail
      refine HB.out.mono ?_
      rintro e w1 ⟨rfl, hb1⟩
      have HB1 := hid hb1
      clear hb1
      go_wp2_with fail
      refine (HDEL.out _ HB1.out).mono ?_
      rintro e w2 ⟨rfl, hrow, hg⟩
      obtain ⟨hvJ, htJ, hbJ⟩ := HJ.out _ _ HB1.out hrow hg
      clear hrow hg
      obtain ⟨W, hW⟩ : ∃ W, w2.alloc (.cells #[.string n, .slice p ts.length cap] 35) = W := ⟨_, rfl⟩
      obtain ⟨B, hB⟩ : ∃ B, w2.heap.size = B := ⟨_, rfl⟩
      have hb2 : Below w2.heap.size w2 W := by rw [← hW]; exact (Below.refl _ _).alloc (Nat.le_refl _) _
      have hbx : W.heap[B]? = some (.cells (encX ⟨n, p, cap, ts⟩).toArray 35 (0, 0)) := by rw [← hW, ← hB]; exact heap_alloc_new w2 _
      have hvW := hvJ.on hb2
      have hne : (Value.slice (some ⟨g, 0, none⟩) (m - 1) cp).ownBlock ≠ some B := fun e => by
        have := (World.ownsRow.lt hvJ.1.1 B e).2
        omega
      have hNW : N ≤ W.heap.size := Nat.le_trans hN (Nat.le_trans hbJ.size hb2.size)
      have HIN := hid (insX_any N c _ (o.eraseIdx c) ⟨n, p, cap, ts⟩ B W hvW.1.1 (by rw [HEL.out]; omega) (by rw [HEL.out]; omega) hbx hne hNW)
      have HVW := hid hvW
      have HTW := hid (OwnT.on htJ hb2)
      have HBW := hid (show w.grownBy W (some g) from grownE_two hbJ (grownE_below hb2 _))
      have HAP2 : Hid (∀ y ∈ o.eraseIdx c, y.sl.ownBlock = none ∨ y.sl.ownBlock ≠ (Value.slice p ts.length cap).ownBlock) := fun y hy => HAP.out y ((List.eraseIdx_sublist _ _).subset hy)
      clear hvJ htJ hbJ hb2 hbx hvW hne hNW
      go_wp2_with fail
      refine HIN.out.mono ?_
      rintro e w3 ⟨u, rfl, hrow, hg⟩
      have HR := hid hrow
      have HG := hid hg
      clear hrow hg
      go_wp2_with fail
      go_ret
      refine ⟨_, _, rfl, with_laid HVW.out HTW.out HAP2.out HR.out HG.out, HS.out.symm, ?_⟩
      exact grownE_two HBW.out HG.out

end Go.Proofs.YtelcongbnmfegabGreatDoor

/-
  Rows of fields of one's own, written over in place; the reference's copy of a value. (What the texts of stages 3, 5 and 6 share.)
-/
namespace Go.Proofs.YtelcongbnmfegabGreatDoor
open Go.RowKit Go.Lib

theorem own_same {w w' : World} {n0 : Nat} {e : TypeId} {size : Nat} {v : Value} {n : Nat} {xs : List Value} (h : w.ownsRow n0 e size v n xs) (hk : ∀ k, v.ownBlock = some k → w'.heap[k]? = w.heap[k]?) : w'.ownsRow n0 e size v n xs := by
  refine ⟨h.1, ?_⟩
  rcases h.2 with h2 | ⟨g, cap, cur, hv, h3, h4, h5⟩
  · exact Or.inl h2
  · exact Or.inr ⟨g, cap, cur, hv, h3, (hk g (by rw [hv]; rfl)).trans h4, h5⟩

/-- Blocks ahead of A, and from B up to C, are as they were. -/
structure KeptZ (A B C : Nat) (we W : World) : Prop where
  os : W.os = we.os
  tape : W.tape = we.tape
  output : W.output = we.output
  size : C ≤ W.heap.size
  block : ∀ k, k < C → (k < A ∨ B ≤ k) → W.heap[k]? = we.heap[k]?

def ZoneV (B C : Nat) (v : Value) : Prop := ∀ k, v.ownBlock = some k → k < B ∨ C ≤ k

theorem KeptZ.grown {A B C : Nat} {we W W' : World} {ob : Option Nat} (h : KeptZ A B C we W) (hg : W.grownBy W' ob) (hz : ∀ k, ob = some k → A ≤ k ∧ (k < B ∨ C ≤ k)) : KeptZ A B C we W' :=
  ⟨hg.os.trans h.os, hg.tape.trans h.tape, hg.output.trans h.output, Nat.le_trans h.size hg.size, fun k hk hz2 => (hg.block k (Nat.lt_of_lt_of_le hk h.size) fun e => by
    have := hz k e.symm
    omega).trans (h.block k hk hz2)⟩

theorem grown_alloc (w : World) (o : Obj) : w.grownBy (w.alloc o) none := by
  have := (Below.refl w.heap.size w).alloc (Nat.le_refl _) o
  exact ⟨this.os, this.tape, this.output, this.size, fun k hk _ => this.block k hk⟩

theorem KeptZ.below {A B C : Nat} {we W : World} (h : KeptZ A B C we W) (hAC : A ≤ C) (hC : we.heap.size ≤ C) : Below A we W :=
  ⟨h.os, h.tape, h.output, Nat.le_trans hC h.size, fun k hk => h.block k (by omega) (Or.inl hk)⟩

/-- The fields o, written over in place. -/
structure XSt (A B C : Nat) (we : World) (u : Value) (o : List Fx) (W : World) : Prop where
  own : OwnJ A W u o
  zu : ZoneV B C u
  zo : ∀ x ∈ o, ZoneV B C x.sl
  kept : KeptZ A B C we W

theorem cellsX_set (o : List Fx) (i : Nat) (h : i < o.length) (x : Fx) : cellsX (o.set i x) = ((cellsX o).set (i * 2) (.string x.name)).set (i * 2 + 1) x.sl := by
  induction o generalizing i with
  | nil => simp at h
  | cons y o ih =>
    have e : ∀ z l, cellsX (z :: l) = .string z.name :: z.sl :: cellsX l := fun _ _ => rfl
    cases i with
    | zero => rw [List.set_cons_zero, e, e]; rfl
    | succ i =>
      rw [List.set_cons_succ, e, e, ih i (by simpa using h), show (i + 1) * 2 = i * 2 + 1 + 1 by omega]
      rfl

theorem apart_ne {o : List Fx} (h : Apart o) {i j : Nat} (hi : i < o.length) (hj : j < o.length) (hne : i ≠ j) : (o[i]).sl.ownBlock = none ∨ (o[i]).sl.ownBlock ≠ (o[j]).sl.ownBlock := by
  have hp := List.pairwise_iff_getElem.1 h
  rcases Nat.lt_or_gt_of_ne hne with hl | hl
  · exact hp i j hi hj hl
  · rcases hp j i hj hi hl with h1 | h1
    · rcases hb : (o[i]).sl.ownBlock with _ | k
      · exact Or.inl rfl
      · right; rw [h1]; simp
    · exact Or.inr (Ne.symm h1)

theorem apart_set {o : List Fx} (h : Apart o) {i : Nat} (_hi : i < o.length) {x : Fx} (hx : ∀ j, (hj : j < o.length) → j ≠ i → (o[j]).sl.ownBlock = none ∨ (o[j]).sl.ownBlock ≠ x.sl.ownBlock) : Apart (o.set i x) := by
  have hp := List.pairwise_iff_getElem.1 h
  refine List.pairwise_iff_getElem.2 fun a b ha hb hab => ?_
  rw [List.length_set] at ha hb
  rw [List.getElem_set, List.getElem_set]
  by_cases h1 : i = a
  · subst h1
    rw [if_pos rfl, if_neg (by omega)]
    rcases hx b hb (by omega) with h2 | h2
    · rcases hq : x.sl.ownBlock with _ | k
      · exact Or.inl rfl
      · right; rw [h2]; simp
    · exact Or.inr (Ne.symm h2)
  · rw [if_neg h1]
    by_cases h2 : i = b
    · subst h2
      rw [if_pos rfl]
      exact hx a ha (by omega)
    · rw [if_neg h2]
      exact hp a b ha hb hab

/-- The row of fields u has its block. -/
theorem XSt.shape {A B C : Nat} {we W : World} {u : Value} {o : List Fx} (h : XSt A B C we u o W) (hpos : 0 < o.length) : ∃ g c, u = .slice (some ⟨g, 0, none⟩) o.length c := by
  rcases h.own.1.1.2 with ⟨_, h0⟩ | ⟨g, c, cur, hv, _⟩
  · omega
  · exact ⟨g, c, hv⟩

/-- What can be read of the field i, and that it can be written. -/
theorem XSt.cells {A B C : Nat} {we W : World} {g c n : Nat} {o : List Fx} (h : XSt A B C we (.slice (some ⟨g, 0, none⟩) n c) o W) (hn : o.length = n) {i : Nat} (hi : i < o.length) :
    W.cell? ⟨g, i * 2, none⟩ = some (.string (o[i]).name) ∧ W.cell? ⟨g, i * 2 + 1, none⟩ = some (o[i]).sl ∧ W.frozen? ⟨g, i * 2, none⟩ = false ∧ W.frozen? ⟨g, i * 2 + 1, none⟩ = false := by
  subst hn
  have hrow := h.own.1.1
  obtain ⟨h1, h2⟩ := cellsX_get o i hi
  exact ⟨by rw [hrow.cellAt _ (by omega)]; exact h1, by rw [hrow.cellAt _ (by omega)]; exact h2, hrow.frozenAt _, hrow.frozenAt _⟩

theorem sl_lt {A : Nat} {W : World} {x : Fx} (h : OwnT A W x.sl x.txt) : ∀ k, x.sl.ownBlock = some k → A ≤ k := fun k hk => (World.ownsRow.lt h k hk).1

/-- One text is written over. -/
theorem XSt.wipe {A B C : Nat} {we W : World} {u : Value} {o : List Fx} (h : XSt A B C we u o W) {i : Nat} (hi : i < o.length) {j gt : Nat} (hp : (o[i]).p = some ⟨gt, 0, none⟩) (t : ByteArray) :
    XSt A B C we u (o.set i ⟨(o[i]).name, (o[i]).p, (o[i]).cap, (o[i]).txt.set j t⟩) (W.setCell ⟨gt, j, none⟩ (.string t)) := by
  have hti := h.own.1.2 _ (List.getElem_mem hi)
  have hbi : (o[i]).sl.ownBlock = some gt := by unfold Fx.sl; rw [hp]; rfl
  have hg : W.grownBy (W.setCell ⟨gt, j, none⟩ (.string t)) (o[i]).sl.ownBlock := by rw [hbi]; exact grown_set W gt j _
  have hsl : (⟨(o[i]).name, (o[i]).p, (o[i]).cap, (o[i]).txt.set j t⟩ : Fx).sl = (o[i]).sl := by unfold Fx.sl; simp
  have hnew : OwnT A (W.setCell ⟨gt, j, none⟩ (.string t)) (o[i]).sl ((o[i]).txt.set j t) := by
    have e : (o[i]).sl = .slice (some ⟨gt, 0, none⟩) (o[i]).txt.length (o[i]).cap := by unfold Fx.sl; rw [hp]
    have h1 : W.ownsRow A 9 1 (.slice (some ⟨gt, 0, none⟩) (o[i]).txt.length (o[i]).cap) (o[i]).txt.length ((o[i]).txt.map Value.string) := by rw [← e]; exact hti
    have h2 := (h1.stored j (.string t)).1
    unfold OwnT
    rw [e, List.length_set, List.map_set]
    exact h2
  refine ⟨⟨⟨?_, fun x hx => ?_⟩, ?_⟩, h.zu, fun x hx => ?_, h.kept.grown hg fun k hk => ⟨sl_lt hti k hk, h.zo _ (List.getElem_mem hi) k hk⟩⟩
  · rw [List.length_set, cellsX_set _ _ hi, hsl]
    obtain ⟨c0, c1⟩ := cellsX_get o i hi
    have e1 : ((cellsX o).set (i * 2) (.string (o[i]).name)).set (i * 2 + 1) (o[i]).sl = cellsX o := by
      apply List.ext_getElem?
      intro q
      rw [List.getElem?_set, List.getElem?_set]
      simp only [List.length_set]
      have hl := cellsX_len o
      split
      · rename_i hq; subst hq; rw [if_pos (by omega)]; exact c1.symm
      · split
        · rename_i hq; subst hq; rw [if_pos (by omega)]; exact c0.symm
        · rfl
    rw [e1]
    exact own_else h.own.1.1 hti (by decide) hg
  · obtain ⟨q, hq, rfl⟩ := List.mem_iff_getElem.1 hx
    rw [List.length_set] at hq
    rw [List.getElem_set]
    by_cases e : i = q
    · rw [if_pos e, hsl]; exact hnew
    · rw [if_neg e]
      exact World.ownsRow.kept (h.own.1.2 _ (List.getElem_mem hq)) hg (apart_ne h.own.2 hq hi (by omega))
  · refine apart_set h.own.2 hi fun q hq hne => ?_
    rw [hsl]
    exact apart_ne h.own.2 hq hi hne
  · obtain ⟨q, hq, rfl⟩ := List.mem_iff_getElem.1 hx
    rw [List.length_set] at hq
    rw [List.getElem_set]
    by_cases e : i = q
    · rw [if_pos e, hsl]; exact h.zo _ (List.getElem_mem hi)
    · rw [if_neg e]; exact h.zo _ (List.getElem_mem hq)

/-- The name is written over. -/
theorem XSt.rename {A B C : Nat} {we W : World} {g c n : Nat} {o : List Fx} (h : XSt A B C we (.slice (some ⟨g, 0, none⟩) n c) o W) (hn : o.length = n) {i : Nat} (hi : i < o.length) (nm : ByteArray) :
    XSt A B C we (.slice (some ⟨g, 0, none⟩) n c) (o.set i ⟨nm, (o[i]).p, (o[i]).cap, (o[i]).txt⟩) (W.setCell ⟨g, i * 2, none⟩ (.string nm)) := by
  subst hn
  have hrow := h.own.1.1
  have hg : W.grownBy (W.setCell ⟨g, i * 2, none⟩ (.string nm)) (Value.slice (some ⟨g, 0, none⟩) o.length c).ownBlock := grown_set W g _ _
  have hsl : (⟨nm, (o[i]).p, (o[i]).cap, (o[i]).txt⟩ : Fx).sl = (o[i]).sl := rfl
  refine ⟨⟨⟨?_, fun x hx => ?_⟩, ?_⟩, h.zu, fun x hx => ?_, h.kept.grown hg fun k hk => ⟨(World.ownsRow.lt hrow k hk).1, h.zu k hk⟩⟩
  · have hst := (hrow.stored (i * 2) (.string nm)).1
    rw [List.length_set, cellsX_set _ _ hi, hsl]
    have e1 : ((cellsX o).set (i * 2) (.string nm)).set (i * 2 + 1) (o[i]).sl = (cellsX o).set (i * 2) (.string nm) := by
      apply List.ext_getElem?
      intro q
      rw [List.getElem?_set]
      split
      · rename_i hq
        subst hq
        rw [if_pos (by rw [List.length_set, cellsX_len]; omega), List.getElem?_set_ne (by omega)]
        exact ((cellsX_get o i hi).2).symm
      · rfl
    rw [e1]
    exact hst
  · obtain ⟨q, hq, rfl⟩ := List.mem_iff_getElem.1 hx
    rw [List.length_set] at hq
    rw [List.getElem_set]
    by_cases e : i = q
    · rw [if_pos e]; exact own_else (show W.ownsRow A 9 1 (o[i]).sl (o[i]).txt.length ((o[i]).txt.map Value.string) from h.own.1.2 _ (List.getElem_mem hi)) hrow (by decide) hg
    · rw [if_neg e]; exact own_else (h.own.1.2 _ (List.getElem_mem hq)) hrow (by decide) hg
  · refine apart_set h.own.2 hi fun q hq hne => ?_
    rw [hsl]
    exact apart_ne h.own.2 hq hi hne
  · obtain ⟨q, hq, rfl⟩ := List.mem_iff_getElem.1 hx
    rw [List.length_set] at hq
    rw [List.getElem_set]
    by_cases e : i = q
    · rw [if_pos e, hsl]; exact h.zo _ (List.getElem_mem hi)
    · rw [if_neg e]; exact h.zo _ (List.getElem_mem hq)

/-- A block more, that nobody owns. -/
theorem XSt.alloc {A B C : Nat} {we W : World} {u : Value} {o : List Fx} (h : XSt A B C we u o W) (ob : Obj) : XSt A B C we u o (W.alloc ob) :=
  ⟨h.own.on ((Below.refl _ _).alloc (Nat.le_refl _) _), h.zu, h.zo, h.kept.grown (grown_alloc W ob) fun k hk => by cases hk⟩

/-- The texts have grown by one, and are stored back. -/
theorem XSt.grow {A B C : Nat} {we W W4 : World} {g c n : Nat} {o : List Fx} (h : XSt A B C we (.slice (some ⟨g, 0, none⟩) n c) o W) (hn : o.length = n) {i : Nat} (hi : i < o.length) {p : Option Addr} {m cap : Nat} {ts : List ByteArray}
    (hm : ts.length = m) (hown : W4.ownsRow A 9 1 (.slice p m cap) m (ts.map Value.string)) (hg : W.grownBy W4 (o[i]).sl.ownBlock) (hat : (Value.slice p m cap).ownBlock = (o[i]).sl.ownBlock ∨ (Value.slice p m cap).ownBlock = some W.heap.size) :
    W4.cell? ⟨g, i * 2 + 1, none⟩ = some (o[i]).sl ∧ W4.frozen? ⟨g, i * 2 + 1, none⟩ = false ∧
      XSt A B C we (.slice (some ⟨g, 0, none⟩) n c) (o.set i ⟨(o[i]).name, p, cap, ts⟩) (W4.setCell ⟨g, i * 2 + 1, none⟩ (.slice p m cap)) := by
  subst hn
  subst hm
  have hrow := h.own.1.1
  have hti := h.own.1.2 _ (List.getElem_mem hi)
  have hrow4 : W4.ownsRow A 35 2 (.slice (some ⟨g, 0, none⟩) o.length c) o.length (cellsX o) := own_else hrow hti (by decide) hg
  have hset : W4.grownBy (W4.setCell ⟨g, i * 2 + 1, none⟩ (.slice p ts.length cap)) (Value.slice (some ⟨g, 0, none⟩) o.length c).ownBlock := grown_set W4 g _ _
  have hk4 : KeptZ A B C we W4 := h.kept.grown hg fun k hk => ⟨sl_lt hti k hk, h.zo _ (List.getElem_mem hi) k hk⟩
  have hzn : ZoneV B C (.slice p ts.length cap) := fun k hk => by
    rcases hat with e | e
    · exact h.zo _ (List.getElem_mem hi) k (by rw [← e]; exact hk)
    · have := h.kept.size
      rw [e] at hk
      have : W.heap.size = k := by simpa using hk
      omega
  refine ⟨by rw [hrow4.cellAt _ (by omega)]; exact (cellsX_get o i hi).2, hrow4.frozenAt _, ⟨⟨⟨?_, fun x hx => ?_⟩, ?_⟩, h.zu, fun x hx => ?_, hk4.grown hset fun k hk => ⟨(World.ownsRow.lt hrow k hk).1, h.zu k hk⟩⟩⟩
  · have hst := (hrow4.stored (i * 2 + 1) (.slice p ts.length cap)).1
    rw [List.length_set, cellsX_set _ _ hi]
    have e1 : (cellsX o).set (i * 2) (.string (o[i]).name) = cellsX o := by
      apply List.ext_getElem?
      intro q
      rw [List.getElem?_set]
      split
      · rename_i hq
        subst hq
        rw [if_pos (by rw [cellsX_len]; omega)]
        exact ((cellsX_get o i hi).1).symm
      · rfl
    rw [e1]
    exact hst
  · obtain ⟨q, hq, rfl⟩ := List.mem_iff_getElem.1 hx
    rw [List.length_set] at hq
    rw [List.getElem_set]
    by_cases e : i = q
    · rw [if_pos e]; exact own_else (show W4.ownsRow A 9 1 (.slice p ts.length cap) ts.length (ts.map Value.string) from hown) hrow4 (by decide) hset
    · rw [if_neg e]
      have hy4 : W4.ownsRow A 9 1 (o[q]).sl (o[q]).txt.length ((o[q]).txt.map Value.string) := World.ownsRow.kept (h.own.1.2 _ (List.getElem_mem hq)) hg (apart_ne h.own.2 hq hi (by omega))
      exact own_else hy4 hrow4 (by decide) hset
  · refine apart_set h.own.2 hi fun q hq hne => ?_
    show (o[q]).sl.ownBlock = none ∨ (o[q]).sl.ownBlock ≠ (Value.slice p ts.length cap).ownBlock
    rcases hat with e | e
    · rw [e]; exact apart_ne h.own.2 hq hi hne
    · rcases hb : (o[q]).sl.ownBlock with _ | k
      · exact Or.inl rfl
      · right
        have := (World.ownsRow.lt (h.own.1.2 _ (List.getElem_mem hq)) k hb).2
        rw [e]
        intro e2
        simp at e2; omega
  · obtain ⟨q, hq, rfl⟩ := List.mem_iff_getElem.1 hx
    rw [List.length_set] at hq
    rw [List.getElem_set]
    by_cases e : i = q
    · rw [if_pos e]; exact hzn
    · rw [if_neg e]; exact h.zo _ (List.getElem_mem hq)


theorem XSt.on {A B C : Nat} {we W W' : World} {u : Value} {o : List Fx} (h : XSt A B C we u o W) (hb : Below W.heap.size W W') : XSt A B C we u o W' :=
  ⟨h.own.on hb, h.zu, h.zo, ⟨hb.os.trans h.kept.os, hb.tape.trans h.kept.tape, hb.output.trans h.kept.output, Nat.le_trans h.kept.size hb.size, fun k hk hz => (hb.block k (by have := h.kept.size; omega)).trans (h.kept.block k hk hz)⟩⟩

theorem XSt.below {N : Nat} {we W : World} {u : Value} {o : List Fx} (h : XSt N N N we u o W) (hN : N = we.heap.size) : Below N we W := h.kept.below (Nat.le_refl _) (by omega)

theorem XSt.put {A B C : Nat} {we W : World} {g c n : Nat} {o : List Fx} (h : XSt A B C we (.slice (some ⟨g, 0, none⟩) n c) o W) (hn : o.length = n) {i : Nat} (hi : i < o.length) (x : Fx) (hx : OwnT A W x.sl x.txt) (hz : ZoneV B C x.sl)
    (hf : ∀ j, (hj : j < o.length) → j ≠ i → (o[j]).sl.ownBlock = none ∨ (o[j]).sl.ownBlock ≠ x.sl.ownBlock) :
    XSt A B C we (.slice (some ⟨g, 0, none⟩) n c) (o.set i x) ((W.setCell ⟨g, i * 2, none⟩ (.string x.name)).setCell ⟨g, i * 2 + 1, none⟩ x.sl) := by
  subst hn
  have hrow := h.own.1.1
  have hg : W.grownBy ((W.setCell ⟨g, i * 2, none⟩ (.string x.name)).setCell ⟨g, i * 2 + 1, none⟩ x.sl) (Value.slice (some ⟨g, 0, none⟩) o.length c).ownBlock := grown_trans (grown_set W g _ _) (grown_set _ g _ _)
  refine ⟨⟨⟨?_, fun y hy => ?_⟩, ?_⟩, h.zu, fun y hy => ?_, h.kept.grown hg fun k hk => ⟨(World.ownsRow.lt hrow k hk).1, h.zu k hk⟩⟩
  · have h1 := (hrow.stored (i * 2) (.string x.name)).1
    have h2 := (h1.stored (i * 2 + 1) x.sl).1
    rw [List.length_set, cellsX_set _ _ hi]
    exact h2
  · obtain ⟨q, hq, rfl⟩ := List.mem_iff_getElem.1 hy
    rw [List.length_set] at hq
    rw [List.getElem_set]
    by_cases e : i = q
    · rw [if_pos e]; exact own_else (show W.ownsRow A 9 1 x.sl x.txt.length (x.txt.map Value.string) from hx) hrow (by decide) hg
    · rw [if_neg e]; exact own_else (h.own.1.2 _ (List.getElem_mem hq)) hrow (by decide) hg
  · exact apart_set h.own.2 hi hf
  · obtain ⟨q, hq, rfl⟩ := List.mem_iff_getElem.1 hy
    rw [List.length_set] at hq
    rw [List.getElem_set]
    by_cases e : i = q
    · rw [if_pos e]; exact hz
    · rw [if_neg e]; exact h.zo _ (List.getElem_mem hq)

/-- What a zero field is. -/
def zeroX : Fx := ⟨⟨#[]⟩, none, 0, []⟩


def encSt (x : ByteArray) : List Value := [.string x]

def KT : Kind ByteArray := ⟨9, 1, encSt, fun _ => rfl, by decide, fun x u hu => by simp [encSt] at hu; subst hu; rfl⟩

theorem own_noneX (N : Nat) (w : World) : OwnJ N w (.slice none 0 0) [] := ⟨⟨World.ownsRow_nil _ _ _ _, fun x hx => by simp at hx⟩, List.Pairwise.nil⟩

/-- Sizes that allow a copy. -/
def CopyX (d : List Fx) : Prop := d.length * 40 ≤ 140737488355328 ∧ ∀ x ∈ d, x.txt.length * 16 ≤ 140737488355328

theorem own_weakJ {N M : Nat} {w : World} {u : Value} {o : List Fx} (h : OwnJ N w u o) (hm : M ≤ N) : OwnJ M w u o := ⟨⟨own_weak h.1.1 hm, fun x hx => own_weak (h.1.2 x hx) hm⟩, h.2⟩


end Go.Proofs.YtelcongbnmfegabGreatDoor

/-
  The contracts of the reference's kind and with.
-/
namespace Go.Proofs.YtelcongbnmfegabGreatDoor
open Go.RowKit

theorem kindN_58 : kindN 58 = 1 := rfl

theorem withG_len (n : ByteArray) (ts : List ByteArray) (v : List Fld) : (withG n ts v).1.length + (if (withG n ts v).2 then 0 else 1) ≤ v.length + 1 := by
  induction v using snocInd with
  | h0 => unfold withG; cases ts <;> simp
  | h1 v f ih =>
    rw [withG_snoc]
    unfold withS
    generalize withG n ts v = S at ih ⊢
    obtain ⟨s, b⟩ := S
    simp only at ih ⊢
    cases b <;> cases ltB f.1 n <;> by_cases h : f.1 = n <;> simp [h] at ih ⊢ <;> omega

/-- The reference's with, on its way: what it has written. -/
def WithSt (Q : Fx → Prop) (w : World) (R : List Fld) (vr : Value) (wr : World) : Prop :=
  ∃ o : List Fx, RowX w.heap.size wr vr o ∧ (∀ x ∈ o, x.at w ∧ Q x) ∧ o.map Fx.fld = R ∧ Below w.heap.size w wr

theorem with_put {Q : Fx → Prop} {w wr w4 : World} {vr v4 : Value} {o : List Fx} {x : Fx} {R R2 : List Fld} {n : Nat} {xs : List Value} {ob : Obj} (hx : x.at w ∧ Q x) (ho : ∀ y ∈ o, y.at w ∧ Q y) (hm : o.map Fx.fld = R) (hb : Below w.heap.size w wr) (hr : RowX w.heap.size wr vr o)
    (hown : w4.ownsRow w.heap.size 35 2 v4 n xs) (hn : n = o.length + 1) (hxs : xs = cellsX o ++ cellsX [x]) (hg : (wr.alloc ob).grownBy w4 vr.ownBlock) (hR : R2 = R ++ [x.fld]) : WithSt Q w R2 v4 w4 := by
  have hsz := hb.size
  refine ⟨o ++ [x], ?_, fun y hy => ?_, by rw [List.map_append, hm, hR]; rfl, (hb.alloc hsz _).grown hg (by simp; omega) (fun k hk => (World.ownsRow.lt hr k hk).1)⟩
  · subst hn hxs
    unfold RowX
    rw [cellsX_append, List.length_append]
    exact hown
  · rcases List.mem_append.1 hy with h | h
    · exact ho y h
    · rw [List.mem_singleton.1 h]; exact hx

/-- What the reference's with answers. -/
def WithPost (Q : Fx → Prop) (w : World) (R : List Fld) (e : Ending) (w' : World) : Prop := ∃ u o, e = .returned u ∧ (RowX w.heap.size w' u o ∧ ∀ x ∈ o, x.at w' ∧ Q x) ∧ o.map Fx.fld = R ∧ Below w.heap.size w w'

end Go.Proofs.YtelcongbnmfegabGreatDoor

/-
  The contract of the reference's Apply.
-/
namespace Go.Proofs.YtelcongbnmfegabGreatDoor
open Go.RowKit

/-- Two rows of texts of the call's own, apart. -/
def TwoT (M : Nat) (W : World) (a b : Value) (ta tb : List ByteArray) : Prop := OwnT M W a ta ∧ OwnT M W b tb ∧ ∀ k, a.ownBlock = some k → b.ownBlock ≠ some k

theorem TwoT.turn {M : Nat} {W : World} {a b : Value} {ta tb : List ByteArray} (h : TwoT M W a b ta tb) : TwoT M W b a tb ta := ⟨h.2.1, h.1, fun k hk e => h.2.2 k e hk⟩

theorem TwoT.none (M : Nat) (W : World) : TwoT M W (.slice none 0 0) (.slice none 0 0) [] [] := ⟨World.ownsRow_nil _ _ _ _, World.ownsRow_nil _ _ _ _, fun k hk => by cases hk⟩

theorem TwoT.put {M : Nat} {W w4 : World} {a b v4 : Value} {ta tb : List ByteArray} {t : ByteArray} {ob : Obj} {n : Nat} {xs : List Value} (h : TwoT M W a b ta tb)
    (hown : w4.ownsRow M 9 1 v4 n xs) (hn : n = ta.length + 1) (hxs : xs = ta.map Value.string ++ [.string t]) (hg : (W.alloc ob).grownBy w4 a.ownBlock) (hat : v4.ownBlock = a.ownBlock ∨ v4.ownBlock = some (W.alloc ob).heap.size) : TwoT M w4 v4 b (ta ++ [t]) tb := by
  subst hn hxs
  have hb2 := World.ownsRow.alloc h.2.1 ob
  refine ⟨?_, own_same hb2 fun k hk => ?_, fun k hk e => ?_⟩
  · show w4.ownsRow _ _ _ _ _ _
    rw [List.length_append, List.map_append]
    exact hown
  · have hlt := (World.ownsRow.lt hb2 k hk).2
    exact hg.block k hlt fun e => h.2.2 k e.symm hk
  · rcases hat with hat | hat
    · exact h.2.2 k (hat ▸ hk) e
    · have hlt := (World.ownsRow.lt hb2 k e).2
      rw [hat] at hk
      injection hk with hk
      omega

theorem TwoT.on {M : Nat} {W W' : World} {a b : Value} {ta tb : List ByteArray} (h : TwoT M W a b ta tb) (hb : Below W.heap.size W W') : TwoT M W' a b ta tb := ⟨OwnT.on h.1 hb, OwnT.on h.2.1 hb, h.2.2⟩

theorem do_drop (r : List Fld) (n t : ByteArray) : doE r (3, n, t) = if (restT (textsOf r n) t).length < (textsOf r n).length then (0, setF r n (restT (textsOf r n) t)) else (6, []) := by unfold doE; simp
theorem do_test (r : List Fld) (n t : ByteArray) : doE r (5, n, t) = if (restT (textsOf r n) t).length < (textsOf r n).length then (0, r) else (13, []) := by unfold doE; simp

theorem okR_fit {k : Nat} {o : List Fx} (h : OkR k (o.map Fx.fld)) (hk : k ≤ 1000) : FitX o := by
  refine ⟨?_, fun x hx => ?_⟩
  · have := h.len
    rw [List.length_map] at this
    unfold maxLen; omega
  · obtain ⟨h1, h2, h3⟩ := h.each x.fld (List.mem_map.2 ⟨x, hx, rfl⟩)
    have h4 : x.fld.1.size ≤ 32 := by simpa using fieldB_len h1
    exact ⟨by unfold maxLen; omega, by unfold maxLen; omega, fun t ht => by have := h3 t ht; unfold maxLen; omega⟩

theorem may_copyE {o : List Fx} (h : mayB (o.map Fx.fld) = true) : CopyX o := by
  have h1 := okR_may h
  refine ⟨?_, fun x hx => ?_⟩
  · have := h1.len
    rw [List.length_map] at this
    omega
  · obtain ⟨_, h2, _⟩ := h1.each x.fld (List.mem_map.2 ⟨x, hx, rfl⟩)
    have h3 : x.txt.length ≤ 8 := h2
    omega

theorem may_fitE {o : List Fx} (h : mayB (o.map Fx.fld) = true) : FitX o := okR_fit (okR_may h) (by omega)

/-- A field's texts, and a value's row, lie at N or behind it. -/
def Far (N : Nat) (x : Fx) : Prop := ∀ b off, x.p = some ⟨b, off, none⟩ → N ≤ b
def FarV (N : Nat) (v : Value) (o : List Fx) : Prop := (∀ b off n c, v = .slice (some ⟨b, off, none⟩) n c → N ≤ b) ∧ ∀ x ∈ o, Far N x

theorem far_own {N M : Nat} {W : World} {p : Option Addr} {n c m : Nat} {e : TypeId} {k : Nat} {xs : List Value} (h : W.ownsRow N e k (.slice p n c) m xs) (hM : M ≤ N) : ∀ b off, p = some ⟨b, off, none⟩ → M ≤ b := fun b off hp => by
  subst hp
  rcases h.2 with ⟨hv, _⟩ | ⟨g, cap, cur, hv, hg, _⟩
  · cases hv
  · cases hv
    exact Nat.le_trans hM hg

theorem farV_row {N M : Nat} {W : World} {v : Value} {o : List Fx} (h : RowX N W v o) (hM : M ≤ N) (ho : ∀ x ∈ o, Far M x) : FarV M v o := ⟨fun b off n c hv => by
  subst hv
  exact far_own h hM b off rfl, ho⟩

theorem farV_own {N M : Nat} {W : World} {v : Value} {o : List Fx} (h : OwnJ N W v o) (hM : M ≤ N) : FarV M v o := farV_row h.1.1 hM fun x hx => far_own (h.1.2 x hx) hM

/-- The reference's Apply, on its way: i edits are done. -/
def ASt (w : World) (V : List Fld) (l : List Ed) (i : Nat) (vr : Value) (wr : World) : Prop :=
  ∃ o : List Fx, IsXs wr vr o ∧ FarV w.heap.size vr o ∧ OkR i (o.map Fx.fld) ∧ runE V l = runE (o.map Fx.fld) (l.drop i) ∧ Below w.heap.size w wr

theorem ast_go {w w5 : World} {V R R2 : List Fld} {l : List Ed} {i : Nat} {x : Ed} {u : Value} {o2 : List Fx} (hd : l.drop i = x :: l.drop (i + 1)) (hn : namedE x = true) (hs : shortE x = true) (hok : OkR i R)
    (hrun : runE V l = runE R (l.drop i)) (he : doE R x = (0, R2)) (hi2 : IsXs w5 u o2) (hfv : FarV w.heap.size u o2) (hm : o2.map Fx.fld = R2) (hb : Below w.heap.size w w5) : ASt w V l (i + 1) u w5 := by
  have h0 : (doE R x).1 = 0 := by rw [he]
  refine ⟨o2, hi2, hfv, ?_, ?_, hb⟩
  · have := okR_do hok hn hs h0
    rw [he] at this
    rw [hm]
    exact this
  · rw [hrun, hd, runE, if_pos h0, he, hm]

theorem run_stop {V R : List Fld} {l : List Ed} {i : Nat} {x : Ed} {c : Int} (hd : l.drop i = x :: l.drop (i + 1)) (hrun : runE V l = runE R (l.drop i)) (he : doE R x = (c, [])) (hc : c ≠ 0) : (runE V l).1 = c := by
  rw [hrun, hd, runE, if_neg (by rw [he]; exact hc), he]

theorem codeA_run {V : List Fld} {l : List Ed} (h1 : mayB V = true) (h2 : mayE l = 0) (h3 : (runE V l).1 ≠ 0) : codeA V l = (runE V l).1 := by
  unfold codeA
  rw [if_neg (by rw [h1]; decide), if_neg (by rw [h2]; decide), if_pos h3]

theorem codeA_field {V : List Fld} {l : List Ed} (h : mayB V = false) : codeA V l = 3 := by unfold codeA; rw [if_pos h]
theorem codeA_may {V : List Fld} {l : List Ed} (h : mayB V = true) (h2 : mayE l ≠ 0) : codeA V l = mayE l := by unfold codeA; rw [if_neg (by rw [h]; decide), if_pos h2]
theorem codeA_long {V : List Fld} {l : List Ed} (h1 : mayB V = true) (h2 : mayE l = 0) (h3 : (runE V l).1 = 0) (h4 : mayB (runE V l).2 = false) : codeA V l = 5 := by
  unfold codeA
  rw [if_neg (by rw [h1]; decide), if_neg (by rw [h2]; decide), if_neg (by rw [h3]; decide), if_pos h4]

theorem ansA_none {V : List Fld} {l : List Ed} (h : codeA V l ≠ 0) : ansA V l = [] := by unfold ansA; rw [if_neg h]

/-- What Apply answers. -/
def ApPost (w : World) (V : List Fld) (l : List Ed) (e : Ending) (w' : World) : Prop :=
  ∃ u o, e = .returned (.tuple #[u, .int .i64 (codeA V l)]) ∧ IsXs w' u o ∧ o.map Fx.fld = ansA V l ∧ Below w.heap.size w w'

/-- What the reference's Apply answers, and where that lies. -/
def ApFar (w : World) (V : List Fld) (l : List Ed) (e : Ending) (w' : World) : Prop :=
  ∃ u o, e = .returned (.tuple #[u, .int .i64 (codeA V l)]) ∧ (IsXs w' u o ∧ FarV w.heap.size u o) ∧ o.map Fx.fld = ansA V l ∧ Below w.heap.size w w'

theorem ApFar.plain {w : World} {V : List Fld} {l : List Ed} {e : Ending} {w' : World} (h : ApFar w V l e w') : ApPost w V l e w' := by
  obtain ⟨u, o, h1, h2, h3⟩ := h
  exact ⟨u, o, h1, h2.1, h3⟩

theorem txt_oneAt (w : World) (t : ByteArray) : TxtAt (w.alloc (.cells #[.string t] 9)) (some ⟨w.heap.size, 0, none⟩) [t] := Or.inr ⟨w.heap.size, 0, rfl, fun i hi => by
  obtain rfl : i = 0 := by simpa using hi
  rw [cell_of_row _ _ _ _ _ _ (heap_alloc_new w _)]
  rfl⟩

theorem isXs_none (w : World) : IsXs w (.slice none 0 0) [] := ⟨none, 0, rfl, Or.inl rfl, fun x hx => by cases hx⟩

theorem ap_no {w w' : World} {V : List Fld} {l : List Ed} {c : Int} {e : Ending} (hc : codeA V l = c) (h0 : c ≠ 0) (he : e = .returned (.tuple #[.slice none 0 0, .int .i64 c])) (hb : Below w.heap.size w w') : ApFar w V l e w' :=
  ⟨_, [], by rw [he, hc], ⟨isXs_none _, fun b off n c hv => (by cases hv), fun x hx => (by cases hx)⟩, by rw [ansA_none (by rw [hc]; exact h0)]; rfl, hb⟩

end Go.Proofs.YtelcongbnmfegabGreatDoor

/-
  The contracts of what an edit does to a value: one closure a kind.
-/
namespace Go.Proofs.YtelcongbnmfegabGreatDoor
open Go.RowKit Go.Lib

/-- What a closure answers: the edit's error, and what comes out, in memory of the call's own. -/
def DeedPost (N : Nat) (w : World) (R : List Fld) (x : Ed) (e : Ending) (w' : World) : Prop :=
  ∃ u o', e = .returned (.tuple #[u, .int .i64 (doE R x).1]) ∧ OwnJ N w' u o' ∧ o'.map Fx.fld = (doE R x).2 ∧ Below N w w'

theorem deed_of {N : Nat} {w w' : World} {R R2 : List Fld} {x : Ed} {c : Int} {u : Value} {o' : List Fx} {e : Ending} (hd : doE R x = (c, R2)) (he : e = .returned (.tuple #[u, .int .i64 c])) (h1 : OwnJ N w' u o') (h2 : o'.map Fx.fld = R2) (h3 : Below N w w') : DeedPost N w R x e w' :=
  ⟨u, o', by rw [he, hd], h1, by rw [h2, hd], h3⟩

theorem ownJ_none (N : Nat) (w : World) : OwnJ N w (.slice none 0 0) [] := ⟨⟨World.ownsRow_nil _ _ _ _, fun x hx => by cases hx⟩, List.Pairwise.nil⟩

/-- A row that was made behind the value lies apart from it. -/
theorem apart_new {N : Nat} {w : World} {v t : Value} {o : List Fx} (hv : OwnJ N w v o) (ht : ∀ k, t.ownBlock = some k → w.heap.size ≤ k) : ∀ y ∈ o, y.sl.ownBlock = none ∨ y.sl.ownBlock ≠ t.ownBlock := fun y hy => by
  cases hb : y.sl.ownBlock with
  | none => exact Or.inl rfl
  | some k =>
    right
    intro e
    have h1 := (World.ownsRow.lt (hv.1.2 y hy) k hb).2
    have h2 := ht k e.symm
    omega

theorem box_row {N : Nat} {w : World} {v : Value} {o : List Fx} {g : Nat} {x : Ed} (hv : OwnJ N w v o) (hb : BoxE w g x) : some g ≠ v.ownBlock := fun e => by
  obtain ⟨cs, h⟩ := own_type hv.1.1 e.symm
  unfold BoxE at hb
  rw [hb] at h
  injection h with h
  injection h with _ h
  exact absurd h (by decide)

theorem BoxE.grown {N : Nat} {w w' : World} {v : Value} {o : List Fx} {g : Nat} {x : Ed} (hb : BoxE w g x) (hv : OwnJ N w v o) (hg : w.grownBy w' v.ownBlock) : BoxE w' g x := (hg.block g hb.lt (box_row hv hb)).trans hb

theorem okR_len {k : Nat} {o : List Fx} (h : OkR k (o.map Fx.fld)) : o.length ≤ 16 + k := by have := h.len; rwa [List.length_map] at this

theorem okR_16 {k : Nat} {o : List Fx} (h : OkR k (o.map Fx.fld)) (hk : k ≤ 1000) : ∀ x ∈ o, x.txt.length * 16 ≤ 140737488355328 := fun x hx => by
  have := (h.each x.fld (List.mem_map.2 ⟨x, hx, rfl⟩)).2.1
  have h2 : x.txt.length ≤ 8 + k := this
  omega

theorem own_lit1 {N : Nat} (w : World) (t : ByteArray) (hN : N ≤ w.heap.size) : OwnT N (w.alloc (.cells #[.string t] 9)) (.slice (some ⟨w.heap.size, 0, none⟩) 1 1) [t] :=
  World.ownsRow_lit w #[.string t] 1 hN (by decide) rfl

set_option maxHeartbeats 2000000 in
set_option maxRecDepth 100000 in
theorem deed1_any (N g k : Nat) (v : Value) (o : List Fx) (n t : ByteArray) (w : World) (hv : OwnJ N w v o) (hok : OkR k (o.map Fx.fld)) (hk : k ≤ 1000) (hb : BoxE w g (1, n, t)) (hN : N ≤ w.heap.size) :
    Calls Tryz.prog 33 #[v, .pointer (some ⟨g, 0, none⟩)] w fun e w' => DeedPost N w (o.map Fx.fld) (1, n, t) e w' := by
  obtain ⟨c0, c1, c2⟩ := hb.cells
  simp only at c0 c1 c2
  obtain ⟨W, hW⟩ : ∃ W, w.alloc (.cells #[.string t] 9) = W := ⟨_, rfl⟩
  have hbW : Below w.heap.size w W := by rw [← hW]; exact (Below.refl _ _).alloc (Nat.le_refl _) _
  have hvW := hv.on hbW
  have HW := hid (pwith_any N v (.slice (some ⟨w.heap.size, 0, none⟩) 1 1) n [t] o W hvW hok.rise (by have := okR_len hok; omega) (by rw [← hW]; exact own_lit1 w t hN) (by simp) (apart_new hv (fun k e => by cases e; exact Nat.le_refl _)) (Nat.le_trans hN hbW.size))
  have HVW := hid hvW
  have HBW := hid hbW
  have HD := hid (do_set (o.map Fx.fld) n t)
  have HN := hid hN
  clear hv hok hb hbW hvW hN
  go_enter Tryz.func33, Tryz.ntmps33
  go_wp2_with fail
  refine HW.out.mono ?_
  rintro e w1 ⟨u, o', rfl, h1, h2, h3⟩
  have H1 := hid h1
  have H2 := hid h2
  have H3 := hid h3
  clear h1 h2 h3
  go_wp2_with fail
  go_ret2
  exact deed_of HD.out rfl H1.out H2.out ((HBW.out.mono HN.out).trans (bel_grown HVW.out (Nat.le_trans HN.out HBW.out.size) H3.out))

set_option maxHeartbeats 2000000 in
set_option maxRecDepth 100000 in
theorem deed4_any (N g k : Nat) (v : Value) (o : List Fx) (n t : ByteArray) (w : World) (hv : OwnJ N w v o) (hok : OkR k (o.map Fx.fld)) (hk : k ≤ 1000) (hb : BoxE w g (4, n, t)) (hN : N ≤ w.heap.size) :
    Calls Tryz.prog 40 #[v, .pointer (some ⟨g, 0, none⟩)] w fun e w' => DeedPost N w (o.map Fx.fld) (4, n, t) e w' := by
  obtain ⟨c0, c1, c2⟩ := hb.cells
  simp only at c0 c1 c2
  have HW := hid (pwith_any N v (.slice none 0 0) n [] o w hv hok.rise (by have := okR_len hok; omega) (World.ownsRow_nil _ _ _ _) (by simp) (apart_new hv (fun k e => by cases e)) hN)
  have HV := hid hv
  have HD := hid (do_wipe (o.map Fx.fld) n t)
  have HN := hid hN
  clear hv hok hb hN
  go_enter Tryz.func40, Tryz.ntmps40
  go_wp2_with fail
  refine HW.out.mono ?_
  rintro e w1 ⟨u, o', rfl, h1, h2, h3⟩
  have H1 := hid h1
  have H2 := hid h2
  have H3 := hid h3
  clear h1 h2 h3
  go_wp2_with fail
  go_ret2
  exact deed_of HD.out rfl H1.out H2.out (bel_grown HV.out HN.out H3.out)

end Go.Proofs.YtelcongbnmfegabGreatDoor

/-
  The contracts of slices.Contains and slices.DeleteFunc of texts, and of the closures that drop a text, and test for one.
-/
namespace Go.Proofs.YtelcongbnmfegabGreatDoor
open Go.RowKit Go.Lib Go.Sort

theorem hasT_any (p : Option Addr) (c : Nat) (ts : List ByteArray) (r : ByteArray) (w : World) (h : TxtAt w p ts) (hl : ts.length ≤ maxLen) :
    Calls Tryz.prog 37 #[.slice p ts.length c, .string r] w fun e w' => e = .returned (.bool (ts.any fun t => decide (t = r))) ∧ w' = w := by
  rcases h with rfl | ⟨b, off, rfl, hc⟩
  · exact Any.slices_Contains_string_empty Tryz.laysContains p c r w
  · unfold maxLen at hl
    have := Any.slices_Contains_string Tryz.laysContains b off ts.length c ts r w (Nat.le_refl _) (by omega) (fun j hj => by
      rw [hc j hj, List.getD_eq_getElem?_getD, List.getElem?_eq_getElem hj]
      rfl)
    change Calls Tryz.prog 37 _ _ _ at this
    refine this.mono ?_
    rintro e w' ⟨rfl, rfl⟩
    refine ⟨ret_bool ?_, rfl⟩
    rw [List.take_length, Bool.eq_iff_iff, Lib.containsS_iff, List.any_eq_true]
    constructor
    · intro h; exact ⟨r, h, by simp⟩
    · rintro ⟨t, ht, e⟩; rw [← of_decide_eq_true e]; exact ht

theorem rest_lt (ts : List ByteArray) (t : ByteArray) : ((restT ts t).length < ts.length) ↔ (ts.any fun u => decide (u = t)) = true := by
  unfold restT
  rw [List.length_filter_lt_length_iff_exists, List.any_eq_true]
  constructor
  · rintro ⟨x, hx, h⟩
    exact ⟨x, hx, by simpa using h⟩
  · rintro ⟨x, hx, h⟩
    exact ⟨x, hx, by simpa using h⟩

set_option maxHeartbeats 1000000 in
theorem gone_gives (g : Nat) (t x : ByteArray) (W : World) (hc : W.cell? ⟨g, 2, none⟩ = some (.string t)) :
    FnGives Tryz.prog 39 #[.pointer (some ⟨g, 0, none⟩)] #[.string x] (.bool (decide (x = t))) W := by
  show Calls Tryz.prog 39 #[.string x, .pointer (some ⟨g, 0, none⟩)] W _
  have HE : Hid ((x.toList == t.toList) = decide (x = t)) := toList_eq x t
  go_enter Tryz.func39, Tryz.ntmps39
  go_wp2_with fail
  go_ret
  exact ⟨ret_bool HE.out, 0, rfl⟩

theorem enters_gone : ∀ args w, (callFunc 39 args).run Tryz.prog w = .ok (.enter 39 args) w := enters_of Tryz.func39 (by kernel_rfl) rfl

theorem grownBy_putRow {w : World} {g q : Nat} {d : Array ByteArray} : w.grownBy (putRow Value.string (Sort.ahead w q) g 0 d) (some g) :=
  ⟨rfl, rfl, rfl, by simp [putRow, mapBlock, Sort.ahead], fun k _ hne => by
    have : g ≠ k := fun e => hne (by rw [e])
    simp [putRow, mapBlock, Sort.ahead, Array.getElem?_modify, this]⟩

theorem delT_any (M g : Nat) (tv : Value) (ts : List ByteArray) (t : ByteArray) (w : World) (h : OwnT M w tv ts) (h0 : ts ≠ []) (hl : ts.length ≤ 1000000) (hM : M ≤ w.heap.size) (hg : g < M) (hc : w.cell? ⟨g, 2, none⟩ = some (.string t)) :
    Calls Tryz.prog 38 #[tv, .func (.func 39) #[] #[.pointer (some ⟨g, 0, none⟩)]] w fun e w' => ∃ p c, e = .returned (.slice p (restT ts t).length c) ∧ OwnT M w' (.slice p (restT ts t).length c) (restT ts t) ∧ Below M w w' := by
  rcases h.2 with ⟨_, hz⟩ | ⟨b, cap, cur, rfl, hb, hgb, hn, hm, hs, ht⟩
  · exact absurd (List.length_eq_zero_iff.1 hz) h0
  · obtain ⟨g', cap', e0, _, hgl, hnc, hcm, _, hH⟩ := holds_of_ownsRow (enc := Value.string) h (by simp)
    injection e0 with e1 _ e3
    injection e1 with e1
    injection e1 with e1
    subst e1 e3
    have hgM : g < w.heap.size := by omega
    have hne : g ≠ b := by omega
    have hd := AnyE.slices_DeleteFunc Tryz.delStr Value.string (fun _ => rfl) (fun x => decide (x = t)) 39 #[.pointer (some ⟨g, 0, none⟩)] enters_gone ⟨#[]⟩ Tryz.zeroValue9 b 0 cap ts.toArray w
      (fun W x hbW => gone_gives g t x W ((hbW.cell (p := ⟨g, 2, none⟩) hgM).trans hc))
      (fun n os dk x _ => gone_gives g t x _ (by
        unfold sortWorld
        rw [cell?_grow _ _ _ (by show g < (putRow _ _ _ _ _).heap.size; rw [size_putRow]; exact hgM), cell?_putRow_other _ _ b 0 _ _ (Or.inl hne)]
        exact hc)) hH (by simp; omega) (by simpa using hn)
    change Calls Tryz.prog 38 _ _ _ at hd
    refine hd.mono ?_
    rintro e w' ⟨rfl, q, rfl⟩
    have hfl : (restT ts t).length ≤ ts.length := rest_len ts t
    refine ⟨some ⟨b, 0, none⟩, cap, rfl, ?_, (Below.refl _ _).grown grownBy_putRow hM (fun k e => by cases e; exact hb)⟩
    have := ownsRow_putRow (enc := Value.string) (q := q) (k := (restT ts t).length) (ys := restT ts t ++ List.replicate (ts.length - (restT ts t).length) ⟨#[]⟩) h (by simp; omega) hfl
    rw [List.take_left] at this
    exact this

set_option maxHeartbeats 2000000 in
set_option maxRecDepth 100000 in
theorem deed3_any (N g k : Nat) (v : Value) (o : List Fx) (n t : ByteArray) (w : World) (hv : OwnJ N w v o) (hok : OkR k (o.map Fx.fld)) (hk : k ≤ 1000) (hb : BoxE w g (3, n, t)) (hN : N ≤ w.heap.size) :
    Calls Tryz.prog 36 #[v, .pointer (some ⟨g, 0, none⟩)] w fun e w' => DeedPost N w (o.map Fx.fld) (3, n, t) e w' := by
  obtain ⟨c0, c1, c2⟩ := hb.cells
  simp only at c0 c1 c2
  have HTX := hid (texts_any v n o w hv.1.is (okR_fit hok hk) (okR_16 hok hk))
  have htl := (okR_texts hok n).1
  have hdo := do_drop (o.map Fx.fld) n t
  obtain ⟨ts, hts⟩ : ∃ ts, textsOf (o.map Fx.fld) n = ts := ⟨_, rfl⟩
  rw [hts] at HTX htl hdo
  have HV := hid hv
  have HOK := hid hok
  have HBX := hid hb
  have HN := hid hN
  have hgl := hb.lt
  have HC : Hid (∀ W, Below w.heap.size w W → W.cell? ⟨g, 1, none⟩ = some (.string n) ∧ W.cell? ⟨g, 2, none⟩ = some (.string t)) := fun W h => ⟨(HBX.out.on h).cells.2.1, (HBX.out.on h).cells.2.2⟩
  clear hv hok hb hN hts
  cases hq : ts.any fun u => decide (u = t) with
  | false =>
    have HD : Hid (doE (o.map Fx.fld) (3, n, t) = (6, [])) := by
      show _ = _
      rw [hdo, if_neg (fun h => by rw [(rest_lt ts t).1 h] at hq; cases hq)]
    clear hdo
    go_enter Tryz.func36, Tryz.ntmps36
    go_wp2_with fail
    refine HTX.out.mono ?_
    rintro e w1 ⟨⟨tv, rfl, hot⟩, hb1⟩
    obtain ⟨tp, tc, rfl⟩ := own_slice hot
    obtain ⟨d1, d2⟩ := HC.out _ hb1
    have HH := hid (hasT_any tp tc ts t w1 hot.txtAt (by unfold maxLen; omega))
    rw [hq] at HH
    have HB1 := hid hb1
    clear hot hb1
    go_wp2_with fail
    refine HH.out.mono ?_
    rintro e w2 ⟨rfl, rfl⟩
    go_wp2_with fail
    go_ret2
    exact deed_of HD.out rfl (ownJ_none _ _) rfl (HB1.out.mono HN.out)
  | true =>
    have HD : Hid (doE (o.map Fx.fld) (3, n, t) = (0, setF (o.map Fx.fld) n (restT ts t))) := by
      show _ = _
      rw [hdo, if_pos ((rest_lt ts t).2 hq)]
    have hne0 : ts ≠ [] := fun e => by rw [e] at hq; cases hq
    have HRL := hid (rest_len ts t)
    clear hdo
    go_enter Tryz.func36, Tryz.ntmps36
    go_wp2_with fail
    refine HTX.out.mono ?_
    rintro e w1 ⟨⟨tv, rfl, hot⟩, hb1⟩
    obtain ⟨tp, tc, rfl⟩ := own_slice hot
    obtain ⟨d1, d2⟩ := HC.out _ hb1
    have HH := hid (hasT_any tp tc ts t w1 hot.txtAt (by unfold maxLen; omega))
    rw [hq] at HH
    have HDL := hid (delT_any w.heap.size g _ ts t w1 hot hne0 (by omega) hb1.size hgl d2)
    have HB1 := hid hb1
    clear hot hb1 hne0
    go_wp2_with fail
    refine HH.out.mono ?_
    rintro e w2 ⟨rfl, rfl⟩
    go_wp2_with fail
    refine HDL.out.mono ?_
    rintro e w3 ⟨p3, c3, rfl, ho3, hb3⟩
    have hb13 : Below w.heap.size w w3 := HB1.out.trans hb3
    obtain ⟨d3, d4⟩ := HC.out _ hb13
    have hv3 := HV.out.on hb13
    have HW := hid (pwith_any N v _ n (restT ts t) o w3 hv3 HOK.out.rise (by have := okR_len HOK.out; omega) (own_weak ho3 HN.out) (by have := HRL.out; omega) (apart_new HV.out (fun k e => (World.ownsRow.lt ho3 k e).1)) (Nat.le_trans HN.out hb13.size))
    have HV3 := hid hv3
    have HB13 := hid hb13
    obtain ⟨rl, hrl⟩ : ∃ rl, (restT ts t).length = rl := ⟨_, rfl⟩
    rw [hrl] at HW ⊢
    clear ho3 hb3 hb13 hv3 hrl
    go_wp2_with fail
    refine HW.out.mono ?_
    rintro e w4 ⟨u, o', rfl, h1, h2, h3⟩
    have H1 := hid h1
    have H2 := hid h2
    have H3 := hid h3
    clear h1 h2 h3
    go_wp2_with fail
    go_ret2
    exact deed_of HD.out rfl H1.out H2.out ((HB13.out.mono HN.out).trans (bel_grown HV3.out (Nat.le_trans HN.out HB13.out.size) H3.out))

end Go.Proofs.YtelcongbnmfegabGreatDoor

/-
  The contracts of the closures that test for a text, and add one; of deedOf.
-/
namespace Go.Proofs.YtelcongbnmfegabGreatDoor
open Go.RowKit Go.Lib

set_option maxHeartbeats 2000000 in
set_option maxRecDepth 100000 in
theorem deed5_any (N g k : Nat) (v : Value) (o : List Fx) (n t : ByteArray) (w : World) (hv : OwnJ N w v o) (hok : OkR k (o.map Fx.fld)) (hk : k ≤ 1000) (hb : BoxE w g (5, n, t)) (hN : N ≤ w.heap.size) :
    Calls Tryz.prog 41 #[v, .pointer (some ⟨g, 0, none⟩)] w fun e w' => DeedPost N w (o.map Fx.fld) (5, n, t) e w' := by
  have HTX : Hid (∀ m, Calls Tryz.prog 23 #[v, .string n] (w.drewN m) fun e w' => TxPost (w.drewN m) (textsOf (o.map Fx.fld) n) e w') := fun m => texts_any v n o (w.drewN m) (hv.on (belE_drew (Below.refl _ _) m)).1.is (okR_fit hok hk) (okR_16 hok hk)
  have htl := (okR_texts hok n).1
  have hdo := do_test (o.map Fx.fld) n t
  obtain ⟨ts, hts⟩ : ∃ ts, textsOf (o.map Fx.fld) n = ts := ⟨_, rfl⟩
  rw [hts] at HTX htl hdo
  have HV := hid hv
  have HBX := hid hb
  have HN := hid hN
  have HC : Hid (∀ W, Below w.heap.size w W → W.cell? ⟨g, 1, none⟩ = some (.string n) ∧ W.cell? ⟨g, 2, none⟩ = some (.string t)) := fun W h => ⟨(HBX.out.on h).cells.2.1, (HBX.out.on h).cells.2.2⟩
  have q0 := HC.out _ (Below.refl _ _)
  obtain ⟨Q, hq⟩ : ∃ Q, (ts.any fun u => decide (u = t)) = Q := ⟨_, rfl⟩
  have HD : Hid (doE (o.map Fx.fld) (5, n, t) = if Q = true then (0, o.map Fx.fld) else (13, [])) := by
    show _ = _
    rw [hdo]
    by_cases h : (restT ts t).length < ts.length
    · rw [if_pos h, if_pos (by rw [← hq]; exact (rest_lt ts t).1 h)]
    · rw [if_neg h, if_neg (by rw [← hq]; exact fun e => h ((rest_lt ts t).2 e))]
  have HQ := hid hq
  clear hv hok hb hN hts hdo hq
  go_enter Tryz.func41, Tryz.ntmps41
  go_wp2_with fail
  refine wp_region_held_drew (S := fun W => W.cell? ⟨g, 1, none⟩ = some (.string n) ∧ W.cell? ⟨g, 2, none⟩ = some (.string t)) (by kernel_rfl) q0 (fun hHeld => ?_)
  refine take_val (i := 0) (v) rfl (by kernel_rfl) (by kernel_rfl) (by kernel_rfl) (fun _ _ _ h => h) (by rfl) (fun w hSw => by go_simp) hHeld ?_
  simp only [Act.put, List.setIfInBounds_toArray, List.set_cons_zero, List.set_cons_succ]
  refine take_val (i := 1) (.pointer (some ⟨g, 1, none⟩)) rfl (by kernel_rfl) (by kernel_rfl) (by kernel_rfl) (fun _ _ _ h => h) (by rfl) (fun w hSw => by go_simp) hHeld ?_
  simp only [Act.put, List.setIfInBounds_toArray, List.set_cons_zero, List.set_cons_succ]
  refine take_val (i := 2) (.string n) rfl (by kernel_rfl) (by kernel_rfl) (by kernel_rfl) (fun _ _ _ h => h) (by rfl) (fun w hSw => by go_simp) hHeld ?_
  simp only [Act.put, List.setIfInBounds_toArray, List.set_cons_zero, List.set_cons_succ]
  refine take_val (i := 4) (.pointer (some ⟨g, 2, none⟩)) rfl (by kernel_rfl) (by kernel_rfl) (by kernel_rfl) (fun _ _ _ h => h) (by rfl) (fun w hSw => by go_simp) hHeld ?_
  simp only [Act.put, List.setIfInBounds_toArray, List.set_cons_zero, List.set_cons_succ]
  refine take_val (i := 5) (.string t) rfl (by kernel_rfl) (by kernel_rfl) (by kernel_rfl) (fun _ _ _ h => h) (by rfl) (fun w hSw => by go_simp) hHeld ?_
  simp only [Act.put, List.setIfInBounds_toArray, List.set_cons_zero, List.set_cons_succ]
  refine wpAnyH_ready (rs := [3]) (by kernel_rfl) (by simp) ?_
  refine AllReadyH.cons (at_drop0 rfl) (fun K hK => ?_) AllReadyH.nil
  rw [if_pos (by rfl)]
  go_simp
  refine (HTX.out 1).mono ?_
  rintro e w1 ⟨⟨tv, rfl, hot⟩, hb1⟩
  obtain ⟨tp, tc, rfl⟩ := own_slice hot
  have hb1' : Below w.heap.size w w1 := (belE_drew (Below.refl _ _) 1).trans hb1
  have q1 := HC.out _ hb1'
  have hh := hasT_any tp tc ts t w1 hot.txtAt (by unfold maxLen; omega)
  rw [HQ.out] at hh
  have HH : Hid (Calls Tryz.prog 37 #[.slice tp ts.length tc, .string t] w1 fun e w' => e = .returned (.bool Q) ∧ w1 = w') := hh.mono fun e w' h => ⟨h.1, h.2.symm⟩
  have HB1 := hid hb1'
  clear hot hb1 hb1' hh
  go_wp2_with fail
  refine hK.out _ _ q1 (fun hHeld => ?_)
  clear hK K
  try simp only [Act.put, List.setIfInBounds_toArray, List.set_cons_zero, List.set_cons_succ]
  refine wpAnyH_ready (rs := [6]) (by kernel_rfl) (by simp) ?_
  refine AllReadyH.cons (at_drop0 rfl) (fun K hK => ?_) AllReadyH.nil
  rw [if_pos (by rfl)]
  go_simp
  refine HH.out.mono ?_
  rintro e w2 ⟨rfl, rfl⟩
  go_wp2_with fail
  refine hK.out _ _ q1 (fun hHeld => ?_)
  clear hK K
  try simp only [Act.put, List.setIfInBounds_toArray, List.set_cons_zero, List.set_cons_succ]
  refine take_val (i := 7) (.bool (!Q)) rfl (by kernel_rfl) (by kernel_rfl) (by kernel_rfl) (fun _ _ _ h => h) (by rfl) (fun w hSw => by go_simp) hHeld ?_
  simp only [Act.put, List.setIfInBounds_toArray, List.set_cons_zero, List.set_cons_succ]
  refine wpAnyH_done (by kernel_rfl) ?_ _
  cases Q with
  | true =>
    go_wp2_with fail
    go_ret2
    exact deed_of HD.out rfl (HV.out.on HB1.out) rfl (HB1.out.mono HN.out)
  | false =>
    go_wp2_with fail
    go_ret2
    exact deed_of HD.out rfl (ownJ_none _ _) rfl (HB1.out.mono HN.out)

theorem news_one {W : World} {h : Nat} {t : ByteArray} (hh : W.heap[h]? = some (.cells #[.string t] 9 (0, 0))) : ∀ j u, ([.string t] : List Value)[j]? = some u → W.cell? ((⟨h, 0, none⟩ : Addr).add j) = some u := fun j u hu => by
  have hj : j < 1 := (List.getElem?_eq_some_iff.1 hu).1
  obtain rfl : j = 0 := by omega
  rw [addr_add, Lib.cell_of_heap hh]
  exact hu

set_option maxHeartbeats 4000000 in
set_option maxRecDepth 100000 in
theorem deed2_any (N g k : Nat) (v : Value) (o : List Fx) (n t : ByteArray) (w : World) (hv : OwnJ N w v o) (hok : OkR k (o.map Fx.fld)) (hk : k ≤ 1000) (hb : BoxE w g (2, n, t)) (hN : N ≤ w.heap.size) :
    Calls Tryz.prog 35 #[v, .pointer (some ⟨g, 0, none⟩)] w fun e w' => DeedPost N w (o.map Fx.fld) (2, n, t) e w' := by
  obtain ⟨i0, hi0, hz0, hz1, hz2⟩ := info_parts Tryz.infoStr
  have HI := hid hi0
  have HTX : Hid (∀ W, Below w.heap.size w W → Calls Tryz.prog 23 #[v, .string n] W fun e w' => TxPost W (textsOf (o.map Fx.fld) n) e w') := fun W h => texts_any v n o W (hv.on h).1.is (okR_fit hok hk) (okR_16 hok hk)
  have htl := (okR_texts hok n).1
  have hdo := do_add (o.map Fx.fld) n t
  obtain ⟨ts, hts⟩ : ∃ ts, textsOf (o.map Fx.fld) n = ts := ⟨_, rfl⟩
  rw [hts] at HTX htl hdo
  have HV := hid hv
  have HOK := hid hok
  have HBX := hid hb
  have HN := hid hN
  have HD := hid hdo
  have HC : Hid (∀ W, Below w.heap.size w W → W.cell? ⟨g, 1, none⟩ = some (.string n) ∧ W.cell? ⟨g, 2, none⟩ = some (.string t)) := fun W h => ⟨(HBX.out.on h).cells.2.1, (HBX.out.on h).cells.2.2⟩
  have q0 := HC.out _ (Below.refl _ _)
  have HWI : Hid (∀ (W : World) (tv : Value), Below w.heap.size w W → OwnT w.heap.size W tv (ts ++ [t]) → Calls Tryz.prog 34 #[v, .string n, tv] W fun e w' => ∃ u o', e = .returned u ∧ OwnJ N w' u o' ∧ o'.map Fx.fld = setF (o.map Fx.fld) n (ts ++ [t]) ∧ Below N w w' ∧ (w'.cell? ⟨g, 1, none⟩ = some (.string n) ∧ w'.cell? ⟨g, 2, none⟩ = some (.string t))) := fun W tv h ho =>
    (pwith_any N v tv n (ts ++ [t]) o W (HV.out.on h) HOK.out.rise (by have := okR_len HOK.out; omega) (own_weak ho HN.out) (by simp; omega) (apart_new HV.out (fun k e => (World.ownsRow.lt ho k e).1)) (Nat.le_trans HN.out h.size)).mono fun e w' hp => by
      obtain ⟨u, o', h1, h2, h3, h4⟩ := hp
      have hbx := (HBX.out.on h).grown (HV.out.on h) h4
      exact ⟨u, o', h1, h2, h3, (h.mono HN.out).trans (bel_grown (HV.out.on h) (Nat.le_trans HN.out h.size) h4), hbx.cells.2.1, hbx.cells.2.2⟩
  clear hv hok hb hN hts hdo hi0
  have hb0 : Below w.heap.size w (w.drewN 1) := belE_drew (Below.refl _ _) 1
  have HB0 := hid hb0
  have hbA := hb0.alloc (Nat.le_refl _) (.cells #[.string t] 9)
  have HBA := hid hbA
  have qA := HC.out _ hbA
  clear hb0 hbA
  go_enter Tryz.func35, Tryz.ntmps35
  go_wp2_with fail
  refine wp_region_held_drew (S := fun W => W.cell? ⟨g, 1, none⟩ = some (.string n) ∧ W.cell? ⟨g, 2, none⟩ = some (.string t)) (by kernel_rfl) q0 (fun hHeld => ?_)
  refine take_val (i := 0) (v) rfl (by kernel_rfl) (by kernel_rfl) (by kernel_rfl) (fun _ _ _ h => h) (by rfl) (fun w hSw => by go_simp) hHeld ?_
  simp only [Act.put, List.setIfInBounds_toArray, List.set_cons_zero, List.set_cons_succ]
  refine take_val (i := 1) (.pointer (some ⟨g, 1, none⟩)) rfl (by kernel_rfl) (by kernel_rfl) (by kernel_rfl) (fun _ _ _ h => h) (by rfl) (fun w hSw => by go_simp) hHeld ?_
  simp only [Act.put, List.setIfInBounds_toArray, List.set_cons_zero, List.set_cons_succ]
  refine take_val (i := 2) (.string n) rfl (by kernel_rfl) (by kernel_rfl) (by kernel_rfl) (fun _ _ _ h => h) (by rfl) (fun w hSw => by go_simp) hHeld ?_
  simp only [Act.put, List.setIfInBounds_toArray, List.set_cons_zero, List.set_cons_succ]
  refine take_val (i := 3) (v) rfl (by kernel_rfl) (by kernel_rfl) (by kernel_rfl) (fun _ _ _ h => h) (by rfl) (fun w hSw => by go_simp) hHeld ?_
  simp only [Act.put, List.setIfInBounds_toArray, List.set_cons_zero, List.set_cons_succ]
  refine take_val (i := 4) (.pointer (some ⟨g, 1, none⟩)) rfl (by kernel_rfl) (by kernel_rfl) (by kernel_rfl) (fun _ _ _ h => h) (by rfl) (fun w hSw => by go_simp) hHeld ?_
  simp only [Act.put, List.setIfInBounds_toArray, List.set_cons_zero, List.set_cons_succ]
  refine take_val (i := 5) (.string n) rfl (by kernel_rfl) (by kernel_rfl) (by kernel_rfl) (fun _ _ _ h => h) (by rfl) (fun w hSw => by go_simp) hHeld ?_
  simp only [Act.put, List.setIfInBounds_toArray, List.set_cons_zero, List.set_cons_succ]
  refine take_val (i := 7) (.pointer (some ⟨g, 2, none⟩)) rfl (by kernel_rfl) (by kernel_rfl) (by kernel_rfl) (fun _ _ _ h => h) (by rfl) (fun w hSw => by go_simp) hHeld ?_
  simp only [Act.put, List.setIfInBounds_toArray, List.set_cons_zero, List.set_cons_succ]
  refine take_val (i := 8) (.string t) rfl (by kernel_rfl) (by kernel_rfl) (by kernel_rfl) (fun _ _ _ h => h) (by rfl) (fun w hSw => by go_simp) hHeld ?_
  simp only [Act.put, List.setIfInBounds_toArray, List.set_cons_zero, List.set_cons_succ]
  refine wpAnyH_ready (rs := [6, 9]) (by kernel_rfl) (by simp) ?_
  refine AllReadyH.cons (at_drop0 rfl) (fun K hK => ?_) (AllReadyH.cons (at_drop0 rfl) (fun K hK => ?_) AllReadyH.nil)
  · rw [if_pos (by rfl)]
    go_simp
    refine (HTX.out _ HB0.out).mono ?_
    rintro e w1 ⟨⟨tv, rfl, hot⟩, hb1⟩
    obtain ⟨tp, tc, rfl⟩ := own_slice hot
    have hb1' : Below w.heap.size w w1 := HB0.out.trans hb1
    have q1 := HC.out _ hb1'
    have hb2 := hb1'.alloc hb1'.size (.cells #[.string t] 9)
    have q2 := HC.out _ hb2
    have HO2 : Hid (OwnT w.heap.size (w1.alloc (.cells #[.string t] 9)) (.slice tp ts.length tc) ts) := World.ownsRow.alloc (show OwnT w.heap.size w1 _ ts from hot) _
    have hs2 : w.heap.size ≤ (w1.alloc (.cells #[.string t] 9)).heap.size := hb2.size
    have HB2 := hid hb2
    have HNW := hid (news_one (heap_alloc_new w1 (.cells #[.string t] 9)))
    clear hot hb1 hb1' hb2
    go_wp2_with fail
    refine hK.out _ _ q1 (fun hHeld => ?_)
    clear hK K
    try simp only [Act.put, List.setIfInBounds_toArray, List.set_cons_zero, List.set_cons_succ]
    refine wpAnyH_ready (rs := [9]) (by kernel_rfl) (by simp) ?_
    refine AllReadyH.cons (at_drop0 rfl) (fun K hK => ?_) AllReadyH.nil
    rw [if_pos (by rfl)]
    go_simp
    refine hK.out _ _ q2 (fun hHeld => ?_)
    clear hK K
    try simp only [Act.put, List.setIfInBounds_toArray, List.set_cons_zero, List.set_cons_succ]
    refine wpAnyH_ready (rs := [10]) (by kernel_rfl) (by simp) ?_
    refine AllReadyH.cons (at_drop0 rfl) (fun K hK => ?_) AllReadyH.nil
    refine step_append_lies _ (by rfl) (.tmp 11) (.tmp 14) 32 (by rfl) w.heap.size 9 i0 (.string ⟨#[]⟩) 1 16 Tryz.underlying32 HI.out hz0 hz1 hz2 rfl (by decide) (.slice tp ts.length tc) ts.length (ts.map Value.string) (by rfl) HO2.out ⟨w1.heap.size, 0, none⟩ 1 1 [.string t] (by rfl) rfl HNW.out (by intro u hu; simp at hu; subst hu; rfl) (by decide) (by unfold maxLen; omega) (by omega) hs2 _ rfl ?_
    intro g9 cap9 w9 hown9 hg9 _ _
    have hb9 : Below w.heap.size w w9 := HB2.out.grown hg9 hs2 (fun k hk => (World.ownsRow.lt HO2.out k hk).1)
    have q9 := HC.out _ hb9
    have ho9 : OwnT w.heap.size w9 (.slice (some ⟨g9, 0, none⟩) (ts.length + 1) cap9) (ts ++ [t]) := by
      show w9.ownsRow _ _ _ _ _ _
      rw [List.length_append, List.map_append]
      exact hown9
    have HW9 := hid (HWI.out _ _ hb9 ho9)
    clear hown9 hg9 hb9 ho9
    refine hK.out _ _ q9 (fun hHeld => ?_)
    clear hK K
    try simp only [Act.put, List.setIfInBounds_toArray, List.set_cons_zero, List.set_cons_succ]
    refine wpAnyH_ready (rs := [11]) (by kernel_rfl) (by simp) ?_
    refine AllReadyH.cons (at_drop0 rfl) (fun K hK => ?_) AllReadyH.nil
    rw [if_pos (by rfl)]
    go_simp
    refine HW9.out.mono ?_
    rintro e w10 ⟨u, o', rfl, h1, h2, h3, h4⟩
    have H1 := hid h1
    have H2 := hid h2
    have H3 := hid h3
    clear h1 h2 h3
    go_wp2_with fail
    refine hK.out _ _ h4 (fun hHeld => ?_)
    clear hK K
    try simp only [Act.put, List.setIfInBounds_toArray, List.set_cons_zero, List.set_cons_succ]
    refine take_val (i := 12) (u) rfl (by kernel_rfl) (by kernel_rfl) (by kernel_rfl) (fun _ _ _ h => h) (by rfl) (fun w hSw => by go_simp) hHeld ?_
    simp only [Act.put, List.setIfInBounds_toArray, List.set_cons_zero, List.set_cons_succ]
    refine take_val (i := 13) (.int .i64 0) rfl (by kernel_rfl) (by kernel_rfl) (by kernel_rfl) (fun _ _ _ h => h) (by rfl) (fun w hSw => by go_simp) hHeld ?_
    simp only [Act.put, List.setIfInBounds_toArray, List.set_cons_zero, List.set_cons_succ]
    refine wpAnyH_done (by kernel_rfl) ?_ _
    go_wp2_with fail
    go_ret2
    exact deed_of HD.out rfl H1.out H2.out H3.out
  · rw [if_pos (by rfl)]
    go_simp
    refine hK.out _ _ qA (fun hHeld => ?_)
    clear hK K
    try simp only [Act.put, List.setIfInBounds_toArray, List.set_cons_zero, List.set_cons_succ]
    refine wpAnyH_ready (rs := [6]) (by kernel_rfl) (by simp) ?_
    refine AllReadyH.cons (at_drop0 rfl) (fun K hK => ?_) AllReadyH.nil
    rw [if_pos (by rfl)]
    go_simp
    refine (HTX.out _ HBA.out).mono ?_
    rintro e w1 ⟨⟨tv, rfl, hot⟩, hb1⟩
    obtain ⟨tp, tc, rfl⟩ := own_slice hot
    have hb1' : Below w.heap.size w w1 := bel_then HBA.out HBA.out.size hb1
    have q1 := HC.out _ hb1'
    have HO2 : Hid (OwnT w.heap.size w1 (.slice tp ts.length tc) ts) := own_weak hot HBA.out.size
    have hs2 : w.heap.size ≤ w1.heap.size := hb1'.size
    have HB2 := hid hb1'
    have HNW := hid (news_one ((hb1.block w.heap.size (by rw [World.size_alloc]; exact Nat.lt_succ_self _)).trans (heap_alloc_new (w.drewN 1) (.cells #[.string t] 9))))
    clear hot hb1 hb1'
    go_wp2_with fail
    refine hK.out _ _ q1 (fun hHeld => ?_)
    clear hK K
    try simp only [Act.put, List.setIfInBounds_toArray, List.set_cons_zero, List.set_cons_succ]
    refine wpAnyH_ready (rs := [10]) (by kernel_rfl) (by simp) ?_
    refine AllReadyH.cons (at_drop0 rfl) (fun K hK => ?_) AllReadyH.nil
    refine step_append_lies _ (by rfl) (.tmp 11) (.tmp 14) 32 (by rfl) w.heap.size 9 i0 (.string ⟨#[]⟩) 1 16 Tryz.underlying32 HI.out hz0 hz1 hz2 rfl (by decide) (.slice tp ts.length tc) ts.length (ts.map Value.string) (by rfl) HO2.out ⟨w.heap.size, 0, none⟩ 1 1 [.string t] (by rfl) rfl HNW.out (by intro u hu; simp at hu; subst hu; rfl) (by decide) (by unfold maxLen; omega) (by omega) hs2 _ rfl ?_
    intro g9 cap9 w9 hown9 hg9 _ _
    have hb9 : Below w.heap.size w w9 := HB2.out.grown hg9 hs2 (fun k hk => (World.ownsRow.lt HO2.out k hk).1)
    have q9 := HC.out _ hb9
    have ho9 : OwnT w.heap.size w9 (.slice (some ⟨g9, 0, none⟩) (ts.length + 1) cap9) (ts ++ [t]) := by
      show w9.ownsRow _ _ _ _ _ _
      rw [List.length_append, List.map_append]
      exact hown9
    have HW9 := hid (HWI.out _ _ hb9 ho9)
    clear hown9 hg9 hb9 ho9
    refine hK.out _ _ q9 (fun hHeld => ?_)
    clear hK K
    try simp only [Act.put, List.setIfInBounds_toArray, List.set_cons_zero, List.set_cons_succ]
    refine wpAnyH_ready (rs := [11]) (by kernel_rfl) (by simp) ?_
    refine AllReadyH.cons (at_drop0 rfl) (fun K hK => ?_) AllReadyH.nil
    rw [if_pos (by rfl)]
    go_simp
    refine HW9.out.mono ?_
    rintro e w10 ⟨u, o', rfl, h1, h2, h3, h4⟩
    have H1 := hid h1
    have H2 := hid h2
    have H3 := hid h3
    clear h1 h2 h3
    go_wp2_with fail
    refine hK.out _ _ h4 (fun hHeld => ?_)
    clear hK K
    try simp only [Act.put, List.setIfInBounds_toArray, List.set_cons_zero, List.set_cons_succ]
    refine take_val (i := 12) (u) rfl (by kernel_rfl) (by kernel_rfl) (by kernel_rfl) (fun _ _ _ h => h) (by rfl) (fun w hSw => by go_simp) hHeld ?_
    simp only [Act.put, List.setIfInBounds_toArray, List.set_cons_zero, List.set_cons_succ]
    refine take_val (i := 13) (.int .i64 0) rfl (by kernel_rfl) (by kernel_rfl) (by kernel_rfl) (fun _ _ _ h => h) (by rfl) (fun w hSw => by go_simp) hHeld ?_
    simp only [Act.put, List.setIfInBounds_toArray, List.set_cons_zero, List.set_cons_succ]
    refine wpAnyH_done (by kernel_rfl) ?_ _
    go_wp2_with fail
    go_ret2
    exact deed_of HD.out rfl H1.out H2.out H3.out

end Go.Proofs.YtelcongbnmfegabGreatDoor

/-
  The contract of Apply.
-/
namespace Go.Proofs.YtelcongbnmfegabGreatDoor
open Go.RowKit Go.Lib

/-- What Apply answers: memory of its own. -/
def ApMine (w : World) (V : List Fld) (l : List Ed) (e : Ending) (w' : World) : Prop :=
  ∃ u o, e = .returned (.tuple #[u, .int .i64 (codeA V l)]) ∧ OwnJ w.heap.size w' u o ∧ o.map Fx.fld = ansA V l ∧ Below w.heap.size w w'

theorem ap_nil {w w' : World} {V : List Fld} {l : List Ed} {c : Int} {e : Ending} (hc : codeA V l = c) (h0 : c ≠ 0) (he : e = .returned (.tuple #[.slice none 0 0, .int .i64 c])) (hb : Below w.heap.size w w') : ApMine w V l e w' :=
  ⟨_, [], by rw [he, hc], ownJ_none _ _, by rw [ansA_none (by rw [hc]; exact h0)]; rfl, hb⟩

set_option maxHeartbeats 1000000 in
theorem deedOf1 (n t : ByteArray) (w : World) : Calls Tryz.prog 15 #[.agg #[.int .i64 1, .string n, .string t]] w fun e w' => e = .returned (.func (.func 33) #[] #[.pointer (some ⟨w.heap.size, 0, none⟩)]) ∧ w' = w.alloc (.cells #[.int .i64 1, .string n, .string t] 24) := by
  go_enter Tryz.func15, Tryz.ntmps15
  go_wp2_with fail
  go_ret
  exact ⟨rfl, rfl⟩
set_option maxHeartbeats 1000000 in
theorem deedOf2 (n t : ByteArray) (w : World) : Calls Tryz.prog 15 #[.agg #[.int .i64 2, .string n, .string t]] w fun e w' => e = .returned (.func (.func 35) #[] #[.pointer (some ⟨w.heap.size, 0, none⟩)]) ∧ w' = w.alloc (.cells #[.int .i64 2, .string n, .string t] 24) := by
  go_enter Tryz.func15, Tryz.ntmps15
  go_wp2_with fail
  go_ret
  exact ⟨rfl, rfl⟩
set_option maxHeartbeats 1000000 in
theorem deedOf3 (n t : ByteArray) (w : World) : Calls Tryz.prog 15 #[.agg #[.int .i64 3, .string n, .string t]] w fun e w' => e = .returned (.func (.func 36) #[] #[.pointer (some ⟨w.heap.size, 0, none⟩)]) ∧ w' = w.alloc (.cells #[.int .i64 3, .string n, .string t] 24) := by
  go_enter Tryz.func15, Tryz.ntmps15
  go_wp2_with fail
  go_ret
  exact ⟨rfl, rfl⟩
set_option maxHeartbeats 1000000 in
theorem deedOf4 (n t : ByteArray) (w : World) : Calls Tryz.prog 15 #[.agg #[.int .i64 4, .string n, .string t]] w fun e w' => e = .returned (.func (.func 40) #[] #[.pointer (some ⟨w.heap.size, 0, none⟩)]) ∧ w' = w.alloc (.cells #[.int .i64 4, .string n, .string t] 24) := by
  go_enter Tryz.func15, Tryz.ntmps15
  go_wp2_with fail
  go_ret
  exact ⟨rfl, rfl⟩
set_option maxHeartbeats 1000000 in
theorem deedOf5 (n t : ByteArray) (w : World) : Calls Tryz.prog 15 #[.agg #[.int .i64 5, .string n, .string t]] w fun e w' => e = .returned (.func (.func 41) #[] #[.pointer (some ⟨w.heap.size, 0, none⟩)]) ∧ w' = w.alloc (.cells #[.int .i64 5, .string n, .string t] 24) := by
  go_enter Tryz.func15, Tryz.ntmps15
  go_wp2_with fail
  go_ret
  exact ⟨rfl, rfl⟩

/-- What an edit that may be does, whatever its kind. -/
theorem deed_any {xo : Int} (n t : ByteArray) (h1 : 1 ≤ xo) (h5 : xo ≤ 5) : ∃ fn : Nat, (∀ args w, (callFunc fn args).run Tryz.prog w = .ok (.enter fn args) w) ∧
    (∀ w, Calls Tryz.prog 15 #[.agg #[.int .i64 xo, .string n, .string t]] w fun e w' => e = .returned (.func (.func fn) #[] #[.pointer (some ⟨w.heap.size, 0, none⟩)]) ∧ w' = w.alloc (.cells #[.int .i64 xo, .string n, .string t] 24)) ∧
    ∀ (N g k : Nat) (v : Value) (o : List Fx) (w : World), OwnJ N w v o → OkR k (o.map Fx.fld) → k ≤ 1000 → BoxE w g (xo, n, t) → N ≤ w.heap.size → Calls Tryz.prog fn #[v, .pointer (some ⟨g, 0, none⟩)] w fun e w' => DeedPost N w (o.map Fx.fld) (xo, n, t) e w' := by
  have : xo = 1 ∨ xo = 2 ∨ xo = 3 ∨ xo = 4 ∨ xo = 5 := by omega
  rcases this with rfl | rfl | rfl | rfl | rfl
  · exact ⟨_, enters_of Tryz.func33 (by kernel_rfl) rfl, deedOf1 n t, fun N g k v o w a b c d e => deed1_any N g k v o n t w a b c d e⟩
  · exact ⟨_, enters_of Tryz.func35 (by kernel_rfl) rfl, deedOf2 n t, fun N g k v o w a b c d e => deed2_any N g k v o n t w a b c d e⟩
  · exact ⟨_, enters_of Tryz.func36 (by kernel_rfl) rfl, deedOf3 n t, fun N g k v o w a b c d e => deed3_any N g k v o n t w a b c d e⟩
  · exact ⟨_, enters_of Tryz.func40 (by kernel_rfl) rfl, deedOf4 n t, fun N g k v o w a b c d e => deed4_any N g k v o n t w a b c d e⟩
  · exact ⟨_, enters_of Tryz.func41 (by kernel_rfl) rfl, deedOf5 n t, fun N g k v o w a b c d e => deed5_any N g k v o n t w a b c d e⟩

theorem tot_le {fs : List Fld} (h : ∀ f ∈ fs, f.2.length ≤ 8) : totF fs ≤ fs.length * 8 := by
  induction fs with
  | nil => simp [totF]
  | cons f fs ih =>
    have h1 := ih fun g hg => h g (by simp [hg])
    have h2 := h f (by simp)
    have e : totF (f :: fs) = f.2.length + totF fs := by simp [totF]
    rw [e, List.length_cons]
    omega

/-- Norm of a normal value: itself, in memory of its own. -/
theorem norm_normal (v : Value) (d : List Fx) (w : World) (hv : IsXs w v d) (hf : FitX d) (hm : mayB (d.map Fx.fld) = true) :
    Calls Tryz.prog 14 #[v] w fun e w' => ∃ u o, e = .returned (.tuple #[u, .int .i64 0]) ∧ OwnJ w.heap.size w' u o ∧ o.map Fx.fld = d.map Fx.fld ∧ Below w.heap.size w w' := by
  obtain ⟨h1, h2, h3⟩ := mayR hm
  have ht := tot_le (fs := d.map Fx.fld) fun f hf => (fitsP (h2 f hf)).2.2.1
  have hl : d.length ≤ 16 := by rwa [List.length_map] at h1
  refine (norm_any v d w hv hf (by omega) (by omega)).mono ?_
  rintro e w' ⟨hp, hb⟩
  have hmis : (d.map Fx.fld).any misB = false := List.any_eq_false.2 fun f hf => by
    unfold misB
    rw [(fitsP (h2 f hf)).1]
    decide
  have key : ∀ ds, SortOf d ds → joinS (ds.map Fx.fld) = d.map Fx.fld := fun ds hs => by
    rw [sortOf_flds hs]
    exact groups_unique (normF_groups _) (groups_self h3)
  have hbare : (d.map Fx.fld).any bareB = false := List.any_eq_false.2 fun f hf => by
    unfold bareB
    have := (fitsP (h2 f hf)).2.1
    cases hq : f.2 with
    | nil => exact absurd hq this
    | cons _ _ => simp
  rcases hp with ⟨k, _⟩ | ⟨_, ds, hs, k⟩
  · rw [hmis] at k; cases k
  · rw [key ds hs] at k
    rcases k with ⟨k, _⟩ | ⟨_, k, _⟩ | ⟨_, _, u, o, he, ho, hom⟩
    · rw [hbare] at k; cases k
    · rw [hm] at k; cases k
    · exact ⟨u, o, he, ho, hom, hb⟩

/-- Apply on its way: i edits are done. -/
def MSt (w : World) (V : List Fld) (l : List Ed) (i : Nat) (vr : Value) (wr : World) : Prop :=
  ∃ o : List Fx, OwnJ w.heap.size wr vr o ∧ OkR i (o.map Fx.fld) ∧ runE V l = runE (o.map Fx.fld) (l.drop i) ∧ Below w.heap.size w wr

theorem mst_go {w w5 : World} {V R : List Fld} {l : List Ed} {i : Nat} {x : Ed} {u : Value} {o2 : List Fx} (hd : l.drop i = x :: l.drop (i + 1)) (hn : namedE x = true) (hs : shortE x = true) (hok : OkR i R)
    (hrun : runE V l = runE R (l.drop i)) (he : (doE R x).1 = 0) (ho : OwnJ w.heap.size w5 u o2) (hm : o2.map Fx.fld = (doE R x).2) (hb : Below w.heap.size w w5) : MSt w V l (i + 1) u w5 := by
  refine ⟨o2, ho, ?_, ?_, hb⟩
  · rw [hm]
    exact okR_do hok hn hs he
  · rw [hrun, hd, runE, if_pos he, hm]

set_option maxHeartbeats 8000000 in
set_option maxRecDepth 100000 in
theorem papply_mine (v u : Value) (d : List Fx) (l : List Ed) (w : World) (hv : IsXs w v d) (hf : FitX d) (hu : KE.Is w u l) (hfl : FitE l) :
    Calls Tryz.prog 5 #[v, u] w fun e w' => ApMine w (d.map Fx.fld) l e w' := by
  have HMV := hid (may_any v d w hv hf)
  have HME := hid (fun W (hW : Below w.heap.size w W) => pmayE_raw u l W (KE.is_kept hu hW) hfl)
  obtain ⟨V, hV⟩ : ∃ V, d.map Fx.fld = V := ⟨_, rfl⟩
  cases hmv : mayB (d.map Fx.fld) with
  | false =>
    rw [hmv] at HMV
    have H0 : Hid (codeA V l = 3) := by show _ = _; rw [← hV]; exact codeA_field hmv
    rw [hV]
    clear hmv hV hv hf hu hfl
    go_enter Tryz.func5, Tryz.ntmps5
    go_wp2_with fail
    refine HMV.out.mono ?_
    rintro e w1 ⟨rfl, hg1⟩
    have HB1 := hid hg1.below
    clear hg1
    go_wp2_with fail
    go_ret2
    exact ap_nil H0.out (by decide) rfl HB1.out
  | true =>
  rw [hmv] at HMV
  by_cases hme : mayE l = 0
  · have HNO := hid (fun W (hW : Below w.heap.size w W) => norm_normal v d W (hv.kept hW) hf hmv)
    have HOK := hid (okR_may hmv)
    rw [hme] at HME
    obtain ⟨hl16, hen, her, hes⟩ := mayE_zero hme
    have H1 : Hid (mayB V = true) := by show _ = _; rw [← hV]; exact hmv
    have H2 := hid hme
    have HEN := hid hen
    have HER := hid her
    have HES := hid hes
    rw [hV] at HOK HNO ⊢
    obtain ⟨q, cap, rfl, hd⟩ := hu
    have HD := hid hd
    clear hmv hme hV hv hf hfl hen her hes hd
    go_enter Tryz.func5, Tryz.ntmps5
    go_wp2_with fail
    refine HMV.out.mono ?_
    rintro e w1 ⟨rfl, hg1⟩
    have HB1 := hid hg1.below
    clear hg1
    go_wp2_with fail
    refine (HME.out _ HB1.out).mono ?_
    rintro e w2 ⟨rfl, hb2⟩
    have HB2 := hid (bel_then HB1.out HB1.out.size hb2)
    clear hb2
    go_wp2_with fail
    refine (HNO.out _ HB2.out).mono ?_
    rintro e w3 ⟨u7, o3, rfl, hoj, hm3, hb3⟩
    have HST : Hid (MSt w V l 0 u7 w3) := ⟨o3, ⟨⟨own_weak hoj.1.1 HB2.out.size, fun x hx => own_weak (hoj.1.2 x hx) HB2.out.size⟩, hoj.2⟩, by rw [hm3]; exact HOK.out, by rw [hm3]; rfl, bel_then HB2.out HB2.out.size hb3⟩
    clear hoj hm3 hb3
    go_wp2_with fail
    go_loopg [7, 27] l.length (fun g vr vi wr => ∃ i : Nat, vi = .int .i64 i ∧ i ≤ l.length ∧ l.length - i ≤ g ∧ Hid (MSt w V l i vr wr))
    case atStart => exact ⟨0, rfl, by omega, by omega, HST⟩
    case round =>
    clear HST HMV HME HNO HOK
    obtain ⟨i, rfl, hi, hgk, HST⟩ := hrel
    obtain ⟨o, hoj, hok, hrun, hbo⟩ := HST.out
    clear HST
    by_cases hlt : i < l.length
    · have hltz : (i : Int) < (l.length : Int) := by omega
      have hiz : (0 : Int) ≤ i := by omega
      obtain ⟨b, off, rfl, hat⟩ : ∃ b off, q = some ⟨b, off, none⟩ ∧ KE.At w b off l := by
        rcases HD.out with h | h
        · subst h; simp at hlt
        · exact h
      obtain ⟨c0, c1, c2⟩ := ke_cells (Kind.at_kept hat hbo) i hlt
      have hdr : l.drop i = l[i] :: l.drop (i + 1) := List.drop_eq_getElem_cons hlt
      have hxn := HEN.out _ (List.getElem_mem hlt)
      have hxr := HER.out _ (List.getElem_mem hlt)
      have hxs := HES.out _ (List.getElem_mem hlt)
      obtain ⟨x, hx⟩ : ∃ x, l[i] = x := ⟨_, rfl⟩
      rw [hx] at c0 c1 c2 hdr hxn hxr hxs
      obtain ⟨xo, xf, xt⟩ := x
      simp only at c0 c1 c2
      have hor : 1 ≤ xo ∧ xo ≤ 5 := by
        unfold rightE at hxr
        simp only [Bool.and_eq_true, decide_eq_true_eq] at hxr
        exact ⟨hxr.1.1, hxr.1.2⟩
      obtain ⟨fn, eg, hdo, hcall⟩ := deed_any (xo := xo) xf xt hor.1 hor.2
      obtain ⟨R, hR⟩ : ∃ R, o.map Fx.fld = R := ⟨_, rfl⟩
      obtain ⟨W, hW⟩ : ∃ W, wr.alloc (.cells #[.int .i64 xo, .string xf, .string xt] 24) = W := ⟨_, rfl⟩
      obtain ⟨W2, hW2⟩ : ∃ W2, W.alloc (.cells #[.int .i64 xo, .string xf, .string xt] 24) = W2 := ⟨_, rfl⟩
      have hb1 : Below wr.heap.size wr W2 := by
        rw [← hW2, ← hW]
        exact ((Below.refl _ _).alloc (Nat.le_refl _) _).alloc (by simp) _
      have HDO : Hid (Calls Tryz.prog 15 #[.agg #[.int .i64 xo, .string xf, .string xt]] W fun e w' => e = .returned (.func (.func fn) #[] #[.pointer (some ⟨W.heap.size, 0, none⟩)]) ∧ W2 = w') := (hdo W).mono fun e w' h => ⟨h.1, by rw [h.2, hW2]⟩
      have hbw : BoxE W wr.heap.size (xo, xf, xt) := by rw [← hW]; exact boxE_new wr (xo, xf, xt)
      obtain ⟨d0, d1, d2⟩ := hbw.cells
      simp only at d0 d1 d2
      have hbx : BoxE W2 W.heap.size (xo, xf, xt) := by rw [← hW2]; exact boxE_new W (xo, xf, xt)
      have hcl := hcall w.heap.size W.heap.size i _ o W2 (hoj.on hb1) hok (by omega) hbx (Nat.le_trans hbo.size hb1.size)
      rw [hR] at hcl hok hrun
      have HCL := hid hcl
      have HBO := hid (show Below w.heap.size w W2 from bel_then hbo hbo.size hb1)
      have HOK := hid hok
      have HRUN := hid hrun
      have HDR := hid hdr
      have HXN := hid hxn
      have HXS := hid hxs
      clear hbw hat hx hdr hxn hxr hxs hor hdo hcall hoj hok hrun hbo hbx hcl hR hb1
      by_cases hq : (doE R (xo, xf, xt)).1 = 0
      · have HCZ : Hid (Calls Tryz.prog fn #[_, .pointer (some ⟨W.heap.size, 0, none⟩)] W2 fun e w' => ∃ u o', e = .returned (.tuple #[u, .int .i64 0]) ∧ OwnJ w.heap.size w' u o' ∧ o'.map Fx.fld = (doE R (xo, xf, xt)).2 ∧ Below w.heap.size W2 w') := HCL.out.mono fun e w' h => by
          obtain ⟨u, o', a1, a2, a3, a4⟩ := h
          rw [hq] at a1
          exact ⟨u, o', a1, a2, a3, a4⟩
        have HQ := hid hq
        clear HCL hq
        go_wp2_with fail
        refine HDO.out.mono ?_
        rintro e w4 ⟨rfl, rfl⟩
        go_wp2_with (go_at_fn fn; refine HCZ.out.mono ?_; rintro e w5 ⟨u5, o5, rfl, ho5, hm5, hb5⟩; have HO5 := hid ho5; have HM5 := hid hm5; have HB5 := hid hb5; clear ho5 hm5 hb5)
        go_roundg (l.length - (i + 1))
        case measure => omega
        exact ⟨i + 1, by go_num, by omega, by omega, mst_go HDR.out HXN.out HXS.out HOK.out HRUN.out HQ.out HO5.out HM5.out (HBO.out.trans HB5.out)⟩
      · obtain ⟨c, hc⟩ : ∃ c, (doE R (xo, xf, xt)).1 = c := ⟨_, rfl⟩
        have hne : (c != 0) = true := by rw [bne_iff_ne, ← hc]; exact hq
        have HCZ : Hid (Calls Tryz.prog fn #[_, .pointer (some ⟨W.heap.size, 0, none⟩)] W2 fun e w' => ∃ u, e = .returned (.tuple #[u, .int .i64 c]) ∧ Below w.heap.size W2 w') := HCL.out.mono fun e w' h => by
          obtain ⟨u, o', a1, a2, a3, a4⟩ := h
          rw [hc] at a1
          exact ⟨u, a1, a4⟩
        have HCA : Hid (codeA V l = c) := by
          show _ = _
          have e1 : (runE V l).1 = c := by rw [HRUN.out, HDR.out, runE, if_neg hq, hc]
          rw [codeA_run H1.out H2.out (by rw [e1, ← hc]; exact hq), e1]
        have HNZ : Hid (c ≠ 0) := by rw [← hc]; exact hq
        clear HCL hq hc
        go_wp2_with fail
        refine HDO.out.mono ?_
        rintro e w4 ⟨rfl, rfl⟩
        go_wp2_with (go_at_fn fn; refine HCZ.out.mono ?_; rintro e w5 ⟨u5, rfl, hb5⟩; have HB5 := hid hb5; clear hb5)
        go_ret2
        exact ap_nil HCA.out HNZ.out rfl (HBO.out.trans HB5.out)
    · have hltz : ¬ (i : Int) < (l.length : Int) := by omega
      have hil : l.length ≤ i := by omega
      have hrl : runE V l = (0, o.map Fx.fld) := by rw [hrun, List.drop_of_length_le hil]; rfl
      have HRL := hid hrl
      have HMA := hid (may_any _ o wr hoj.1.is (okR_fit hok (by omega)))
      have HOJ := hid hoj
      have HBO := hid hbo
      clear hrun hrl hok hoj hbo
      cases hmm : mayB (o.map Fx.fld) with
      | false =>
        rw [hmm] at HMA
        have HCA : Hid (codeA V l = 5) := codeA_long H1.out H2.out (by rw [HRL.out]) (by rw [HRL.out]; exact hmm)
        go_wp2_with fail
        refine HMA.out.mono ?_
        rintro e w4 ⟨rfl, hg4⟩
        have HG4 := hid hg4.below
        clear hg4
        go_wp2_with fail
        go_ret2
        exact ap_nil HCA.out (by decide) rfl (bel_then HBO.out HBO.out.size HG4.out)
      | true =>
        rw [hmm] at HMA
        have HCA : Hid (codeA V l = 0) := codeA_of H1.out H2.out (by rw [HRL.out]) (by rw [HRL.out]; exact hmm)
        have HAN : Hid (ansA V l = o.map Fx.fld) := by show _ = _; unfold ansA; rw [if_pos HCA.out, HRL.out]
        go_wp2_with fail
        refine HMA.out.mono ?_
        rintro e w4 ⟨rfl, hg4⟩
        have HG4 := hid hg4.below
        clear hg4
        go_wp2_with fail
        go_ret2
        exact ⟨_, o, by rw [HCA.out]; rfl, HOJ.out.on HG4.out, HAN.out.symm, bel_then HBO.out HBO.out.size HG4.out⟩
  · have hne : (mayE l != 0) = true := by rw [bne_iff_ne]; exact hme
    have H0 : Hid (codeA V l = mayE l) := by show _ = _; rw [← hV]; exact codeA_may hmv hme
    have HNZ := hid hme
    obtain ⟨c, hc⟩ : ∃ c, mayE l = c := ⟨_, rfl⟩
    rw [hc] at hne HME H0 HNZ
    rw [hV]
    clear hmv hme hV hv hf hu hfl hc
    go_enter Tryz.func5, Tryz.ntmps5
    go_wp2_with fail
    refine HMV.out.mono ?_
    rintro e w1 ⟨rfl, hg1⟩
    have HB1 := hid hg1.below
    clear hg1
    go_wp2_with fail
    refine (HME.out _ HB1.out).mono ?_
    rintro e w2 ⟨rfl, hb2⟩
    have HB2 := hid (bel_then HB1.out HB1.out.size hb2)
    clear hb2
    go_wp2_with fail
    go_ret2
    exact ap_nil H0.out HNZ.out rfl HB2.out

end Go.Proofs.YtelcongbnmfegabGreatDoor

/-
  The contracts of slices.Grow of no field, and of slices.Concat of two slices of fields.
-/
namespace Go.Proofs.YtelcongbnmfegabGreatDoor
open Go.RowKit Go.Lib

set_option maxHeartbeats 2000000 in
set_option maxRecDepth 100000 in
theorem growX_any (m : Nat) (w : World) (hm : m ≤ 1000000) :
    Calls Tryz.prog 74 #[.slice none 0 0, .int .i64 m] w fun e w' => ∃ p c, e = .returned (.slice p 0 c) ∧ RowX w.heap.size w' (.slice p 0 c) [] ∧ Below w.heap.size w w' := by
  obtain ⟨i0, hi0, hz0, hz1, hz2⟩ := info_parts Tryz.infoFld
  have hneg : ¬ ((m : Int) < 0) := by omega
  have hw1 : IntKind.i64.wrap (m : Int) = (m : Int) := by rw [IntKind.wrap_i64]; omega
  by_cases h0 : m = 0
  · subst h0
    go_enter Tryz.func74, Tryz.ntmps74
    go_wp2_with fail
    go_ret
    exact ⟨none, 0, rfl, World.ownsRow_nil _ _ _ _, Below.refl _ _⟩
  · have hpos : (0 : Int) < (m : Int) := by omega
    have hra : ∀ ty, (Builtin.append_ #[22, 3] ty #[.slice none 0 0, .int .i64 m]).run Tryz.prog w = _ := fun ty =>
      Lib.run_append_nil_zeros w 22 3 ty 35 i0 _ .i64 .i64 Tryz.underlying22 Tryz.underlying3 hi0 hz0 m (by omega) (by rw [hz1]; decide) (by omega) (by rw [hz2]; omega)
    obtain ⟨G, hG⟩ : ∃ G, grownCap w m 0 35 = G := ⟨_, rfl⟩
    have hGn : m ≤ G := by rw [← hG]; exact grownCap_ge w _ _ _
    have hGm : G ≤ maxLen := by rw [← hG]; exact grownCap_le_maxLen w m 0 35 (by unfold maxLen; omega)
    rw [hG] at hra
    obtain ⟨L0, hL0⟩ : ∃ L0, Builtin.zeroCells (Value.agg #[.string ⟨#[]⟩, .slice none 0 0]).cells m ++ Builtin.zeroCells (Value.agg #[.string ⟨#[]⟩, .slice none 0 0]).cells (G - m) = L0 := ⟨_, rfl⟩
    have hL0s : L0.size = G * 2 := by
      rw [← hL0, Array.size_append, size_zeroCells, size_zeroCells]
      show m * 2 + (G - m) * 2 = _
      omega
    rw [hL0] at hra
    have HROW : Hid (RowX w.heap.size (w.drew.alloc (.cells L0 35)) (.slice (some ⟨w.heap.size, 0, none⟩) 0 G) []) :=
      rowX_mk rfl (Nat.le_refl _) (heap_alloc_new w.drew _) (Nat.zero_le _) hGm hL0s rfl
    have HB : Hid (Below w.heap.size w (w.drew.alloc (.cells L0 35))) := ((Below.refl _ w).drew).alloc (Nat.le_refl _) _
    have HRA := hid hra
    have hGz : (0 : Int) ≤ (G : Int) := by omega
    clear hra hG hL0 hL0s hi0 hz0 hz1 hz2
    go_enter Tryz.func74, Tryz.ntmps74
    go_wp2_with (at_builtin; refine Lib.wpList_append_run _ rfl _ _ _ _ rfl _ _ rfl rfl _ _ (HRA.out _) ?_)
    go_ret
    exact ⟨_, _, rfl, HROW.out, HB.out⟩

set_option maxHeartbeats 4000000 in
set_option maxRecDepth 100000 in
theorem concatX_any (g : Nat) (pa pb : Option Addr) (ca cb : Nat) (da db : List Fx) (w : World) (hg : w.heap[g]? = some (.cells #[.slice pa da.length ca, .slice pb db.length cb] 22 (0, 0)))
    (ha : da = [] ∨ ∃ b off, pa = some ⟨b, off, none⟩ ∧ XsAt w b off da) (hb : db = [] ∨ ∃ b off, pb = some ⟨b, off, none⟩ ∧ XsAt w b off db) (hla : da.length ≤ 1000) (hlb : db.length ≤ 1000) :
    Calls Tryz.prog 45 #[.slice (some ⟨g, 0, none⟩) 2 2] w fun e w' => ∃ p c, e = .returned (.slice p (da ++ db).length c) ∧ RowX w.heap.size w' (.slice p (da ++ db).length c) (da ++ db) ∧ Below w.heap.size w w' := by
  obtain ⟨i0, hi0, hz0, hz1, hz2⟩ := info_parts Tryz.infoFld
  have HI := hid hi0
  have hgl : g < w.heap.size := (Array.getElem?_eq_some_iff.1 hg).1
  have c0 : w.cell? ⟨g, 0, none⟩ = some (.slice pa da.length ca) := by rw [Lib.cell_of_heap hg]; rfl
  have c1 : w.cell? ⟨g, 1, none⟩ = some (.slice pb db.length cb) := by rw [Lib.cell_of_heap hg]; rfl
  have HC : Hid (∀ W, Below w.heap.size w W → W.cell? ⟨g, 0, none⟩ = some (.slice pa da.length ca) ∧ W.cell? ⟨g, 1, none⟩ = some (.slice pb db.length cb)) := fun W h => ⟨(h.cell (p := ⟨g, 0, none⟩) hgl).trans c0, (h.cell (p := ⟨g, 1, none⟩) hgl).trans c1⟩
  have HSA : Hid (∀ W, Below w.heap.size w W → da.length = 0 ∨ ∃ ad, pa = some ad ∧ ∀ j u, (cellsX da)[j]? = some u → W.cell? (ad.add j) = some u) := fun W h => src_xs (by
    rcases ha with e | ⟨b, off, e, hx⟩
    · exact Or.inl e
    · exact Or.inr ⟨b, off, e, hx.kept h⟩)
  have HSB : Hid (∀ W, Below w.heap.size w W → db.length = 0 ∨ ∃ ad, pb = some ad ∧ ∀ j u, (cellsX db)[j]? = some u → W.cell? (ad.add j) = some u) := fun W h => src_xs (by
    rcases hb with e | ⟨b, off, e, hx⟩
    · exact Or.inl e
    · exact Or.inr ⟨b, off, e, hx.kept h⟩)
  have HGR := hid (growX_any (da.length + db.length) w (by omega))
  have HAP : Hid (cellsX (da ++ db) = cellsX da ++ cellsX db) := cellsX_append da db
  have hw1 : IntKind.i64.wrap ((da.length : Int)) = (da.length : Int) := by rw [IntKind.wrap_i64]; omega
  have hw2 : IntKind.i64.wrap ((da.length : Int) + (db.length : Int)) = (da.length : Int) + (db.length : Int) := by rw [IntKind.wrap_i64]; omega
  have hn1 : ¬ ((da.length : Int) < 0) := by omega
  have hn2 : ¬ ((da.length : Int) + (db.length : Int) < 0) := by omega
  clear hg ha hb hi0 hgl
  go_enter Tryz.func45, Tryz.ntmps45
  go_wp2_with fail
  refine wp_loop_rounds 3 ?_
  rw [rounds_succ]
  go_wp2_with fail
  rw [rounds_succ]
  go_wp2_with fail
  rw [rounds_succ]
  go_wp2_with fail
  refine HGR.out.mono ?_
  rintro e w1 ⟨p1, k1, rfl, hr1, hb1⟩
  obtain ⟨d0, d1⟩ := HC.out _ hb1
  have HR1 : Hid (w1.ownsRow w.heap.size 35 2 (.slice p1 0 k1) 0 []) := hr1
  have HB1 := hid hb1
  have hs1 := hb1.size
  clear hr1 hb1
  go_wp2_with fail
  refine wp_loop_rounds 3 ?_
  rw [rounds_succ]
  go_wp2_with (at_builtin; refine wpList_append_rows _ rfl _ _ 22 rfl w.heap.size 35 i0 (.agg #[.string ⟨#[]⟩, .slice none 0 0]) 2 40 Tryz.underlying22 HI.out hz0 hz1 hz2 rfl (by decide) _ 0 [] rfl HR1.out pa da.length ca (cellsX da) rfl (cellsX_len da) (HSA.out _ HB1.out) (cellsX_ones _) (by unfold maxLen; omega) (by omega) hs1 ?_; intro v2 w2 hown2 hg2)
  have hb2 : Below w.heap.size w w2 := HB1.out.grown hg2 hs1 (fun k hk => (World.ownsRow.lt HR1.out k hk).1)
  rw [Nat.zero_add, List.nil_append] at hown2
  obtain ⟨p2, k2, rfl⟩ : ∃ p c, v2 = .slice p da.length c := by
    rcases hown2.2 with ⟨h1, h2⟩ | ⟨g, cap, _, h1, _⟩
    · exact ⟨none, 0, by rw [h1, h2]⟩
    · exact ⟨_, _, h1⟩
  obtain ⟨f0, f1⟩ := HC.out _ hb2
  have HR2 := hid hown2
  have HB2 := hid hb2
  have hs2 := hb2.size
  clear hown2 hg2 hb2
  rw [rounds_succ]
  go_wp2_with (at_builtin; refine wpList_append_rows _ rfl _ _ 22 rfl w.heap.size 35 i0 (.agg #[.string ⟨#[]⟩, .slice none 0 0]) 2 40 Tryz.underlying22 HI.out hz0 hz1 hz2 rfl (by decide) _ da.length (cellsX da) rfl HR2.out pb db.length cb (cellsX db) rfl (cellsX_len db) (HSB.out _ HB2.out) (cellsX_ones _) (by unfold maxLen; omega) (by omega) hs2 ?_; intro v3 w3 hown3 hg3)
  have hb3 : Below w.heap.size w w3 := HB2.out.grown hg3 hs2 (fun k hk => (World.ownsRow.lt HR2.out k hk).1)
  obtain ⟨p3, k3, rfl⟩ : ∃ p c, v3 = .slice p (da.length + db.length) c := by
    rcases hown3.2 with ⟨h1, h2⟩ | ⟨g, cap, _, h1, _⟩
    · exact ⟨none, 0, by rw [h1, h2]⟩
    · exact ⟨_, _, h1⟩
  have HR3 := hid hown3
  have HB3 := hid hb3
  clear hown3 hg3 hb3
  rw [rounds_succ]
  go_wp2_with fail
  go_ret
  refine ⟨p3, k3, by rw [List.length_append]; rfl, ?_, HB3.out⟩
  unfold RowX
  rw [HAP.out, List.length_append]
  exact HR3.out

end Go.Proofs.YtelcongbnmfegabGreatDoor

/-
  The plain mathematics of Diff as the package does it: name by name.
-/
namespace Go.Proofs.YtelcongbnmfegabGreatDoor
open Go.RowKit

/-- The edits of one field from some texts to others. -/
def changeE (n : ByteArray) (f t : List ByteArray) : List Ed := if f = t then [] else if t = [] then [(4, n, ⟨#[]⟩)] else setsE (n, t)

/-- The names of both, side by side. -/
def namesM : List Fld → List Fld → List ByteArray
  | [], [] => []
  | a :: ar, [] => a.1 :: namesM ar []
  | [], b :: br => b.1 :: namesM [] br
  | a :: ar, b :: br => if ltB a.1 b.1 then a.1 :: namesM ar (b :: br)
      else if a.1 = b.1 then a.1 :: namesM ar br
      else b.1 :: namesM (a :: ar) br

theorem namesM_mem (a b : List Fld) (n : ByteArray) : n ∈ namesM a b ↔ n ∈ a.map (·.1) ∨ n ∈ b.map (·.1) := by
  induction a, b using namesM.induct with
  | case1 => simp [namesM]
  | case2 a ar ih => rw [namesM]; simp [ih]
  | case3 b br ih => rw [namesM]; simp [ih]
  | case4 a ar b br h ih => rw [namesM, if_pos h]; simp [ih, or_assoc]
  | case5 a ar b br h h2 ih =>
    rw [namesM, if_neg h, if_pos h2]
    simp [ih, h2]
    constructor
    · rintro (h | h | h)
      · exact Or.inl (Or.inl h)
      · exact Or.inl (Or.inr h)
      · exact Or.inr (Or.inr h)
    · rintro ((h | h) | (h | h))
      · exact Or.inl h
      · exact Or.inr (Or.inl h)
      · exact Or.inl h
      · exact Or.inr (Or.inr h)
  | case6 a ar b br h h2 ih =>
    rw [namesM, if_neg h, if_neg h2]
    simp [ih]
    constructor
    · rintro (h | h | h)
      · exact Or.inr (Or.inl h)
      · exact Or.inl h
      · exact Or.inr (Or.inr h)
    · rintro (h | h | h)
      · exact Or.inr (Or.inl h)
      · exact Or.inl h
      · exact Or.inr (Or.inr h)

theorem rise_head {f : Fld} {r : List Fld} (h : Rising (f :: r)) {n : ByteArray} (hn : n ∈ r.map (·.1)) : ltB f.1 n = true := by
  obtain ⟨g, hg, rfl⟩ := List.mem_map.1 hn
  exact List.rel_of_pairwise_cons h hg

theorem rise_tail {f : Fld} {r : List Fld} (h : Rising (f :: r)) : Rising r := (List.pairwise_cons.1 h).2

theorem namesM_low {a b : List Fld} {m : ByteArray} (ha : ∀ n ∈ a.map (·.1), ltB m n = true) (hb : ∀ n ∈ b.map (·.1), ltB m n = true) : ∀ n ∈ namesM a b, ltB m n = true := fun n hn => by
  rcases (namesM_mem a b n).1 hn with h | h
  · exact ha n h
  · exact hb n h

theorem rise_names {f : Fld} {r : List Fld} {m : ByteArray} (h : Rising (f :: r)) (hm : ltB m f.1 = true) : ∀ n ∈ (f :: r).map (·.1), ltB m n = true := fun n hn => by
  rw [List.map_cons, List.mem_cons] at hn
  rcases hn with rfl | hn
  · exact hm
  · exact ltB_trans hm (rise_head h hn)

theorem lt_of_not {a b : ByteArray} (h : ¬ ltB a b = true) (h2 : a ≠ b) : ltB b a = true := by
  rcases ltB_cases a b with k | k | k
  · exact absurd k h
  · exact absurd k h2
  · exact k

theorem namesM_rising (a b : List Fld) (ha : Rising a) (hb : Rising b) : RisingR ltB (namesM a b) := by
  induction a, b using namesM.induct with
  | case1 => rw [namesM]; exact List.Pairwise.nil
  | case2 a ar ih =>
    rw [namesM]
    exact List.pairwise_cons.2 ⟨namesM_low (fun n hn => rise_head ha hn) (fun n hn => by simp at hn), ih (rise_tail ha) hb⟩
  | case3 b br ih =>
    rw [namesM]
    exact List.pairwise_cons.2 ⟨namesM_low (fun n hn => by simp at hn) (fun n hn => rise_head hb hn), ih ha (rise_tail hb)⟩
  | case4 a ar b br h ih =>
    rw [namesM, if_pos h]
    exact List.pairwise_cons.2 ⟨namesM_low (fun n hn => rise_head ha hn) (rise_names hb h), ih (rise_tail ha) hb⟩
  | case5 a ar b br h h2 ih =>
    rw [namesM, if_neg h, if_pos h2]
    exact List.pairwise_cons.2 ⟨namesM_low (fun n hn => rise_head ha hn) (fun n hn => by rw [h2]; exact rise_head hb hn), ih (rise_tail ha) (rise_tail hb)⟩
  | case6 a ar b br h h2 ih =>
    rw [namesM, if_neg h, if_neg h2]
    exact List.pairwise_cons.2 ⟨namesM_low (rise_names ha (lt_of_not h h2)) (fun n hn => rise_head hb hn), ih ha (rise_tail hb)⟩

theorem textsOf_head (f : Fld) (r : List Fld) : textsOf (f :: r) f.1 = f.2 := textsOf_at (f :: r) f.1 0 (by simp) (fun j hj => by omega) rfl

theorem textsOf_past {f : Fld} {r : List Fld} {n : ByteArray} (h : f.1 ≠ n) : textsOf (f :: r) n = textsOf r n := by
  unfold textsOf
  rw [List.find?_cons_of_neg (by simpa using h)]

theorem textsOf_nil (n : ByteArray) : textsOf [] n = [] := rfl

theorem textsOf_less {r : List Fld} {n : ByteArray} (h : ∀ m ∈ r.map (·.1), ltB n m = true) : textsOf r n = [] :=
  textsOf_out fun f hf e => by
    have := h f.1 (List.mem_map.2 ⟨f, hf, rfl⟩)
    rw [e, ltB_irrefl] at this
    cases this

theorem flat_same {G : List ByteArray} {a b a' b' : List Fld} (ha : ∀ n ∈ G, textsOf a n = textsOf a' n) (hb : ∀ n ∈ G, textsOf b n = textsOf b' n) :
    G.flatMap (fun n => changeE n (textsOf a n) (textsOf b n)) = G.flatMap fun n => changeE n (textsOf a' n) (textsOf b' n) := by
  induction G with
  | nil => rfl
  | cons g G ih =>
    rw [List.flatMap_cons, List.flatMap_cons, ha g (by simp), hb g (by simp), ih (fun n hn => ha n (by simp [hn])) (fun n hn => hb n (by simp [hn]))]

theorem change_wipe {n : ByteArray} {f : List ByteArray} (h : f ≠ []) : changeE n f [] = [(4, n, ⟨#[]⟩)] := by unfold changeE; rw [if_neg h, if_pos rfl]
theorem change_new {f : Fld} (h : f.2 ≠ []) : changeE f.1 [] f.2 = setsE f := by unfold changeE; rw [if_neg (Ne.symm h), if_neg h]

/-- The difference is that of the names, one behind the other. -/
theorem diff_names (a b : List Fld) (ha : Rising a) (hb : Rising b) (na : NoBare a) (nb : NoBare b) : diffE a b = (namesM a b).flatMap fun n => changeE n (textsOf a n) (textsOf b n) := by
  have lo : ∀ {m n : ByteArray}, ltB m n = true → m ≠ n := fun h => ltB_ne h
  induction a, b using namesM.induct with
  | case1 => simp [diffE, namesM]
  | case2 a ar ih =>
    have hl := namesM_low (a := ar) (b := []) (m := a.1) (fun n hn => rise_head ha hn) (fun n hn => by simp at hn)
    rw [namesM, diffE, List.flatMap_cons, ih (rise_tail ha) hb (fun f hf => na f (by simp [hf])) nb, textsOf_head, textsOf_nil, change_wipe (na a (by simp))]
    rw [flat_same (a' := a :: ar) (b' := []) (fun n hn => (textsOf_past (lo (hl n hn))).symm) (fun n hn => rfl)]
    rfl
  | case3 b br ih =>
    have hl := namesM_low (a := []) (b := br) (m := b.1) (fun n hn => by simp at hn) (fun n hn => rise_head hb hn)
    rw [namesM, diffE, List.flatMap_cons, ih ha (rise_tail hb) na (fun f hf => nb f (by simp [hf])), textsOf_head, textsOf_nil, change_new (nb b (by simp))]
    rw [flat_same (a' := []) (b' := b :: br) (fun n hn => rfl) (fun n hn => (textsOf_past (lo (hl n hn))).symm)]
  | case4 a ar b br h ih =>
    have hl := namesM_low (a := ar) (b := b :: br) (m := a.1) (fun n hn => rise_head ha hn) (rise_names hb h)
    rw [namesM, if_pos h, diffE, if_pos h, List.flatMap_cons, ih (rise_tail ha) hb (fun f hf => na f (by simp [hf])) nb, textsOf_head, textsOf_less (rise_names hb h), change_wipe (na a (by simp))]
    rw [flat_same (a' := a :: ar) (b' := b :: br) (fun n hn => (textsOf_past (lo (hl n hn))).symm) (fun n hn => rfl)]
    rfl
  | case5 a ar b br h h2 ih =>
    have hl := namesM_low (a := ar) (b := br) (m := a.1) (fun n hn => rise_head ha hn) (fun n hn => by rw [h2]; exact rise_head hb hn)
    have e : textsOf (b :: br) a.1 = b.2 := by rw [h2]; exact textsOf_head b br
    have e2 : changeE a.1 a.2 b.2 = if a.2 = b.2 then [] else setsE b := by
      unfold changeE
      rw [if_neg (nb b (by simp)), h2]
    rw [namesM, if_neg h, if_pos h2, diffE, if_neg h, if_pos h2, List.flatMap_cons, ih (rise_tail ha) (rise_tail hb) (fun f hf => na f (by simp [hf])) (fun f hf => nb f (by simp [hf])), textsOf_head, e, e2]
    rw [flat_same (a' := a :: ar) (b' := b :: br) (fun n hn => (textsOf_past (lo (hl n hn))).symm) (fun n hn => (textsOf_past (by rw [← h2]; exact lo (hl n hn))).symm)]
    split
    · rfl
    · rfl
  | case6 a ar b br h h2 ih =>
    have hl := namesM_low (a := a :: ar) (b := br) (m := b.1) (rise_names ha (lt_of_not h h2)) (fun n hn => rise_head hb hn)
    rw [namesM, if_neg h, if_neg h2, diffE, if_neg h, if_neg h2, List.flatMap_cons, ih ha (rise_tail hb) na (fun f hf => nb f (by simp [hf])), textsOf_head, textsOf_less (rise_names ha (lt_of_not h h2)), change_new (nb b (by simp))]
    rw [flat_same (a' := a :: ar) (b' := b :: br) (fun n hn => rfl) (fun n hn => (textsOf_past (lo (hl n hn))).symm)]

/-- .. and so by whatever list of the names that rises. -/
theorem diff_by {a b : List Fld} (ha : Rising a) (hb : Rising b) (na : NoBare a) (nb : NoBare b) {G : List ByteArray} (h1 : RisingR ltB G) (h2 : ∀ n, n ∈ G ↔ n ∈ a.map (·.1) ∨ n ∈ b.map (·.1)) :
    diffE a b = G.flatMap fun n => changeE n (textsOf a n) (textsOf b n) := by
  rw [diff_names a b ha hb na nb, rising_uniqR totB h1 (namesM_rising a b ha hb) fun n => (h2 n).trans (namesM_mem a b n).symm]

end Go.Proofs.YtelcongbnmfegabGreatDoor

/-
  The plain mathematics of terms: which may be, their order, and what is normal.
-/
namespace Go.Proofs.YtelcongbnmfegabGreatDoor
open Go.RowKit

/-- A term: its field's name, its operator, its text. -/
abbrev Tm := ByteArray × Int × ByteArray

def encM (x : Tm) : List Value := [.string x.1, .int .i64 x.2.1, .string x.2.2]

/-- Terms that a machine can hold. -/
def FitM (p : List Tm) : Prop := p.length ≤ maxLen ∧ ∀ x ∈ p, x.1.size ≤ maxLen ∧ x.2.2.size ≤ maxLen ∧ -9223372036854775808 ≤ x.2.1 ∧ x.2.1 ≤ 9223372036854775807

def rightM (x : Tm) : Bool := decide (1 ≤ x.2.1) && decide (x.2.1 ≤ 7) && (decide (x.2.1 < 6) || decide (x.2.2.size = 0))
def namedM (x : Tm) : Bool := fieldB x.1.data.toList
def shortM (x : Tm) : Bool := decide (x.2.2.size ≤ 128)
/-- What May answers. -/
def mayM (p : List Tm) : Int := if 8 < p.length then 5 else if p.all namedM = false then 2 else if p.all rightM = false then 1 else if p.all shortM = false then 5 else 0

/-- The order of terms. -/
def ltM (a b : Tm) : Bool := if a.1 ≠ b.1 then ltB a.1 b.1 else if a.2.1 ≠ b.2.1 then decide (a.2.1 < b.2.1) else ltB a.2.2 b.2.2

theorem ltM_irrefl (a : Tm) : ltM a a = false := by simp [ltM, ltB_irrefl]

theorem ltB_eq_false {a b : ByteArray} (h : ltB a b = true) : a ≠ b := by
  rintro rfl
  rw [ltB_irrefl] at h
  cases h

theorem ltM_cases (a b : Tm) : ltM a b = true ∨ a = b ∨ ltM b a = true := by
  obtain ⟨a1, a2, a3⟩ := a
  obtain ⟨b1, b2, b3⟩ := b
  unfold ltM
  simp only
  by_cases h1 : a1 = b1
  · subst h1
    by_cases h2 : a2 = b2
    · subst h2
      rcases ltB_cases a3 b3 with h | h | h
      · left; simpa using h
      · right; left; rw [h]
      · right; right; simpa using h
    · have h2' : b2 ≠ a2 := fun e => h2 e.symm
      rcases Int.lt_or_gt_of_ne h2 with h | h
      · left; simp [h2, h]
      · right; right; simp [h2', h]
  · have h1' : b1 ≠ a1 := fun e => h1 e.symm
    rcases ltB_cases a1 b1 with h | h | h
    · left; simp [h1, h]
    · exact absurd h h1
    · right; right; simp [h1', h]

theorem ltM_trans {a b c : Tm} (h : ltM a b = true) (k : ltM b c = true) : ltM a c = true := by
  obtain ⟨a1, a2, a3⟩ := a
  obtain ⟨b1, b2, b3⟩ := b
  obtain ⟨c1, c2, c3⟩ := c
  unfold ltM at *
  simp only at *
  by_cases h1 : a1 = b1
  · subst h1
    by_cases k1 : a1 = c1
    · subst k1
      simp only [ne_eq, not_true_eq_false, if_false] at *
      by_cases h2 : a2 = b2
      · subst h2
        by_cases k2 : a2 = c2
        · subst k2
          simp only [not_true_eq_false, if_false] at *
          exact ltB_trans h k
        · simp only [not_true_eq_false, if_false, k2, not_false_eq_true, if_true] at *
          exact k
      · by_cases k2 : b2 = c2
        · subst k2
          simp only [h2, not_false_eq_true, if_true] at *
          exact h
        · simp only [h2, k2, not_false_eq_true, if_true, decide_eq_true_eq] at h k
          have h3 : a2 ≠ c2 := by omega
          simp only [h3, not_false_eq_true, if_true, decide_eq_true_eq]
          omega
    · simp only [ne_eq, k1, not_false_eq_true, if_true] at *
      exact k
  · by_cases k1 : b1 = c1
    · subst k1
      simp only [ne_eq, h1, not_false_eq_true, if_true] at *
      exact h
    · simp only [ne_eq, h1, k1, not_false_eq_true, if_true] at h k
      have h3 : ltB a1 c1 = true := ltB_trans h k
      have h4 : a1 ≠ c1 := ltB_eq_false h3
      simp only [ne_eq, h4, not_false_eq_true, if_true]
      exact h3

theorem ltM_asymm {a b : Tm} (h : ltM a b = true) : ltM b a = false := by
  cases k : ltM b a with
  | false => rfl
  | true =>
    have := ltM_trans h k
    rw [ltM_irrefl] at this
    cases this

theorem ltM_ne {a b : Tm} (h : ltM a b = true) : a ≠ b := by
  rintro rfl
  rw [ltM_irrefl] at h
  cases h

def RisingM (l : List Tm) : Prop := l.Pairwise fun x y => ltM x y = true

/-- Rising lists of the same terms are one. -/
theorem rising_unique : ∀ (a b : List Tm), RisingM a → RisingM b → (∀ x, x ∈ a ↔ x ∈ b) → a = b
  | [], [], _, _, _ => rfl
  | [], y :: b, _, _, h => by have := (h y).2 (by simp); simp at this
  | x :: a, [], _, _, h => by have := (h x).1 (by simp); simp at this
  | x :: a, y :: b, ha, hb, h => by
    have ha' := List.pairwise_cons.1 ha
    have hb' := List.pairwise_cons.1 hb
    have hxy : x = y := by
      rcases List.mem_cons.1 ((h x).1 (by simp)) with e | e
      · exact e
      · rcases List.mem_cons.1 ((h y).2 (by simp)) with e2 | e2
        · exact e2.symm
        · have h1 := hb'.1 x e
          have h2 := ha'.1 y e2
          rw [ltM_asymm h1] at h2
          cases h2
    subst hxy
    congr 1
    refine rising_unique a b ha'.2 hb'.2 fun z => ⟨fun hz => ?_, fun hz => ?_⟩
    · rcases List.mem_cons.1 ((h z).1 (by simp [hz])) with e | e
      · exact absurd e.symm (ltM_ne (ha'.1 z hz))
      · exact e
    · rcases List.mem_cons.1 ((h z).2 (by simp [hz])) with e | e
      · exact absurd e.symm (ltM_ne (hb'.1 z hz))
      · exact e

/-- x put where it belongs, if it isn't there. -/
def insM (x : Tm) : List Tm → List Tm
  | [] => [x]
  | y :: l => if ltM x y then x :: y :: l else if x = y then y :: l else y :: insM x l

/-- The terms, rising, each once. -/
def sortM (p : List Tm) : List Tm := p.foldl (fun acc x => insM x acc) []

theorem mem_insM (x z : Tm) (l : List Tm) : z ∈ insM x l ↔ z = x ∨ z ∈ l := by
  induction l with
  | nil => simp [insM]
  | cons y l ih =>
    unfold insM
    split
    · simp
    · split
      · rename_i h; subst h; simp
      · simp [ih, or_left_comm]

theorem insM_rising (x : Tm) (l : List Tm) (h : RisingM l) : RisingM (insM x l) := by
  induction l with
  | nil => exact List.pairwise_singleton _ _
  | cons y l ih =>
    have h' := List.pairwise_cons.1 h
    unfold insM
    split
    · rename_i hlt
      refine List.pairwise_cons.2 ⟨fun z hz => ?_, h⟩
      rcases List.mem_cons.1 hz with rfl | hz
      · exact hlt
      · exact ltM_trans hlt (h'.1 z hz)
    · rename_i hlt
      split
      · exact h
      · rename_i hne
        refine List.pairwise_cons.2 ⟨fun z hz => ?_, ih h'.2⟩
        rcases (mem_insM x z l).1 hz with rfl | hz
        · rcases ltM_cases z y with h1 | h1 | h1
          · exact absurd h1 hlt
          · exact absurd h1 hne
          · exact h1
        · exact h'.1 z hz

theorem sortM_spec (p : List Tm) : RisingM (sortM p) ∧ ∀ x, x ∈ sortM p ↔ x ∈ p := by
  have : ∀ (l acc : List Tm), RisingM acc → RisingM (l.foldl (fun acc x => insM x acc) acc) ∧ ∀ x, x ∈ l.foldl (fun acc x => insM x acc) acc ↔ x ∈ acc ∨ x ∈ l := by
    intro l
    induction l with
    | nil => intro acc h; exact ⟨h, fun x => by simp⟩
    | cons y l ih =>
      intro acc h
      obtain ⟨h1, h2⟩ := ih (insM y acc) (insM_rising y acc h)
      refine ⟨h1, fun x => ?_⟩
      rw [List.foldl_cons, h2, mem_insM, List.mem_cons]
      constructor
      · rintro ((h | h) | h)
        · exact Or.inr (Or.inl h)
        · exact Or.inl h
        · exact Or.inr (Or.inr h)
      · rintro (h | h | h)
        · exact Or.inl (Or.inr h)
        · exact Or.inl (Or.inl h)
        · exact Or.inr h
  obtain ⟨h1, h2⟩ := this p [] List.Pairwise.nil
  exact ⟨h1, fun x => by rw [sortM, h2]; simp⟩

theorem sortM_unique {p l : List Tm} (h1 : RisingM l) (h2 : ∀ x, x ∈ l ↔ x ∈ p) : l = sortM p :=
  rising_unique _ _ h1 (sortM_spec p).1 fun x => (h2 x).trans ((sortM_spec p).2 x).symm

theorem sortM_len (p : List Tm) : (sortM p).length ≤ p.length := by
  have key : ∀ (x : Tm) (l : List Tm), (insM x l).length ≤ l.length + 1 := by
    intro x l
    induction l with
    | nil => simp [insM]
    | cons y l ih =>
      unfold insM
      split
      · simp
      · split
        · simp
        · simp; omega
  have : ∀ (l acc : List Tm), (l.foldl (fun acc x => insM x acc) acc).length ≤ acc.length + l.length := by
    intro l
    induction l with
    | nil => intro acc; simp
    | cons y l ih =>
      intro acc
      have h1 := ih (insM y acc)
      have h2 := key y acc
      rw [List.foldl_cons, List.length_cons]
      omega
  simpa [sortM] using this p []

theorem mayM_perm {p q : List Tm} (h : ∀ x, x ∈ p ↔ x ∈ q) (hl : p.length ≤ 8) (hm : q.length ≤ 8) : mayM p = mayM q := by
  have key : ∀ f : Tm → Bool, p.all f = q.all f := fun f => by
    rw [Bool.eq_iff_iff, List.all_eq_true, List.all_eq_true]
    exact ⟨fun H x hx => H x ((h x).2 hx), fun H x hx => H x ((h x).1 hx)⟩
  unfold mayM
  rw [if_neg (show ¬ 8 < p.length by omega), key namedM, key rightM, key shortM, if_neg (show ¬ 8 < q.length by omega)]

/-- What Norm answers. -/
def ansM (p : List Tm) : List Tm := if mayM p = 0 then sortM p else []

theorem mayM_zero {p : List Tm} (h : mayM p = 0) : p.length ≤ 8 ∧ p.all namedM = true ∧ p.all rightM = true ∧ p.all shortM = true := by
  unfold mayM at h
  split at h
  · omega
  · rename_i h1
    split at h
    · omega
    · rename_i h2
      split at h
      · omega
      · rename_i h3
        split at h
        · omega
        · rename_i h4
          exact ⟨by omega, by simpa using h2, by simpa using h3, by simpa using h4⟩

end Go.Proofs.YtelcongbnmfegabGreatDoor

/-
  The contracts of the reference's less, May and Same of terms.
-/
namespace Go.Proofs.YtelcongbnmfegabGreatDoor
open Go.RowKit

theorem all_snoc {p : List Tm} {f : Tm → Bool} {i : Nat} (h : i < p.length) : (p.take (i + 1)).all f = ((p.take i).all f && f p[i]) := by
  rw [List.take_succ_eq_append_getElem h, List.all_append]
  simp

end Go.Proofs.YtelcongbnmfegabGreatDoor

/-
  The contracts of the reference's Same and Norm of terms.
-/
namespace Go.Proofs.YtelcongbnmfegabGreatDoor
open Go.RowKit

/-- May x stand behind the first k of G? -/
def eligB (G : List Tm) (k : Nat) (x : Tm) : Bool := decide (k = 0) || ltM (G.getD (k - 1) default) x

/-- What the scan has found among the first i: where it stands, or -1. -/
def ScanM (G p : List Tm) (k i : Nat) (at_ : Int) : Prop :=
  (at_ = -1 ∧ ∀ j, (h : j < p.length) → j < i → eligB G k p[j] = false) ∨
  (∃ m : Nat, at_ = m ∧ m < i ∧ ∃ hm : m < p.length, eligB G k p[m] = true ∧ ∀ j, (h : j < p.length) → j < i → eligB G k p[j] = true → ltM p[j] p[m] = false)

theorem RisingM.get {o : List Tm} (h : RisingM o) {i j : Nat} (hij : i < j) (hj : j < o.length) : ltM (o[i]'(by omega)) (o[j]) = true :=
  List.pairwise_iff_getElem.1 h i j (by omega) hj hij

theorem elig_ge {G : List Tm} (h : RisingM G) {k m : Nat} (hk : k ≤ G.length) (hm : m < G.length) : eligB G k G[m] = true ↔ k ≤ m := by
  unfold eligB
  constructor
  · intro he
    rw [Bool.or_eq_true] at he
    rcases he with he | he
    · have := of_decide_eq_true he; omega
    · refine Nat.le_of_not_lt fun hlt => ?_
      rw [List.getD_eq_getElem?_getD, List.getElem?_eq_getElem (show k - 1 < G.length by omega)] at he
      by_cases e : m = k - 1
      · subst e
        rw [Option.getD_some, ltM_irrefl] at he
        cases he
      · have := h.get (show m < k - 1 by omega) (by omega)
        rw [Option.getD_some] at he
        rw [ltM_asymm this] at he
        cases he
  · intro hkm
    by_cases h0 : k = 0
    · rw [decide_eq_true h0]; rfl
    · rw [Bool.or_eq_true]
      right
      rw [List.getD_eq_getElem?_getD, List.getElem?_eq_getElem (show k - 1 < G.length by omega), Option.getD_some]
      exact h.get (by omega) hm

theorem scan_end {G p : List Tm} (h1 : RisingM G) (h2 : ∀ x, x ∈ G ↔ x ∈ p) {k : Nat} (hk : k ≤ G.length) {at_ : Int} (hs : ScanM G p k p.length at_) :
    (at_ = -1 ∧ k = G.length) ∨ (∃ m : Nat, at_ = m ∧ ∃ hm : m < p.length, ∃ hg : k < G.length, p[m] = G[k]) := by
  rcases hs with ⟨e, hn⟩ | ⟨m, e, _, hm, he, hl⟩
  · left
    refine ⟨e, ?_⟩
    by_cases hkl : k = G.length
    · exact hkl
    · exfalso
      have hlt : k < G.length := by omega
      obtain ⟨j, hj, ej⟩ := List.mem_iff_getElem.1 ((h2 G[k]).1 (List.getElem_mem hlt))
      have := hn j hj hj
      rw [ej, (elig_ge h1 hk hlt).2 (Nat.le_refl _)] at this
      cases this
  · right
    obtain ⟨a, ha, ea⟩ := List.mem_iff_getElem.1 ((h2 p[m]).2 (List.getElem_mem hm))
    have hka : k ≤ a := by
      rw [← ea] at he
      exact (elig_ge h1 hk ha).1 he
    refine ⟨m, e, hm, by omega, ?_⟩
    by_cases hlt : k < a
    · exfalso
      obtain ⟨j, hj, ej⟩ := List.mem_iff_getElem.1 ((h2 G[k]).1 (List.getElem_mem (by omega)))
      have := hl j hj hj (by rw [ej]; exact (elig_ge h1 hk (by omega)).2 (Nat.le_refl _))
      rw [ej, ← ea, h1.get hlt ha] at this
      cases this
    · obtain rfl : a = k := by omega
      exact ea.symm

theorem scan_zero (G p : List Tm) (k : Nat) : ScanM G p k 0 (-1) := Or.inl ⟨rfl, fun j _ h => by omega⟩

theorem scan_skip {G p : List Tm} {k i : Nat} {a : Int} (h : ScanM G p k i a) (hi : i < p.length) (he : eligB G k p[i] = false) : ScanM G p k (i + 1) a := by
  rcases h with ⟨e, hn⟩ | ⟨m, e, hm1, hm, hme, hl⟩
  · refine Or.inl ⟨e, fun j hj hji => ?_⟩
    by_cases ej : j = i
    · subst ej; exact he
    · exact hn j hj (by omega)
  · refine Or.inr ⟨m, e, by omega, hm, hme, fun j hj hji hje => ?_⟩
    by_cases ej : j = i
    · subst ej; rw [he] at hje; cases hje
    · exact hl j hj (by omega) hje

theorem scan_first {G p : List Tm} {k i : Nat} (h : ScanM G p k i (-1)) (hi : i < p.length) (he : eligB G k p[i] = true) : ScanM G p k (i + 1) (i : Int) := by
  rcases h with ⟨_, hn⟩ | ⟨m, e, _⟩
  · refine Or.inr ⟨i, rfl, by omega, hi, he, fun j hj hji hje => ?_⟩
    by_cases ej : j = i
    · subst ej; exact ltM_irrefl _
    · rw [hn j hj (by omega)] at hje; cases hje
  · omega

theorem scan_less {G p : List Tm} {k i m : Nat} (h : ScanM G p k i (m : Int)) (hi : i < p.length) (hm : m < p.length) (he : eligB G k p[i] = true) (hl : ltM p[i] p[m] = true) : ScanM G p k (i + 1) (i : Int) := by
  rcases h with ⟨e, _⟩ | ⟨m', e, _, _, _, hll⟩
  · omega
  · obtain rfl : m = m' := by omega
    refine Or.inr ⟨i, rfl, by omega, hi, he, fun j hj hji hje => ?_⟩
    by_cases ej : j = i
    · subst ej; exact ltM_irrefl _
    · have := hll j hj (by omega) hje
      cases hc : ltM p[j] p[i] with
      | false => rfl
      | true => rw [ltM_trans hc hl] at this; cases this

theorem scan_keep {G p : List Tm} {k i m : Nat} (h : ScanM G p k i (m : Int)) (hi : i < p.length) (hm : m < p.length) (hl : ltM p[i] p[m] = false) : ScanM G p k (i + 1) (m : Int) := by
  rcases h with ⟨e, _⟩ | ⟨m', e, h1, h2, h3, hll⟩
  · omega
  · obtain rfl : m = m' := by omega
    refine Or.inr ⟨m, rfl, by omega, h2, h3, fun j hj hji hje => ?_⟩
    by_cases ej : j = i
    · subst ej; exact hl
    · exact hll j hj (by omega) hje

theorem scan_is {G p : List Tm} {k i : Nat} {a : Int} (h : ScanM G p k i a) : a = -1 ∨ ∃ m : Nat, a = m ∧ m < p.length := by
  rcases h with ⟨e, _⟩ | ⟨m, e, _, hm, _⟩
  · exact Or.inl e
  · exact Or.inr ⟨m, e, hm⟩

end Go.Proofs.YtelcongbnmfegabGreatDoor

/-
  The contract of the reference's Norm of terms.
-/
namespace Go.Proofs.YtelcongbnmfegabGreatDoor
open Go.RowKit

end Go.Proofs.YtelcongbnmfegabGreatDoor

/-
  Rows of terms: one written over, cut short, sorted; the order as compare has it; what is left of a sorted row without its doubles.
-/
namespace Go.Proofs.YtelcongbnmfegabGreatDoor
open Go.RowKit Go.Sort Go.Lib

theorem Kind.cells_set {α : Type} (K : Kind α) (d : List α) (i : Nat) (h : i < d.length) (x : α) (j : Nat) : (K.cells (d.set i x))[j]? = if i * K.k ≤ j ∧ j < i * K.k + K.k then (K.enc x)[j - i * K.k]? else (K.cells d)[j]? := by
  by_cases hj : j < d.length * K.k
  · have hkp := K.pos
    have hq : j / K.k < d.length := (Nat.div_lt_iff_lt_mul hkp).2 hj
    have hm : j % K.k < K.k := Nat.mod_lt _ hkp
    have e : j / K.k * K.k + j % K.k = j := by rw [Nat.mul_comm]; exact Nat.div_add_mod j K.k
    have h1 := K.cells_get (d.set i x) (j / K.k) (by simpa using hq) (j % K.k) hm
    have h2 := K.cells_get d (j / K.k) hq (j % K.k) hm
    rw [e] at h1 h2
    rw [h1, h2, List.getElem_set]
    by_cases hi : i = j / K.k
    · rw [if_pos hi, if_pos (by rw [hi]; omega), hi]
      congr 1
      omega
    · rw [if_neg hi, if_neg]
      intro hh
      exact hi ((blk_iff K.k i j hkp).1 hh).symm
  · have h3 : (i + 1) * K.k ≤ d.length * K.k := Nat.mul_le_mul_right _ h
    rw [Nat.add_mul, Nat.one_mul] at h3
    rw [if_neg (by omega), List.getElem?_eq_none (by rw [K.cells_len, List.length_set]; omega), List.getElem?_eq_none (by rw [K.cells_len]; omega)]

theorem grown_sets {g : Nat} (vs : List Value) : ∀ (w w0 : World) (o : Nat), w0.grownBy w (some g) → w0.grownBy (w.setCells g o vs) (some g) := by
  induction vs with
  | nil => intro w w0 o h; exact h
  | cons v vs ih => intro w w0 o h; rw [World.setCells]; exact ih _ _ _ (grown_trans h (grown_set w g o v))

theorem below_sortM {B : Nat} {w0 w : World} (h : Below B w0 w) (hB : B ≤ w.heap.size) (blk off n : Nat) (d : Array Tm) (os : Array Obj) (hb : B ≤ blk) : Below B w0 (sortWorldK encM 3 w blk off n d os) := by
  refine h.trans ⟨rfl, rfl, rfl, ?_, ?_⟩
  · simp [sortWorldK, putRowK]
  · intro k hk
    have hks : k < w.heap.size := by omega
    simp only [sortWorldK, Sort.grow, putRowK, putRow, mapBlock, Sort.ahead]
    rw [Array.getElem?_append_left (by simpa using hks), Array.getElem?_modify, if_neg (by omega)]

/-- What compare answers. -/
def cmpM (x y : Tm) : Int := pairI (Lib.compareBytes x.1.data.toList y.1.data.toList) (pairI (Lib.compareInt x.2.1 y.2.1) (Lib.compareBytes x.2.2.data.toList y.2.2.data.toList))

theorem pairI_zero (y : Int) : pairI 0 y = y := rfl
theorem pairI_ne {x : Int} (h : x ≠ 0) (y : Int) : pairI x y = x := by unfold pairI; rw [if_neg h]

theorem cmpM_lt (x y : Tm) : ltOf cmpM x y = ltM x y := by
  obtain ⟨a1, a2, a3⟩ := x
  obtain ⟨b1, b2, b3⟩ := y
  show decide (pairI (Lib.compareBytes a1.data.toList b1.data.toList) (pairI (Lib.compareInt a2 b2) (Lib.compareBytes a3.data.toList b3.data.toList)) < 0) = if a1 ≠ b1 then ltB a1 b1 else if a2 ≠ b2 then decide (a2 < b2) else ltB a3 b3
  by_cases h1 : a1 = b1
  · subst h1
    rw [if_neg (show ¬ (a1 ≠ a1) by simp), cb_self, pairI_zero]
    by_cases h2 : a2 = b2
    · subst h2
      have hc : Lib.compareInt a2 a2 = 0 := by unfold Lib.compareInt; simp
      rw [if_neg (show ¬ (a2 ≠ a2) by simp), hc, pairI_zero]
      rfl
    · rw [if_pos h2]
      rcases Int.lt_or_gt_of_ne h2 with h | h
      · have hc : Lib.compareInt a2 b2 = -1 := by unfold Lib.compareInt; simp [h]
        rw [hc, pairI_ne (by decide)]
        simp [h]
      · have hn : ¬ a2 < b2 := by omega
        have hc : Lib.compareInt a2 b2 = 1 := by unfold Lib.compareInt; simp [hn, h]
        rw [hc, pairI_ne (by decide)]
        simp [hn]
  · have hc : Lib.compareBytes a1.data.toList b1.data.toList ≠ 0 := fun e => h1 (ba_eq ((cb_zero _ _).1 e))
    rw [if_pos h1, pairI_ne hc]
    rfl

theorem swoM : SWO (ltOf cmpM) where
  irrefl x := by rw [cmpM_lt]; exact ltM_irrefl x
  trans x y z h1 h2 := by rw [cmpM_lt] at *; exact ltM_trans h1 h2
  ntrans x y z h1 h2 := by
    rw [cmpM_lt] at *
    cases h : ltM x z with
    | false => rfl
    | true =>
      rcases ltM_cases x y with h3 | h3 | h3
      · rw [h1] at h3; cases h3
      · rw [h3, h2] at h; cases h
      · rw [ltM_trans h3 h] at h2; cases h2

/-- A sorted row without its doubles is rising. -/
theorem compact_sorted {d : Array Tm} (hs : SortedIn (ltOf cmpM) 0 d.size d) : RisingM (compactUpTo d d.size) ∧ ∀ x, x ∈ compactUpTo d d.size ↔ x ∈ d.toList := by
  have hle : ∀ i j, i ≤ j → j < d.size → ltM d[j]! d[i]! = false := by
    intro i j hij hj
    rcases Nat.lt_or_ge i j with h | h
    · have := hs i j (Nat.zero_le _) h hj
      rwa [cmpM_lt] at this
    · obtain rfl : i = j := by omega
      exact ltM_irrefl _
  have key : ∀ m, m ≤ d.size → RisingM (compactUpTo d m) ∧ ∀ x, x ∈ compactUpTo d m ↔ ∃ j, j < m ∧ d[j]! = x := by
    intro m
    induction m with
    | zero => intro _; exact ⟨List.Pairwise.nil, fun x => by simp [compactUpTo]⟩
    | succ m ih =>
      intro hm
      obtain ⟨h1, h2⟩ := ih (by omega)
      rw [compactUpTo_succ]
      cases hk : keeps d m with
      | true =>
        rw [if_pos rfl]
        constructor
        · refine List.pairwise_append.2 ⟨h1, List.pairwise_singleton _ _, fun x hx y hy => ?_⟩
          rw [List.mem_singleton] at hy
          subst hy
          obtain ⟨j, hj, rfl⟩ := (h2 x).1 hx
          have hne : d[m]! ≠ d[m - 1]! := by
            unfold keeps at hk
            rcases of_decide_eq_true hk with h | h
            · omega
            · exact h
          have ha := hle j (m - 1) (by omega) (by omega)
          have hb := hle (m - 1) m (by omega) (by omega)
          rcases ltM_cases d[j]! d[m]! with h | h | h
          · exact h
          · rw [h] at ha
            rcases ltM_cases d[m - 1]! d[m]! with h' | h' | h'
            · rw [ha] at h'; cases h'
            · exact absurd h'.symm hne
            · rw [hb] at h'; cases h'
          · rw [hle j m (by omega) (by omega)] at h; cases h
        · intro x
          rw [List.mem_append, List.mem_singleton, h2]
          constructor
          · rintro (⟨j, hj, e⟩ | e)
            · exact ⟨j, by omega, e⟩
            · exact ⟨m, by omega, e.symm⟩
          · rintro ⟨j, hj, e⟩
            by_cases hjm : j = m
            · subst hjm; exact Or.inr e.symm
            · exact Or.inl ⟨j, by omega, e⟩
      | false =>
        rw [if_neg (by simp), List.append_nil]
        refine ⟨h1, fun x => ?_⟩
        rw [h2]
        constructor
        · rintro ⟨j, hj, e⟩
          exact ⟨j, by omega, e⟩
        · rintro ⟨j, hj, e⟩
          by_cases hjm : j = m
          · subst hjm
            have hh : ¬ (j = 0 ∨ d[j]! ≠ d[j - 1]!) := by unfold keeps at hk; exact of_decide_eq_false hk
            have h0 : j ≠ 0 := fun e => hh (Or.inl e)
            have h3 : d[j]! = d[j - 1]! := Classical.byContradiction fun e => hh (Or.inr e)
            exact ⟨j - 1, by omega, by rw [← h3]; exact e⟩
          · exact ⟨j, by omega, e⟩
  obtain ⟨h1, h2⟩ := key d.size (Nat.le_refl _)
  refine ⟨h1, fun x => (h2 x).trans ?_⟩
  rw [List.mem_iff_getElem]
  constructor
  · rintro ⟨j, hj, e⟩
    exact ⟨j, by simpa using hj, by rw [← e, getElem!_pos d j hj]; simp⟩
  · rintro ⟨j, hj, e⟩
    have hj' : j < d.size := by simpa using hj
    exact ⟨j, hj', by rw [getElem!_pos d j hj', ← e]; simp⟩

end Go.Proofs.YtelcongbnmfegabGreatDoor

/-
  An element written over in a row of its own, for elements of one cell and of two.
-/
namespace Go.Proofs.YtelcongbnmfegabGreatDoor
open Go.RowKit Go.Lib

theorem Kind.set2 {α : Type} {K : Kind α} (hk : K.k = 2) (d : List α) (i : Nat) (h : i < d.length) (x : α) (a b : Value) (he : K.enc x = [a, b]) : K.cells (d.set i x) = ((K.cells d).set (i * 2) a).set (i * 2 + 1) b := by
  apply List.ext_getElem?
  intro j
  rw [K.cells_set d i h x j]
  have hl : (K.cells d).length = d.length * 2 := by rw [K.cells_len, hk]
  rw [hk, he]
  simp only [List.getElem?_set, List.length_set, hl]
  by_cases h0 : j = i * 2
  · subst h0
    simp
    omega
  · by_cases h1 : j = i * 2 + 1
    · subst h1
      simp
      omega
    · rw [if_neg (by omega), if_neg (fun e => h1 e.symm), if_neg (fun e => h0 e.symm)]

theorem Kind.set1 {α : Type} {K : Kind α} (hk : K.k = 1) (d : List α) (i : Nat) (h : i < d.length) (x : α) (a : Value) (he : K.enc x = [a]) : K.cells (d.set i x) = (K.cells d).set i a := by
  apply List.ext_getElem?
  intro j
  rw [K.cells_set d i h x j]
  have hl : (K.cells d).length = d.length := by rw [K.cells_len, hk, Nat.mul_one]
  rw [hk, he]
  simp only [List.getElem?_set, hl, Nat.mul_one]
  by_cases h0 : j = i
  · subst h0
    simp
    omega
  · rw [if_neg (by omega), if_neg (fun e => h0 e.symm)]

/-- An element of two cells written over. -/
theorem Kind.own_put2 {α : Type} {K : Kind α} (hk : K.k = 2) {n0 g n cap : Nat} {w : World} {d : List α} (h : K.Own n0 w (.slice (some ⟨g, 0, none⟩) n cap) d) (hn : d.length = n) (i : Nat) (hi : i < d.length) (x : α) (a b : Value) (he : K.enc x = [a, b]) :
    K.Own n0 ((w.setCell ⟨g, i * 2, none⟩ a).setCell ⟨g, i * 2 + 1, none⟩ b) (.slice (some ⟨g, 0, none⟩) n cap) (d.set i x) := by
  subst hn
  have h1 := World.ownsRow.stored h (i * 2) a
  have h2 := World.ownsRow.stored h1.1 (i * 2 + 1) b
  unfold Kind.Own
  rw [Kind.set2 hk d i hi x a b he, List.length_set]
  exact h2.1

/-- An element of one cell written over. -/
theorem Kind.own_put1 {α : Type} {K : Kind α} (hk : K.k = 1) {n0 g n cap : Nat} {w : World} {d : List α} (h : K.Own n0 w (.slice (some ⟨g, 0, none⟩) n cap) d) (hn : d.length = n) (i : Nat) (hi : i < d.length) (x : α) (a : Value) (he : K.enc x = [a]) :
    K.Own n0 (w.setCell ⟨g, i, none⟩ a) (.slice (some ⟨g, 0, none⟩) n cap) (d.set i x) := by
  subst hn
  have h1 := World.ownsRow.stored h i a
  unfold Kind.Own
  rw [Kind.set1 hk d i hi x a he, List.length_set]
  exact h1.1

/-- A row that is not empty lies in a block of its own, whose cells may be written. -/
theorem Kind.own_form {α : Type} {K : Kind α} {n0 n c : Nat} {w : World} {q : Option Addr} {d : List α} (h : K.Own n0 w (.slice q n c) d) (h0 : 0 < d.length) : ∃ g, q = some ⟨g, 0, none⟩ ∧ n0 ≤ g ∧ d.length = n ∧ K.At w g 0 d ∧ ∀ j, w.frozen? ⟨g, j, none⟩ = false := by
  rcases h.2 with ⟨_, h1⟩ | ⟨g, cap, cur, hv, hb, hg, _⟩
  · omega
  · injection hv with h1 h2 h3
    subst h1
    obtain ⟨p, c', he, hd⟩ := Kind.own_is h
    injection he with e1 e2 e3
    rcases hd with hd | ⟨b, off, hp, hat⟩
    · rw [hd] at h0; simp at h0
    · rw [← e1] at hp
      injection hp with hp
      injection hp with hp1 hp2
      subst hp1 hp2
      exact ⟨g, rfl, hb, h2.symm, hat, fun j => Lib.frozen_of_heap hg _⟩

/-- One more in its place, by shifting: what a list is between two rounds of the shift. -/
theorem shift_step {α : Type} (l : List α) (y : α) (p i : Nat) (hp : p < i) (hi : i ≤ l.length) :
    (l.take i ++ y :: l.drop i).set i (l[i - 1]'(by omega)) = l.take (i - 1) ++ (l[i - 1]'(by omega)) :: l.drop (i - 1) := by
  obtain ⟨k, rfl⟩ : ∃ k, i = k + 1 := ⟨i - 1, by omega⟩
  have hk : k < l.length := by omega
  apply List.ext_getElem?
  intro j
  have h1 : (l.take (k + 1)).length = k + 1 := by rw [List.length_take]; omega
  have h2 : (l.take k).length = k := by rw [List.length_take]; omega
  simp only [Nat.add_sub_cancel]
  rw [List.getElem?_set]
  by_cases hj : k + 1 = j
  · subst hj
    rw [if_pos rfl, if_pos (by rw [List.length_append, h1]; simp), List.getElem?_append_right (by omega), h2]
    simp [List.getElem?_drop, hk]
  · rw [if_neg hj]
    by_cases hlt : j < k
    · rw [List.getElem?_append_left (by omega), List.getElem?_append_left (by omega), List.getElem?_take, List.getElem?_take, if_pos (by omega), if_pos hlt]
    · by_cases he : j = k
      · subst he
        rw [List.getElem?_append_left (by omega), List.getElem?_append_right (by omega), h2, List.getElem?_take, if_pos (by omega)]
        simp [hk]
      · have hgt : k + 1 < j := by omega
        obtain ⟨m, rfl⟩ : ∃ m, j = k + 2 + m := ⟨j - (k + 2), by omega⟩
        rw [List.getElem?_append_right (by omega), List.getElem?_append_right (by omega), h1, h2, show k + 2 + m - (k + 1) = m + 1 by omega, show k + 2 + m - k = m + 1 + 1 by omega, List.getElem?_cons_succ, List.getElem?_cons_succ, List.getElem?_drop, List.getElem?_drop]
        congr 1
        omega

end Go.Proofs.YtelcongbnmfegabGreatDoor

/-
  Rows of texts and keys; rows cut short, sorted, written behind their end, whatever their kind.
-/
namespace Go.Proofs.YtelcongbnmfegabGreatDoor
open Go.RowKit Go.Sort Go.Lib
def encKy (x : Ky) : List Value := [.string x.1, .string x.2]
theorem kt_cells (d : List ByteArray) : KT.cells d = d.map Value.string := by
  induction d with
  | nil => rfl
  | cons x d ih =>
    have : KT.cells (x :: d) = Value.string x :: KT.cells d := rfl
    rw [this, ih]; rfl

theorem kt_own {n0 : Nat} {w : World} {v : Value} {d : List ByteArray} : KT.Own n0 w v d ↔ OwnT n0 w v d := by
  unfold Kind.Own OwnT
  rw [kt_cells]
  rfl

theorem kt_at {w : World} {b off : Nat} {d : List ByteArray} : KT.At w b off d ↔ ∀ i, (h : i < d.length) → w.cell? ⟨b, off + i, none⟩ = some (.string d[i]) := by
  constructor
  · intro h i hi
    have := h i hi 0 (.string d[i]) rfl
    have e : off + i * KT.k + 0 = off + i := by show off + i * 1 + 0 = _; omega
    rwa [e] at this
  · intro h i hi j u hu
    have hj : j = 0 := by
      have := (List.getElem?_eq_some_iff.1 hu).1
      have hl : (KT.enc d[i]).length = 1 := rfl
      omega
    subst hj
    have e : off + i * KT.k + 0 = off + i := by show off + i * 1 + 0 = _; omega
    rw [e, h i hi]
    exact hu

theorem kt_txt {w : World} {p : Option Addr} {d : List ByteArray} : TxtAt w p d ↔ (d = [] ∨ ∃ b off, p = some ⟨b, off, none⟩ ∧ KT.At w b off d) := by
  unfold TxtAt
  constructor
  · rintro (h | ⟨b, off, hp, h⟩)
    · exact Or.inl h
    · exact Or.inr ⟨b, off, hp, kt_at.2 h⟩
  · rintro (h | ⟨b, off, hp, h⟩)
    · exact Or.inl h
    · exact Or.inr ⟨b, off, hp, kt_at.1 h⟩

theorem Kind.take_cells {α : Type} (K : Kind α) : ∀ (d : List α) (k : Nat), K.cells (d.take k) = (K.cells d).take (k * K.k)
  | [], k => by simp [Kind.cells]
  | x :: d, 0 => by simp [Kind.cells]
  | x :: d, k + 1 => by
    have e1 : K.cells (x :: d) = K.enc x ++ K.cells d := rfl
    have e2 : K.cells ((x :: d).take (k + 1)) = K.enc x ++ K.cells (d.take k) := rfl
    have h1 : (K.enc x).take (k * K.k + K.k) = K.enc x := List.take_of_length_le (by rw [K.len]; omega)
    rw [e1, e2, K.take_cells d k, Nat.add_mul, Nat.one_mul, List.take_append, h1, K.len, Nat.add_sub_cancel]

/-- The row cut short. -/
theorem Kind.own_cut {α : Type} {K : Kind α} {n0 g n cap : Nat} {w : World} {d : List α} (h : K.Own n0 w (.slice (some ⟨g, 0, none⟩) n cap) d) (k : Nat) (hk : k ≤ d.length) :
    K.Own n0 w (.slice (some ⟨g, 0, none⟩) k cap) (d.take k) := by
  have hl : (d.take k).length = k := by rw [List.length_take]; omega
  rcases h.2 with ⟨hv, _⟩ | ⟨g', cap', cur, hv, h1, h2, h3, h4, h5, h6⟩
  · cases hv
  · injection hv with e1 e2 e3
    injection e1 with e1
    injection e1 with e1 _ _
    subst e1 e3
    refine ⟨by rw [K.cells_len], Or.inr ⟨g, cap, cur, by rw [hl], h1, h2, by rw [hl]; omega, h4, h5, ?_⟩⟩
    rw [hl, K.take_cells, ← h6, List.take_take]
    congr 1
    have := Nat.mul_le_mul_right K.k hk
    omega

/-- Cells behind the row's end written over. -/
theorem Kind.own_past {α : Type} {K : Kind α} {n0 g n cap : Nat} {d : List α} (vs : List Value) : ∀ (w : World) (o : Nat), K.Own n0 w (.slice (some ⟨g, 0, none⟩) n cap) d → d.length = n → n * K.k ≤ o → K.Own n0 (w.setCells g o vs) (.slice (some ⟨g, 0, none⟩) n cap) d := by
  induction vs with
  | nil => intro w o h _ _; exact h
  | cons v vs ih =>
    intro w o h hn ho
    rw [World.setCells]
    refine ih _ _ ?_ hn (by omega)
    subst hn
    have h1 := (World.ownsRow.stored h o v).1
    rw [List.set_eq_of_length_le (by rw [K.cells_len]; exact ho)] at h1
    exact h1

theorem Kind.flat {α : Type} [Inhabited α] (K : Kind α) (d : List α) (t : Nat) (h : t < d.length * K.k) : (K.cells d)[t]? = some (K.enc d[t / K.k]!)[t % K.k]! := by
  have hq : t / K.k < d.length := (Nat.div_lt_iff_lt_mul K.pos).2 h
  have hm : t % K.k < K.k := Nat.mod_lt _ K.pos
  have e : t / K.k * K.k + t % K.k = t := by rw [Nat.mul_comm]; exact Nat.div_add_mod t K.k
  have h1 := K.cells_get d (t / K.k) hq (t % K.k) hm
  rw [e] at h1
  rw [h1, getElem!_pos d (t / K.k) hq, List.getElem?_eq_getElem (by rw [K.len]; exact hm), getElem!_pos _ _ (by rw [K.len]; exact hm)]

theorem Kind.own_holds {α : Type} [Inhabited α] {K : Kind α} {n0 g n cap : Nat} {w : World} {d : List α} (h : K.Own n0 w (.slice (some ⟨g, 0, none⟩) n cap) d) : HoldsK K.enc K.k w g 0 d.toArray := by
  rcases h.2 with ⟨hv, _⟩ | ⟨g', cap', cur, hv, h1, h2, h3, h4, h5, h6⟩
  · cases hv
  · injection hv with e1 e2 e3
    injection e1 with e1
    injection e1 with e1 _ _
    subst e1
    intro j hj
    rw [size_flatK] at hj
    have hj' : j < d.length * K.k := by simpa using hj
    have hg := K.flat d j hj'
    rw [← h6, List.getElem?_take_of_lt hj'] at hg
    rw [get_flatK _ _ _ _ hj]
    constructor
    · simp only [World.cell?, h2, Nat.zero_add]
      have hq : j / K.k < d.length := (Nat.div_lt_iff_lt_mul K.pos).2 hj'
      have he : d[j / K.k]! = d.toArray[j / K.k]! := by
        rw [getElem!_pos d (j / K.k) hq, getElem!_pos d.toArray (j / K.k) (by simpa using hq)]; simp
      rw [← Array.getElem?_toList, hg, he]
      rfl
    · simp [World.frozen?, h2]

theorem below_sortK {α : Type} [Inhabited α] (enc : α → List Value) (k : Nat) {B : Nat} {w0 w : World} (h : Below B w0 w) (hB : B ≤ w.heap.size) (blk off n : Nat) (d : Array α) (os : Array Obj) (hb : B ≤ blk) : Below B w0 (sortWorldK enc k w blk off n d os) := by
  refine h.trans ⟨rfl, rfl, rfl, ?_, ?_⟩
  · simp [sortWorldK, putRowK]
  · intro k' hk
    have hks : k' < w.heap.size := by omega
    simp only [sortWorldK, Sort.grow, putRowK, putRow, mapBlock, Sort.ahead]
    rw [Array.getElem?_append_left (by simpa using hks), Array.getElem?_modify, if_neg (by omega)]

/-- A row whose elements have been put in another order. -/
theorem Kind.own_sorted {α : Type} [Inhabited α] {K : Kind α} {n0 g n cap : Nat} {w : World} {d : List α} (h : K.Own n0 w (.slice (some ⟨g, 0, none⟩) n cap) d) (e : Array α) (he : e.size = d.length) (m : Nat) (os : Array Obj) :
    K.Own n0 (sortWorldK K.enc K.k w g 0 m e os) (.slice (some ⟨g, 0, none⟩) n cap) e.toList := by
  have hH := K.own_holds h
  rcases h.2 with ⟨hv, _⟩ | ⟨g', cap', cur, hv, h1, h2, h3, h4, h5, h6⟩
  · cases hv
  · injection hv with e1 e2 e3
    injection e1 with e1
    injection e1 with e1 _ _
    subst e1 e2 e3
    have hgl := (Array.getElem?_eq_some_iff.1 h2).1
    have hl : e.toList.length = d.length := by simpa using he
    have hheap : (sortWorldK K.enc K.k w g 0 m e os).heap[g]? = some (.cells (putCells id 0 (flatK K.enc K.k e) cur) K.T (0, 0)) := by
      simp only [sortWorldK, Sort.grow, putRowK, putRow, mapBlock, Sort.ahead]
      rw [Array.getElem?_append_left (by simpa using hgl), Array.getElem?_modify, if_pos rfl, h2]
      rfl
    have hH2 : HoldsK K.enc K.k (sortWorldK K.enc K.k w g 0 m e os) g 0 e := by
      exact holdsK_grow K.enc K.k _ os g 0 _ (by simpa [putRowK] using hgl) (holdsK_putRowK K.enc K.k (Sort.ahead w m) g 0 _ _ (holdsK_ahead K.enc K.k w m g 0 _ hH) (by simpa using he))
    have hsz : (putCells id 0 (flatK K.enc K.k e) cur).size = cur.size := by simp [putCells]
    refine ⟨by rw [K.cells_len], Or.inr ⟨g, cap, _, by rw [hl], h1, hheap, by rw [hl]; exact h3, h4, by rw [hsz]; exact h5, ?_⟩⟩
    apply List.ext_getElem?
    intro j
    rw [hl, List.getElem?_take]
    by_cases hj : j < d.length * K.k
    · have hje : j < e.size * K.k := by rw [he]; exact hj
      rw [if_pos hj, K.flat e.toList j (by rw [hl]; exact hj)]
      have := (hH2 j (by rw [size_flatK]; exact hje)).1
      rw [get_flatK _ _ _ _ (by first | exact hje | (rw [size_flatK]; exact hje))] at this
      simp only [World.cell?, hheap, Nat.zero_add] at this
      simp only [Option.isSome_none, Bool.false_eq_true, if_false] at this
      rw [Array.getElem?_toList, this]
      have hq : j / K.k < e.size := (Nat.div_lt_iff_lt_mul K.pos).2 hje
      have he2 : e.toList[j / K.k]! = e[j / K.k]! := by
        rw [getElem!_pos e (j / K.k) hq, getElem!_pos e.toList (j / K.k) (by simpa using hq)]; simp
      rw [he2]
      rfl
    · rw [if_neg hj, List.getElem?_eq_none]
      rw [K.cells_len, hl]
      omega

theorem Kind.own_ge {α : Type} {K : Kind α} {n0 g n cap : Nat} {w : World} {d : List α} (h : K.Own n0 w (.slice (some ⟨g, 0, none⟩) n cap) d) : n0 ≤ g ∧ g < w.heap.size ∧ d.length ≤ cap ∧ cap ≤ maxLen := by
  rcases h.2 with ⟨hv, _⟩ | ⟨g', cap', cur, hv, h1, h2, h3, h4, _⟩
  · cases hv
  · injection hv with e1 e2 e3
    injection e1 with e1
    injection e1 with e1 _ _
    subst e1 e3
    exact ⟨h1, (Array.getElem?_eq_some_iff.1 h2).1, h3, h4⟩

theorem Kind.own_drew {α : Type} {K : Kind α} {n0 : Nat} {w : World} {v : Value} {d : List α} (h : K.Own n0 w v d) (q : Nat) : K.Own n0 (w.drewN q) v d := h

theorem Kind.own_some {α : Type} [Inhabited α] {K : Kind α} {n0 g n cap : Nat} {w : World} {d : List α} (h : K.Own n0 w (.slice (some ⟨g, 0, none⟩) n cap) d) (t : Nat) (ht : t < d.length * K.k) :
    (w.cell? ⟨g, t, none⟩).isSome = true ∧ w.frozen? ⟨g, t, none⟩ = false := by
  have := K.own_holds h t (by rw [size_flatK]; simpa using ht)
  rw [Nat.zero_add] at this
  exact ⟨by rw [this.1]; rfl, this.2⟩

/-- An element's cells in a row of its own. -/
theorem Kind.own_at {α : Type} {K : Kind α} {n0 g n cap : Nat} {w : World} {d : List α} (h : K.Own n0 w (.slice (some ⟨g, 0, none⟩) n cap) d) : K.At w g 0 d := by
  by_cases h0 : 0 < d.length
  · obtain ⟨g', e, _, _, hat, _⟩ := Kind.own_form h h0
    cases e
    exact hat
  · intro i hi; omega

theorem Kind.own_free {α : Type} {K : Kind α} {n0 g n cap : Nat} {w : World} {d : List α} (h : K.Own n0 w (.slice (some ⟨g, 0, none⟩) n cap) d) (j : Nat) : w.frozen? ⟨g, j, none⟩ = false := by
  rcases h.2 with ⟨hv, _⟩ | ⟨g', cap', cur, hv, h1, h2, _⟩
  · cases hv
  · injection hv with e1 e2 e3
    injection e1 with e1
    injection e1 with e1 _ _
    subst e1
    exact Lib.frozen_of_heap h2 _

theorem Kind.newsN {α : Type} (K : Kind α) (W : World) (x : α) (N : Nat) (hN : N = W.heap.size) : ∀ j u, (K.cells [x])[j]? = some u → (W.alloc (.cells (K.enc x).toArray K.T)).cell? ((⟨N, 0, none⟩ : Addr).add j) = some u := by
  subst hN
  exact K.news W x

end Go.Proofs.YtelcongbnmfegabGreatDoor

/-
  What references mean (stage 5): the mathematics, without the program.
-/
namespace Go.Proofs.YtelcongbnmfegabGreatDoor
open Go.RowKit Go.Lib

/-- The text up to the first slash, and behind it. -/
def cutS : List UInt8 → Option (List UInt8 × List UInt8)
  | [] => none
  | c :: r => if c = 47 then some ([], r) else (cutS r).map fun x => (c :: x.1, x.2)

theorem cutS_some {l a b : List UInt8} (h : cutS l = some (a, b)) : l = a ++ 47 :: b ∧ (47 : UInt8) ∉ a := by
  induction l generalizing a with
  | nil => simp [cutS] at h
  | cons c r ih =>
    unfold cutS at h
    by_cases hc : c = 47
    · rw [if_pos hc] at h
      simp at h
      obtain ⟨rfl, rfl⟩ := h
      simp [hc]
    · rw [if_neg hc] at h
      cases hr : cutS r with
      | none => rw [hr] at h; simp at h
      | some x =>
        obtain ⟨a1, b1⟩ := x
        rw [hr] at h
        simp at h
        obtain ⟨rfl, rfl⟩ := h
        obtain ⟨e, hn⟩ := ih hr
        rw [e]
        refine ⟨rfl, ?_⟩
        simp only [List.mem_cons, not_or]
        exact ⟨fun h => hc h.symm, hn⟩

theorem cutS_of {a b : List UInt8} (h : (47 : UInt8) ∉ a) : cutS (a ++ 47 :: b) = some (a, b) := by
  induction a with
  | nil => simp [cutS]
  | cons c r ih =>
    simp only [List.mem_cons, not_or] at h
    simp only [List.cons_append, cutS]
    rw [if_neg (fun e => h.1 e.symm), ih h.2]
    rfl

def keyL (k : List UInt8 × List UInt8) : Bool := typeB k.1 && idenB k.2

/-- The key of a text. -/
def parseS (l : List UInt8) : Option (List UInt8 × List UInt8) :=
  match cutS l with
  | some k => if keyL k then some k else none
  | none => none

/-- The key that a text names; the temporary name that it names. -/
def namedS : List UInt8 → Option (List UInt8 × List UInt8)
  | 42 :: r => parseS r
  | _ => none

def tempS : List UInt8 → Option (List UInt8)
  | 42 :: 64 :: r => if tempB r then some r else none
  | _ => none

/-- A key's reference. -/
def refS (k : List UInt8 × List UInt8) : List UInt8 := 42 :: (k.1 ++ 47 :: k.2)

theorem type_slash {l : List UInt8} (h : typeB l = true) : (47 : UInt8) ∉ l := by
  cases l with
  | nil => simp
  | cons c r =>
    simp only [typeB, spell, Bool.and_eq_true, List.all_eq_true] at h
    intro hm
    rcases List.mem_cons.1 hm with rfl | hm
    · exact absurd h (by simp [bigB])
    · have := h.2 _ hm
      revert this
      simp [letB, bigB, smallB]

theorem parseS_some {l : List UInt8} {k : List UInt8 × List UInt8} (h : parseS l = some k) : l = k.1 ++ 47 :: k.2 ∧ keyL k = true := by
  unfold parseS at h
  cases hc : cutS l with
  | none => rw [hc] at h; cases h
  | some x =>
    rw [hc] at h
    simp only at h
    split at h
    · next hk =>
      cases h
      exact ⟨(cutS_some hc).1, hk⟩
    · cases h

theorem parseS_of {k : List UInt8 × List UInt8} (h : keyL k = true) : parseS (k.1 ++ 47 :: k.2) = some k := by
  have ht : typeB k.1 = true := by simp only [keyL, Bool.and_eq_true] at h; exact h.1
  unfold parseS
  rw [cutS_of (type_slash ht)]
  simp [h]

theorem named_ref {k : List UInt8 × List UInt8} (h : keyL k = true) : namedS (refS k) = some k := parseS_of h

theorem named_some {l : List UInt8} {k : List UInt8 × List UInt8} (h : namedS l = some k) : l = refS k ∧ keyL k = true := by
  unfold namedS at h
  split at h
  · obtain ⟨h1, h2⟩ := parseS_some h
    exact ⟨by rw [h1]; rfl, h2⟩
  · cases h

theorem temp_some {l n : List UInt8} (h : tempS l = some n) : l = 42 :: 64 :: n ∧ tempB n = true := by
  unfold tempS at h
  split at h
  · split at h
    · next hk => cases h; exact ⟨rfl, hk⟩
    · cases h
  · cases h

theorem temp_of {n : List UInt8} (h : tempB n = true) : tempS (42 :: 64 :: n) = some n := by simp [tempS, h]

/-- No reference to a key is a temporary one. -/
theorem temp_ref {k : List UInt8 × List UInt8} (h : keyL k = true) : tempS (refS k) = none := by
  cases ht : tempS (refS k) with
  | none => rfl
  | some n =>
    obtain ⟨e, _⟩ := temp_some ht
    exfalso
    simp only [keyL, Bool.and_eq_true] at h
    obtain ⟨a, b⟩ := k
    cases a with
    | nil => simp [typeB, spell] at h
    | cons c r =>
      simp only [refS, List.cons_append, List.cons.injEq, true_and] at e
      obtain ⟨rfl, _⟩ := e
      simp [typeB, spell, bigB] at h

theorem named_temp {l : List UInt8} {k : List UInt8 × List UInt8} (h : namedS l = some k) : tempS l = none := by
  obtain ⟨rfl, hk⟩ := named_some h
  exact temp_ref hk

/-! Names of keys and binds, as the program holds them. -/

abbrev Bd := ByteArray × Ky

def Ky.l (k : Ky) : List UInt8 × List UInt8 := (k.1.data.toList, k.2.data.toList)
def bytesL (l : List UInt8) : ByteArray := ⟨l.toArray⟩
theorem bytesL_list (l : List UInt8) : (bytesL l).data.toList = l := rfl
theorem bytesL_of (b : ByteArray) : bytesL b.data.toList = b := rfl

def keyOK (k : Ky) : Bool := keyL k.l
def namedT (t : ByteArray) : Option Ky := (namedS t.data.toList).map fun k => (bytesL k.1, bytesL k.2)
def tempT (t : ByteArray) : Option ByteArray := (tempS t.data.toList).map bytesL
def refT (k : Ky) : ByteArray := bytesL (refS k.l)

theorem namedT_ref {k : Ky} (h : keyOK k = true) : namedT (refT k) = some k := by
  unfold namedT refT
  rw [bytesL_list, named_ref h]
  rfl

theorem namedT_some {t : ByteArray} {k : Ky} (h : namedT t = some k) : t = refT k ∧ keyOK k = true := by
  unfold namedT at h
  cases hn : namedS t.data.toList with
  | none => rw [hn] at h; cases h
  | some x =>
    rw [hn] at h
    simp only [Option.map_some, Option.some.injEq] at h
    subst h
    obtain ⟨h1, h2⟩ := named_some hn
    exact ⟨by rw [← bytesL_of t, h1]; rfl, h2⟩

theorem tempT_ref {k : Ky} (h : keyOK k = true) : tempT (refT k) = none := by
  unfold tempT refT
  rw [bytesL_list, temp_ref h]
  rfl

theorem namedT_temp {t : ByteArray} {k : Ky} (h : namedT t = some k) : tempT t = none := by
  obtain ⟨rfl, hk⟩ := namedT_some h
  exact tempT_ref hk

theorem refT_inj {a b : Ky} (ha : keyOK a = true) (hb : keyOK b = true) (h : refT a = refT b) : a = b := by
  have := namedT_ref ha
  rw [h, namedT_ref hb] at this
  exact (Option.some.inj this).symm

/-! Rename. -/

def renT (a b : Ky) (t : ByteArray) : ByteArray := if namedT t = some a then refT b else t
def mapT (g : ByteArray → ByteArray) (fs : List Fld) : List Fld := fs.map fun f => (f.1, f.2.map g)
def pointsF (fs : List Fld) (k : Ky) : Prop := ∃ f ∈ fs, ∃ t ∈ f.2, namedT t = some k

theorem points_map {g : ByteArray → ByteArray} {fs : List Fld} {k : Ky} : pointsF (mapT g fs) k ↔ ∃ f ∈ fs, ∃ t ∈ f.2, namedT (g t) = some k := by
  unfold pointsF mapT
  constructor
  · rintro ⟨f, hf, t, ht, h⟩
    obtain ⟨f0, h0, rfl⟩ := List.mem_map.1 hf
    obtain ⟨t0, h1, rfl⟩ := List.mem_map.1 ht
    exact ⟨f0, h0, t0, h1, h⟩
  · rintro ⟨f, hf, t, ht, h⟩
    exact ⟨_, List.mem_map.2 ⟨f, hf, rfl⟩, _, List.mem_map.2 ⟨t, ht, rfl⟩, h⟩

theorem ren_named {a b k : Ky} (hb : keyOK b = true) (hab : a ≠ b) (t : ByteArray) : namedT (renT a b t) = some k ↔ (namedT t = some k ∧ k ≠ a) ∨ (k = b ∧ namedT t = some a) := by
  unfold renT
  split
  · next h =>
    rw [namedT_ref hb, h]
    constructor
    · intro e
      exact Or.inr ⟨(Option.some.inj e).symm, rfl⟩
    · rintro (⟨e, hk⟩ | ⟨rfl, _⟩)
      · exact absurd (Option.some.inj e).symm hk
      · rfl
  · next h =>
    constructor
    · intro e
      exact Or.inl ⟨e, fun hk => h (by rw [e, hk])⟩
    · rintro (⟨e, _⟩ | ⟨_, e⟩)
      · exact e
      · exact absurd e h

theorem ren_from {a b : Ky} (hb : keyOK b = true) (hab : a ≠ b) (fs : List Fld) : ¬ pointsF (mapT (renT a b) fs) a := by
  rw [points_map]
  rintro ⟨f, _, t, _, h⟩
  rcases (ren_named hb hab t).1 h with ⟨_, h2⟩ | ⟨h1, _⟩
  · exact h2 rfl
  · exact hab h1

theorem ren_to {a b : Ky} (hb : keyOK b = true) (hab : a ≠ b) (fs : List Fld) : pointsF (mapT (renT a b) fs) b ↔ pointsF fs a ∨ pointsF fs b := by
  rw [points_map]
  constructor
  · rintro ⟨f, hf, t, ht, h⟩
    rcases (ren_named hb hab t).1 h with ⟨h1, _⟩ | ⟨_, h2⟩
    · exact Or.inr ⟨f, hf, t, ht, h1⟩
    · exact Or.inl ⟨f, hf, t, ht, h2⟩
  · rintro (⟨f, hf, t, ht, h⟩ | ⟨f, hf, t, ht, h⟩)
    · exact ⟨f, hf, t, ht, (ren_named hb hab t).2 (Or.inr ⟨rfl, h⟩)⟩
    · exact ⟨f, hf, t, ht, (ren_named hb hab t).2 (Or.inl ⟨h, fun e => hab e.symm⟩)⟩

theorem ren_back_text {a b : Ky} (hb : keyOK b = true) {t : ByteArray} (h : namedT t ≠ some b) : renT b a (renT a b t) = t := by
  unfold renT
  by_cases h1 : namedT t = some a
  · rw [if_pos h1, namedT_ref hb, if_pos rfl]
    exact (namedT_some h1).1.symm
  · rw [if_neg h1, if_neg h]

theorem map_same {fs : List Fld} {g : ByteArray → ByteArray} (h : ∀ f ∈ fs, ∀ t ∈ f.2, g t = t) : mapT g fs = fs := by
  unfold mapT
  conv => rhs; rw [← List.map_id fs]
  apply List.map_congr_left
  intro f hf
  have : f.2.map g = f.2 := by
    conv => rhs; rw [← List.map_id f.2]
    exact List.map_congr_left fun t ht => h f hf t ht
  rw [this]
  rfl

theorem map_map {fs : List Fld} {g h : ByteArray → ByteArray} : mapT g (mapT h fs) = mapT (g ∘ h) fs := by
  unfold mapT
  rw [List.map_map]
  apply List.map_congr_left
  intro f _
  simp

theorem ren_back {a b : Ky} (hb : keyOK b = true) {fs : List Fld} (h : ¬ pointsF fs b) : mapT (renT b a) (mapT (renT a b) fs) = fs := by
  rw [map_map]
  exact map_same fun f hf t ht => ren_back_text hb fun e => h ⟨f, hf, t, ht, e⟩

/-! Resolve. -/

def boundT (bs : List Bd) (n : ByteArray) : Option Ky := (bs.find? fun b => decide (b.1 = n)).map (·.2)

def resT (bs : List Bd) (t : ByteArray) : ByteArray :=
  match tempT t with
  | none => t
  | some n => match boundT bs n with
    | some k => refT k
    | none => t

def allBound (bs : List Bd) (fs : List Fld) : Prop := ∀ f ∈ fs, ∀ t ∈ f.2, ∀ n, tempT t = some n → (boundT bs n).isSome = true

theorem bound_mem {bs : List Bd} {n : ByteArray} {k : Ky} (h : boundT bs n = some k) : (n, k) ∈ bs := by
  unfold boundT at h
  cases hf : bs.find? fun b => decide (b.1 = n) with
  | none => rw [hf] at h; cases h
  | some b =>
    rw [hf] at h
    simp only [Option.map_some, Option.some.injEq] at h
    have h1 := List.find?_some hf
    have h2 := List.mem_of_find?_eq_some hf
    simp only [decide_eq_true_eq] at h1
    obtain ⟨b1, b2⟩ := b
    simp only at h h1
    subst h h1
    exact h2

theorem bound_of {bs : List Bd} (hn : (bs.map (·.1)).Nodup) {n : ByteArray} {k : Ky} (h : (n, k) ∈ bs) : boundT bs n = some k := by
  induction bs with
  | nil => cases h
  | cons b r ih =>
    rw [List.map_cons, List.nodup_cons] at hn
    unfold boundT
    rw [List.find?_cons]
    rcases List.mem_cons.1 h with e | h
    · subst e; simp
    · have hne : b.1 ≠ n := fun e => hn.1 (by rw [e]; exact List.mem_map.2 ⟨_, h, rfl⟩)
      rw [decide_eq_false hne]
      exact ih hn.2 h

/-- The order of binds is no matter. -/
theorem bound_turn {bs cs : List Bd} (h1 : (bs.map (·.1)).Nodup) (h2 : (cs.map (·.1)).Nodup) (hm : ∀ x, x ∈ bs ↔ x ∈ cs) (n : ByteArray) : boundT bs n = boundT cs n := by
  cases hb : boundT bs n with
  | some k => exact (bound_of h2 ((hm _).1 (bound_mem hb))).symm
  | none =>
    cases hc : boundT cs n with
    | none => rfl
    | some k => rw [bound_of h1 ((hm _).2 (bound_mem hc))] at hb; cases hb

theorem res_turn {bs cs : List Bd} (h1 : (bs.map (·.1)).Nodup) (h2 : (cs.map (·.1)).Nodup) (hm : ∀ x, x ∈ bs ↔ x ∈ cs) : resT bs = resT cs := by
  funext t
  unfold resT
  cases tempT t with
  | none => rfl
  | some n => simp only [bound_turn h1 h2 hm n]

/-- Behind Resolve there is no temporary reference. -/
theorem res_temp {bs : List Bd} (hk : ∀ b ∈ bs, keyOK b.2 = true) {t : ByteArray} (h : ∀ n, tempT t = some n → (boundT bs n).isSome = true) : tempT (resT bs t) = none := by
  unfold resT
  cases ht : tempT t with
  | none => exact ht
  | some n =>
    simp only
    cases hb : boundT bs n with
    | none => have := h n ht; rw [hb] at this; cases this
    | some k => exact tempT_ref (hk _ (bound_mem hb))

theorem res_stays {bs : List Bd} {t : ByteArray} (h : tempT t = none) : resT bs t = t := by unfold resT; rw [h]

theorem res_named {bs : List Bd} (hk : ∀ b ∈ bs, keyOK b.2 = true) {t n : ByteArray} (ht : tempT t = some n) (h : (boundT bs n).isSome = true) : ∃ k, boundT bs n = some k ∧ namedT (resT bs t) = some k := by
  cases hb : boundT bs n with
  | none => rw [hb] at h; cases h
  | some k =>
    refine ⟨k, rfl, ?_⟩
    unfold resT
    rw [ht]
    simp only [hb]
    exact namedT_ref (hk _ (bound_mem hb))

/-- Behind Resolve the keys are those that were there, and those of the names that were used. -/
theorem res_points {bs : List Bd} (hk : ∀ b ∈ bs, keyOK b.2 = true) {fs : List Fld} (h : allBound bs fs) (k : Ky) :
    pointsF (mapT (resT bs) fs) k ↔ pointsF fs k ∨ ∃ f ∈ fs, ∃ t ∈ f.2, ∃ n, tempT t = some n ∧ boundT bs n = some k := by
  rw [points_map]
  constructor
  · rintro ⟨f, hf, t, ht, e⟩
    cases hn : tempT t with
    | none => rw [res_stays hn] at e; exact Or.inl ⟨f, hf, t, ht, e⟩
    | some n =>
      obtain ⟨k', hb, hk'⟩ := res_named hk hn (h f hf t ht n hn)
      rw [hk'] at e
      exact Or.inr ⟨f, hf, t, ht, n, hn, by rw [hb]; exact e⟩
  · rintro (⟨f, hf, t, ht, e⟩ | ⟨f, hf, t, ht, n, hn, e⟩)
    · exact ⟨f, hf, t, ht, by rw [res_stays (namedT_temp e)]; exact e⟩
    · obtain ⟨k', hb, hk'⟩ := res_named hk hn (by rw [e]; rfl)
      rw [hb] at e
      exact ⟨f, hf, t, ht, by rw [hk']; exact e⟩

end Go.Proofs.YtelcongbnmfegabGreatDoor

/-
  Rising lists (stage 5): one more in its place; the keys and the temporary names of a value.
-/
namespace Go.Proofs.YtelcongbnmfegabGreatDoor
open Go.RowKit Go.Lib

/-- All that is told by the texts, in order. -/
def toldBy {α : Type} [DecidableEq α] (lt : α → α → Bool) (g : ByteArray → Option α) (ts : List ByteArray) : List α :=
  ts.foldl (fun acc t => match g t with
    | some x => insR lt x acc
    | none => acc) []

theorem told_go {α : Type} [DecidableEq α] {lt : α → α → Bool} (T : Tot lt) (g : ByteArray → Option α) (ts : List ByteArray) : ∀ acc : List α, RisingR lt acc →
    RisingR lt (ts.foldl (fun acc t => match g t with | some x => insR lt x acc | none => acc) acc) ∧ ∀ z, z ∈ ts.foldl (fun acc t => match g t with | some x => insR lt x acc | none => acc) acc ↔ z ∈ acc ∨ ∃ t ∈ ts, g t = some z := by
  induction ts with
  | nil => intro acc h; exact ⟨h, fun z => by simp⟩
  | cons t r ih =>
    intro acc h
    simp only [List.foldl_cons]
    cases hg : g t with
    | none =>
      obtain ⟨h1, h2⟩ := ih acc h
      refine ⟨h1, fun z => ?_⟩
      rw [h2 z]
      constructor
      · rintro (h | ⟨u, hu, e⟩)
        · exact Or.inl h
        · exact Or.inr ⟨u, List.mem_cons_of_mem _ hu, e⟩
      · rintro (h | ⟨u, hu, e⟩)
        · exact Or.inl h
        · rcases List.mem_cons.1 hu with rfl | hu
          · rw [hg] at e; cases e
          · exact Or.inr ⟨u, hu, e⟩
    | some x =>
      obtain ⟨h1, h2⟩ := ih (insR lt x acc) (rising_insR T x h)
      refine ⟨h1, fun z => ?_⟩
      rw [h2 z, mem_insR]
      constructor
      · rintro ((rfl | h) | ⟨u, hu, e⟩)
        · exact Or.inr ⟨t, by simp, hg⟩
        · exact Or.inl h
        · exact Or.inr ⟨u, List.mem_cons_of_mem _ hu, e⟩
      · rintro (h | ⟨u, hu, e⟩)
        · exact Or.inl (Or.inr h)
        · rcases List.mem_cons.1 hu with rfl | hu
          · rw [hg] at e; exact Or.inl (Or.inl (Option.some.inj e).symm)
          · exact Or.inr ⟨u, hu, e⟩

theorem told_rising {α : Type} [DecidableEq α] {lt : α → α → Bool} (T : Tot lt) (g : ByteArray → Option α) (ts : List ByteArray) : RisingR lt (toldBy lt g ts) := (told_go T g ts [] List.Pairwise.nil).1
theorem told_mem {α : Type} [DecidableEq α] {lt : α → α → Bool} (T : Tot lt) (g : ByteArray → Option α) (ts : List ByteArray) (z : α) : z ∈ toldBy lt g ts ↔ ∃ t ∈ ts, g t = some z := by
  have := (told_go T g ts [] List.Pairwise.nil).2 z
  simpa [toldBy] using this

def textsF (fs : List Fld) : List ByteArray := fs.flatMap (·.2)
def keysF (fs : List Fld) : List Ky := toldBy ltKy namedT (textsF fs)
def tempsF (fs : List Fld) : List ByteArray := toldBy ltB tempT (textsF fs)

theorem mem_textsF {fs : List Fld} {t : ByteArray} : t ∈ textsF fs ↔ ∃ f ∈ fs, t ∈ f.2 := by simp [textsF]

/-- The keys of a value are those at which it points. -/
theorem mem_keysF {fs : List Fld} {k : Ky} : k ∈ keysF fs ↔ pointsF fs k := by
  unfold keysF pointsF
  rw [told_mem totK]
  constructor
  · rintro ⟨t, ht, h⟩
    obtain ⟨f, hf, h'⟩ := mem_textsF.1 ht
    exact ⟨f, hf, t, h', h⟩
  · rintro ⟨f, hf, t, ht, h⟩
    exact ⟨t, mem_textsF.2 ⟨f, hf, ht⟩, h⟩

theorem mem_tempsF {fs : List Fld} {n : ByteArray} : n ∈ tempsF fs ↔ ∃ f ∈ fs, ∃ t ∈ f.2, tempT t = some n := by
  unfold tempsF
  rw [told_mem totB]
  constructor
  · rintro ⟨t, ht, h⟩
    obtain ⟨f, hf, h'⟩ := mem_textsF.1 ht
    exact ⟨f, hf, t, h', h⟩
  · rintro ⟨f, hf, t, ht, h⟩
    exact ⟨t, mem_textsF.2 ⟨f, hf, ht⟩, h⟩

/-- Behind Resolve: no temporary name. -/
theorem res_tempsF {bs : List Bd} (hk : ∀ b ∈ bs, keyOK b.2 = true) {fs : List Fld} (h : allBound bs fs) : tempsF (mapT (resT bs) fs) = [] := by
  apply List.eq_nil_iff_forall_not_mem.2
  intro n hn
  obtain ⟨f, hf, t, ht, e⟩ := mem_tempsF.1 hn
  unfold mapT at hf
  obtain ⟨f0, h0, rfl⟩ := List.mem_map.1 hf
  obtain ⟨t0, h1, rfl⟩ := List.mem_map.1 ht
  rw [res_temp hk (h f0 h0 t0 h1)] at e
  cases e

end Go.Proofs.YtelcongbnmfegabGreatDoor

/-
  Rows of binds.
-/
namespace Go.Proofs.YtelcongbnmfegabGreatDoor
open Go.RowKit Go.Sort Go.Lib
def encBd (x : Bd) : List Value := [.string x.1, .string x.2.1, .string x.2.2]
end Go.Proofs.YtelcongbnmfegabGreatDoor
