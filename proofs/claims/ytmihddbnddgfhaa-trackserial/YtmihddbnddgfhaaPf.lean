/-
  Texts of this claim, one behind the other: Yqa Yq7 Yqb.
-/
import Derived.Test.YtmihddbnddgfhaaPe
import Derived.Test.YtmihddbnddgfhaaPd
/-
  Package track (stage 13): Add.
-/
namespace Go.Proofs.Ytmihddbnddgfhaa
open Go.RowKit

def kqT13 : Nat → Nat
  | 3 => 1
  | 4 => 2
  | 5 => 2
  | 6 => 3
  | _ => 0
/-- 't.done = append(t.done, own(d))': what is so behind k operations (call, box, append, nil check, address, store); fl: the load of t.done. -/
def TaSt (n0 : Nat) (W U : World) (g : Nat) (x : Dn) (ds : List Dx) (va : Value) (c : Array Value) (k : Nat) (fl : List Bool) (u e s p a1 a2 : Value) (w : World) : Prop :=
  (k = 0 ∧ w = U ∧ (fl[0]? = some true → u = va)) ∨
  (1 ≤ k ∧ ∃ y w1, e = .agg (encDx y).toArray ∧ (QD.E U.heap.size w1 y ∧ y.dn = x ∧ Below U.heap.size U w1) ∧ Pb KDx 35 n0 W y ds va g 1 c 72 w1 (kqT13 k) [fl.getD 0 false, decide (2 ≤ k)] u s p w ∧ (3 ≤ k → fl = [true]) ∧ (4 ≤ k → a1 = .pointer (some ⟨g, 0, none⟩)) ∧ (5 ≤ k → a2 = .pointer (some ⟨g, 1, none⟩)))

/-- A block without texts holds none of what came in: it may turn. -/
theorem is_off {α : Type} {K : Kind α} {w w' : World} {v : Value} {d : List α} {g : Nat} (h : K.Is w v d) (hs : ∀ x, ∃ s, (K.enc x)[0]? = some (.string s)) (hg : ∀ j s, w.cell? ⟨g, j, none⟩ ≠ some (.string s)) (f : Fr (fun b => b = g) w w') : K.Is w' v d := by
  obtain ⟨p, cap, rfl, h⟩ := h
  refine ⟨p, cap, rfl, ?_⟩
  rcases h with h | ⟨b, off, hp, h⟩
  · exact Or.inl h
  · by_cases h0 : 0 < d.length
    · refine Or.inr ⟨b, off, hp, fun i hi j u hu => f.cell (h i hi j u hu) fun e => ?_⟩
      obtain ⟨s, hs⟩ := hs d[0]
      have e' : b = g := e
      rw [e'] at h
      exact hg _ s (h 0 h0 0 _ hs)
    · exact Or.inl (List.eq_nil_of_length_eq_zero (by omega))
theorem xs_off {w w' : World} {v : Value} {d : List Fx} {g : Nat} (h : IsXs w v d) (hg : ∀ j s, w.cell? ⟨g, j, none⟩ ≠ some (.string s)) (f : Fr (fun b => b = g) w w') : IsXs w' v d := by
  obtain ⟨p, cap, rfl, h, ht⟩ := h
  refine ⟨p, cap, rfl, ?_, fun x hx => ?_⟩
  · rcases h with h | ⟨b, off, hp, h⟩
    · exact Or.inl h
    · refine Or.inr ⟨b, off, hp, fun i hi => ?_⟩
      have hn : b ≠ g := fun e => by
        rw [e] at h
        exact hg _ _ (h i hi).1
      exact ⟨f.cell (h i hi).1 hn, f.cell (h i hi).2 hn⟩
  · rcases ht x hx with h | ⟨b, off, hp, h⟩
    · exact Or.inl h
    · refine Or.inr ⟨b, off, hp, fun i hi => f.cell (h i hi) fun e => ?_⟩
      have e' : b = g := e
      rw [e'] at h
      exact hg _ _ (h i hi)
theorem DIn.off {W W' : World} {x : Dx} {g : Nat} (h : DIn W x) (hg : ∀ j s, W.cell? ⟨g, j, none⟩ ≠ some (.string s)) (f : Fr (fun b => b = g) W W') : DIn W' x :=
  ⟨⟨is_off h.mrk.keys (fun _ => ⟨_, rfl⟩) hg f, is_off h.mrk.rows (fun _ => ⟨_, rfl⟩) hg f, fun r hr => ⟨is_off (h.mrk.each r hr).1 (fun _ => ⟨_, rfl⟩) hg f, (h.mrk.each r hr).2⟩⟩,
    ⟨is_off h.chg.is (fun _ => ⟨_, rfl⟩) hg f, fun c hc => ⟨xs_off (h.chg.each c hc).was hg f, (h.chg.each c hc).wfit, xs_off (h.chg.each c hc).is hg f, (h.chg.each c hc).ifit, (h.chg.each c hc).wcp, (h.chg.each c hc).icp⟩⟩, h.sz, h.snap, h.stamp⟩
theorem TrkM.nostr {n0 : Nat} {W : World} {g : Nat} {t : Tk} {ds : List Dx} {va : Value} {last : Int} (h : TrkM n0 W g t ds va last) : ∀ j s, W.cell? ⟨g, j, none⟩ ≠ some (.string s) := fun j s e => by
  obtain ⟨p, c, rfl⟩ := h.shape
  rw [Lib.cell_of_heap h.obj] at e
  match j, e with
  | 0, e => cases e
  | 1, e => cases e
  | 2, e => cases e
  | 3, e => cases e
  | j + 4, e => simp at e

theorem keepT_room {t : Tk} {d : Dn} (h : t.kept.length < t.most) : keepT t d = ⟨t.most, t.kept ++ [d], some d.stamp, t.sum⟩ := by
  unfold keepT
  rw [if_pos h]
theorem keepT_full {t : Tk} {d : Dn} (h : ¬ t.kept.length < t.most) (s : Int) (hs : ((t.kept ++ [d])[0]?).map Dn.stamp = some s) : keepT t d = ⟨t.most, (t.kept ++ [d]).drop 1, some d.stamp, max t.sum s⟩ := by
  unfold keepT
  rw [if_neg h]
  cases hk : t.kept with
  | nil =>
    rw [hk] at hs
    simp at hs
    subst hs
    rfl
  | cons x r =>
    rw [hk] at hs
    simp at hs
    subst hs
    rfl

/-- What Add leaves. -/
def TAddPost (n0 : Nat) (W : World) (g : Nat) (t : Tk) (ds : List Dx) (va : Value) (x : Dn) (e : Ending) (w' : World) : Prop :=
  e = .returned (.int .i64 (addT t x).1) ∧ TrkPost n0 W g ds va (addT t x).2 w'

set_option linter.unusedSimpArgs false in
set_option maxHeartbeats 16000000 in
set_option maxRecDepth 100000 in
theorem tadd_any {n0 : Nat} {W : World} {g : Nat} {t : Tk} {ds : List Dx} {va : Value} {last : Int} (hR : TrkM n0 W g t ds va last) (hn0 : n0 ≤ W.heap.size) (x : Dx) (hx : DIn W x) :
    Calls Try.prog 22 #[.pointer (some ⟨g, 0, none⟩), .agg (encDx x).toArray] W fun e w' => TAddPost n0 W g t ds va x.dn e w' := by
  obtain ⟨i0, hi0, hz0, hz1, hz2⟩ := info_parts Try.infoDx13
  have HI0 := hid hi0
  clear hi0
  obtain ⟨pa, ca, rfl⟩ := hR.shape
  have hl := hR.few
  obtain ⟨M, hM⟩ : ∃ M, W.heap.size = M := ⟨_, rfl⟩
  obtain ⟨V, hV⟩ : ∃ V, W.alloc (.cells (encDx x).toArray 35) = V := ⟨_, rfl⟩
  have hbV : Below W.heap.size W V := by rw [← hV]; exact (Below.refl _ _).alloc (Nat.le_refl _) _
  have hobj : V.heap[M]? = some (.cells (encDx x).toArray 35 (0, 0)) := by rw [← hV, ← hM]; exact heap_alloc_new W _
  have hRV := hR.on hbV
  have z3 : V.cell? ⟨g, 3, none⟩ = some (.int .u64 last) := by rw [Lib.cell_of_heap hRV.obj]; rfl
  have b1 : V.cell? ⟨M, 1, none⟩ = some (.int .u64 x.stamp) := by rw [Lib.cell_of_heap hobj]; rfl
  have HOLD : Hid (oldT t x.dn = decide (x.stamp < last)) := by
    show _ = _
    unfold oldT
    rcases hR.hlast with ⟨h1, h2⟩ | h1
    · rw [h1, h2]
      have h0 := hx.stamp.1
      rw [decide_eq_false (by omega)]
    · rw [h1]
      rfl
  have HR := hid hR
  have HB := hid hbV
  have HOBJ := hid hobj
  have HX := hid hx
  have hst0 := hx.stamp
  have hsn := hx.snap
  have HOKA : Hid (OkT (addT t x.dn).2) := ok_addT hR.ok x.dn hx.stamp.1
  obtain ⟨xs, xt, xo, ⟨mkp, mkc, mks, mrp, mrc, mrs⟩, xcp, xcc, xcs⟩ := x
  simp only [encDx, Mx.ksl, Mx.rsl, Dx.csl] at *
  clear hR hRV hbV hobj hx
  go_enter Try.func22, Try.ntmps22
  go_upto_region 3 with fail
  try rw [hV]
  try rw [hM]
  clear hV
  have z3' : V.drew.cell? ⟨g, 3, none⟩ = some (.int .u64 last) := z3
  have b1' : V.drew.cell? ⟨M, 1, none⟩ = some (.int .u64 xt) := b1
  refine wp_region_held_drew (S := fun w' => w'.cell? ⟨g, 3, none⟩ = some (.int .u64 last) ∧ w'.cell? ⟨M, 1, none⟩ = some (.int .u64 xt)) (by kernel_rfl) ⟨z3', b1'⟩ (fun hHeld => ?_)
  refine take_val (i := 0) (.pointer (some ⟨M, 1, none⟩)) rfl (by kernel_rfl) (by kernel_rfl) (by kernel_rfl) (fun _ _ _ h => h) (by rfl) (fun w hSw => by go_simp) hHeld ?_
  simp only [Act.put, List.setIfInBounds_toArray, List.set_cons_zero, List.set_cons_succ]
  refine take_val (i := 1) (.int .u64 xt) rfl (by kernel_rfl) (by kernel_rfl) (by kernel_rfl) (fun _ _ _ h => h) (by rfl) (fun w hSw => by go_simp) hHeld ?_
  simp only [Act.put, List.setIfInBounds_toArray, List.set_cons_zero, List.set_cons_succ]
  refine take_val (i := 2) (.pointer (some ⟨g, 0, none⟩)) rfl (by kernel_rfl) (by kernel_rfl) (by kernel_rfl) (fun _ _ _ h => h) (by rfl) (fun w hSw => by go_simp) hHeld ?_
  simp only [Act.put, List.setIfInBounds_toArray, List.set_cons_zero, List.set_cons_succ]
  refine take_val (i := 3) (.pointer (some ⟨g, 0, none⟩)) rfl (by kernel_rfl) (by kernel_rfl) (by kernel_rfl) (fun _ _ _ h => h) (by rfl) (fun w hSw => by go_simp) hHeld ?_
  simp only [Act.put, List.setIfInBounds_toArray, List.set_cons_zero, List.set_cons_succ]
  refine take_val (i := 4) (.pointer (some ⟨g, 3, none⟩)) rfl (by kernel_rfl) (by kernel_rfl) (by kernel_rfl) (fun _ _ _ h => h) (by rfl) (fun w hSw => by go_simp) hHeld ?_
  simp only [Act.put, List.setIfInBounds_toArray, List.set_cons_zero, List.set_cons_succ]
  refine take_val (i := 5) (.int .u64 last) rfl (by kernel_rfl) (by kernel_rfl) (by kernel_rfl) (fun _ _ _ h => h) (by rfl) (fun w hSw => by go_simp) hHeld ?_
  simp only [Act.put, List.setIfInBounds_toArray, List.set_cons_zero, List.set_cons_succ]
  by_cases hold : xt < last
  · rw [decide_eq_true hold] at HOLD
    refine take_val (i := 6) (.bool true) rfl (by kernel_rfl) (by kernel_rfl) (by kernel_rfl) (fun _ _ _ h => h) (by rfl) (fun w hSw => by go_simp) hHeld ?_
    simp only [Act.put, List.setIfInBounds_toArray, List.set_cons_zero, List.set_cons_succ]
    refine wpAnyH_done (by kernel_rfl) ?_ _
    clear hHeld z3 b1 z3' b1'
    have HP : Hid (TAddPost n0 W g t ds (.slice pa ds.length ca) (Dx.dn ⟨xs, xt, xo, ⟨mkp, mkc, mks, mrp, mrc, mrs⟩, xcp, xcc, xcs⟩) (.returned (.int .i64 8)) V.drew) := by
      have e : addT t (Dx.dn ⟨xs, xt, xo, ⟨mkp, mkc, mks, mrp, mrc, mrs⟩, xcp, xcc, xcs⟩) = (8, t) := by
        unfold addT
        rw [HOLD.out, if_pos rfl]
      unfold TAddPost
      rw [e]
      exact ⟨rfl, ds, _, last, HR.out.on HB.out.drew, Fr.of_below HB.out.drew, fun k hk => Or.inl hk⟩
    go_wp2_with fail
    go_ret
    exact HP.out
  · rw [decide_eq_false hold] at HOLD
    refine take_val (i := 6) (.bool false) rfl (by kernel_rfl) (by kernel_rfl) (by kernel_rfl) (fun _ _ _ h => h) (by rfl) (fun w hSw => by go_simp) hHeld ?_
    simp only [Act.put, List.setIfInBounds_toArray, List.set_cons_zero, List.set_cons_succ]
    refine wpAnyH_done (by kernel_rfl) ?_ _
    clear hHeld z3'
    have HADD : Hid (addT t (Dx.dn ⟨xs, xt, xo, ⟨mkp, mkc, mks, mrp, mrc, mrs⟩, xcp, xcc, xcs⟩) = (0, keepT t (Dx.dn ⟨xs, xt, xo, ⟨mkp, mkc, mks, mrp, mrc, mrs⟩, xcp, xcc, xcs⟩))) := by
      show _ = _
      unfold addT
      rw [HOLD.out]
      rfl
    have hRV := HR.out.on HB.out.drew
    have z3' : V.drew.cell? ⟨g, 3, none⟩ = some (.int .u64 last) := z3
    have y3 : V.drew.frozen? ⟨g, 3, none⟩ = false := Lib.frozen_of_heap hRV.obj 3
    obtain ⟨wc, hwc⟩ : ∃ wc, V.drew.setCell ⟨g, 3, none⟩ (.int .u64 xt) = wc := ⟨_, rfl⟩
    have hgM : g < M := by rw [← hM]; exact HR.out.lt
    have hgo : wc.heap[g]? = some (.cells #[.int .i64 (t.most : Nat), .slice pa ds.length ca, .int .u64 t.sum, .int .u64 xt] 72 (0, 0)) := by
      rw [← hwc]
      exact heap_setCell_same _ g 3 _ _ _ hRV.obj
    have fc : Fr (fun b => b = g) V.drew wc := by rw [← hwc]; exact fr_set V.drew g 3 _
    have hset := hRV.set 3 (.int .u64 xt)
    rw [hwc] at hset
    have hoC : wc.heap[M]? = some (.cells #[.int .u64 xs, .int .u64 xt, .bool xo, .slice mkp mks.length mkc, .slice mrp mrs.length mrc, .slice xcp xcs.length xcc] 35 (0, 0)) := (fc.block M (Array.getElem?_eq_some_iff.1 HOBJ.out).1 (by omega)).trans HOBJ.out
    have HFC : Hid (Fr (fun b => b = g) W wc) := (Fr.of_below HB.out.drew).then fc fun k hk => Or.inl hk
    have hvM : ∀ b, (Value.slice pa ds.length ca).ownBlock = some b → n0 ≤ b ∧ b < M ∧ b ≠ g := fun b hb => by
      have h1 := World.ownsRow.lt (show W.ownsRow n0 KDx.T KDx.k (.slice pa ds.length ca) ds.length (KDx.cells ds) from HR.out.all) b hb
      exact ⟨h1.1, by omega, HR.out.row_ne b hb⟩
    have HVM := hid hvM
    have hg0 : n0 ≤ g := HR.out.low
    obtain ⟨U, hU⟩ : ∃ U, wc.drew = U := ⟨_, rfl⟩
    have hoU : U.heap[M]? = some (.cells #[.int .u64 xs, .int .u64 xt, .bool xo, .slice mkp mks.length mkc, .slice mrp mrs.length mrc, .slice xcp xcs.length xcc] 35 (0, 0)) := by rw [← hU]; exact hoC
    have hMU : M < U.heap.size := (Array.getElem?_eq_some_iff.1 hoU).1
    have hfU : Fr (fun b => b = g) W U := by rw [← hU]; exact HFC.out.then (Fr.of_below (P := fun _ => False) (Below.refl _ wc).drew) fun _ h => h.elim
    have hsU : M ≤ U.heap.size := by rw [← hM]; exact hfU.size
    have HFU := hid hfU
    have HOU := hid hoU
    have HRW : Hid (∀ w1, Below U.heap.size U w1 → RowSt KDx n0 W (.slice pa ds.length ca) ds w1 ∧ w1.heap[g]? = some (.cells #[.int .i64 (t.most : Nat), .slice pa ds.length ca, .int .u64 t.sum, .int .u64 xt] 72 (0, 0))) := fun w1 hw => by
      rw [← hU] at hw
      have hw' : Below wc.heap.size wc w1 := (Below.refl _ wc).drew.trans hw
      have hbW : Below n0 W w1 := (HFC.out.below hn0 fun k hk => by omega).trans (hw'.mono (by have := HFC.out.size; omega))
      exact ⟨⟨Kind.own_on hset.1 hw', hbW, by have := hw'.size; have := HFC.out.size; omega⟩, (hw'.block g (Array.getElem?_eq_some_iff.1 hgo).1).trans hgo⟩
    have HSS : Hid (∀ k fl u e s p a1 a2 w', TaSt n0 W U g (Dx.dn ⟨xs, xt, xo, ⟨mkp, mkc, mks, mrp, mrc, mrs⟩, xcp, xcc, xcs⟩) ds (.slice pa ds.length ca) #[.int .i64 (t.most : Nat), .slice pa ds.length ca, .int .u64 t.sum, .int .u64 xt] k fl u e s p a1 a2 w' → w'.heap[M]? = some (.cells #[.int .u64 xs, .int .u64 xt, .bool xo, .slice mkp mks.length mkc, .slice mrp mrs.length mrc, .slice xcp xcs.length xcc] 35 (0, 0))) := fun k fl u e s p a1 a2 w' h => by
      rcases h with ⟨_, rfl, _⟩ | ⟨_, y, w1, _, ⟨_, _, hb⟩, hpb, _⟩
      · exact HOU.out
      · have f := pb_fr hpb
        refine (f.block M (by have := hb.size; omega) fun h => ?_).trans ((hb.block M hMU).trans HOU.out)
        rcases h with h | h
        · omega
        · have := HVM.out M h
          omega
    have hdn : Calls Try.prog 33 #[.agg #[.int .u64 xs, .int .u64 xt, .bool xo, .slice mkp mks.length mkc, .slice mrp mrs.length mrc, .slice xcp xcs.length xcc]] U fun e w' => ∃ y : Dx, e = .returned (.agg (encDx y).toArray) ∧ QD.E U.heap.size w' y ∧ y.dn = (Dx.dn ⟨xs, xt, xo, ⟨mkp, mkc, mks, mrp, mrc, mrs⟩, xcp, xcc, xcs⟩) ∧ Below U.heap.size U w' := by
      have hin : DIn wc ⟨xs, xt, xo, ⟨mkp, mkc, mks, mrp, mrc, mrs⟩, xcp, xcc, xcs⟩ := (HX.out.on HB.out.drew).off hRV.nostr fc
      rw [← hU]
      exact ownD_any _ _ (hin.on (Below.refl _ wc).drew)
    have HD1 := hid hdn
    have HES : Hid (∀ d ∈ ds, QD.E n0 wc d) := hset.2
    clear hdn hfU hoU hvM hRV hset hoC fc hgo
    go_upto_region 6 with fail
    try rw [hwc]
    clear z3 b1 z3' b1' y3
    refine wp_region_held_drew (S := fun w' => w'.cell? ⟨M, 0, none⟩ = some (.int .u64 xs) ∧ w'.cell? ⟨M, 1, none⟩ = some (.int .u64 xt) ∧ w'.cell? ⟨M, 2, none⟩ = some (.bool xo) ∧ w'.cell? ⟨M, 3, none⟩ = some (.slice mkp mks.length mkc) ∧ w'.cell? ⟨M, 4, none⟩ = some (.slice mrp mrs.length mrc) ∧ w'.cell? ⟨M, 5, none⟩ = some (.slice xcp xcs.length xcc)) (by kernel_rfl) (by rw [hU]; have := HOU.out; exact ⟨by rw [Lib.cell_of_heap this]; rfl, by rw [Lib.cell_of_heap this]; rfl, by rw [Lib.cell_of_heap this]; rfl, by rw [Lib.cell_of_heap this]; rfl, by rw [Lib.cell_of_heap this]; rfl, by rw [Lib.cell_of_heap this]; rfl⟩) (fun hHeld => ?_)
    refine take_val (i := 0) (.pointer (some ⟨g, 0, none⟩)) rfl (by kernel_rfl) (by kernel_rfl) (by kernel_rfl) (fun _ _ _ h => h) (by rfl) (fun w hSw => by go_simp) hHeld ?_
    simp only [Act.put, List.setIfInBounds_toArray, List.set_cons_zero, List.set_cons_succ]
    refine take_val (i := 1) (.pointer (some ⟨g, 0, none⟩)) rfl (by kernel_rfl) (by kernel_rfl) (by kernel_rfl) (fun _ _ _ h => h) (by rfl) (fun w hSw => by go_simp) hHeld ?_
    simp only [Act.put, List.setIfInBounds_toArray, List.set_cons_zero, List.set_cons_succ]
    refine take_val (i := 2) (.pointer (some ⟨g, 0, none⟩)) rfl (by kernel_rfl) (by kernel_rfl) (by kernel_rfl) (fun _ _ _ h => h) (by rfl) (fun w hSw => by go_simp) hHeld ?_
    simp only [Act.put, List.setIfInBounds_toArray, List.set_cons_zero, List.set_cons_succ]
    refine take_val (i := 3) (.pointer (some ⟨g, 1, none⟩)) rfl (by kernel_rfl) (by kernel_rfl) (by kernel_rfl) (fun _ _ _ h => h) (by rfl) (fun w hSw => by go_simp) hHeld ?_
    simp only [Act.put, List.setIfInBounds_toArray, List.set_cons_zero, List.set_cons_succ]
    refine take_val (i := 5) (.agg #[.int .u64 xs, .int .u64 xt, .bool xo, .slice mkp mks.length mkc, .slice mrp mrs.length mrc, .slice xcp xcs.length xcc]) rfl (by kernel_rfl) (by kernel_rfl) (by kernel_rfl) (fun _ _ _ h => h) (by rfl) (fun w hSw => by go_simp) hHeld ?_
    simp only [Act.put, List.setIfInBounds_toArray, List.set_cons_zero, List.set_cons_succ]
    clear hHeld
    rw [hU]
    refine wpAnyH_floats [6, 7, 8, 9, 10, 11] [4] (fun a0 k fl a w' => ∃ u e s p a1 a2, a = putS a0 [(23, u), (25, e), (26, s), (27, p), (28, a1), (29, a2)] ∧ TaSt n0 W U g (Dx.dn ⟨xs, xt, xo, ⟨mkp, mkc, mks, mrp, mrc, mrs⟩, xcp, xcc, xcs⟩) ds (.slice pa ds.length ca) #[.int .i64 (t.most : Nat), .slice pa ds.length ca, .int .u64 t.sum, .int .u64 xt] k fl u e s p a1 a2 w') (by kernel_rfl) (by decide) ⟨_, _, _, _, _, _, (putS_self _ [23, 25, 26, 27, 28, 29]).symm, Or.inl ⟨rfl, rfl, fun h => by cases h⟩⟩ ?hS ?hmain ?halloc ?hend
    case hS =>
      rintro k fl a w' ⟨u, e, s, p, a1, a2, _, h⟩
      have := HSS.out _ _ _ _ _ _ _ _ _ h
      exact ⟨by rw [Lib.cell_of_heap this]; rfl, by rw [Lib.cell_of_heap this]; rfl, by rw [Lib.cell_of_heap this]; rfl, by rw [Lib.cell_of_heap this]; rfl, by rw [Lib.cell_of_heap this]; rfl, by rw [Lib.cell_of_heap this]; rfl⟩
    case hmain =>
      rintro k i' fl a w' hk hfl hrd ⟨u, e, s, p, a1, a2, rfl, hst⟩
      obtain ⟨f1, rfl⟩ : ∃ f1, fl = [f1] := by
        match fl, hfl with
        | [f1], _ => exact ⟨f1, rfl⟩
      rcases k with _ | _ | _ | _ | _ | _ | k
      · obtain rfl : i' = 6 := by simpa using hk.symm
        obtain ⟨_, rfl, h4⟩ : (0 = 0 ∧ w' = U ∧ (([f1] : List Bool)[0]? = some true → u = .slice pa ds.length ca)) := hst.elim id fun h => by have := h.1; omega
        have H4 := hid h4
        clear hst hrd hk hfl h4
        refine ⟨_, at_drop0 rfl, fun K hK => ?_⟩
        simp only [putS, List.foldl_cons, List.foldl_nil, Act.put, List.setIfInBounds_toArray, List.set_cons_zero, List.set_cons_succ]
        rw [if_pos (by rfl)]
        go_simp
        refine HD1.out.mono ?_
        rintro e' w2 ⟨y, rfl, hy, hyd, hb2⟩
        have HN : Hid (TaSt n0 W w' g (Dx.dn ⟨xs, xt, xo, ⟨mkp, mkc, mks, mrp, mrc, mrs⟩, xcp, xcc, xcs⟩) ds (.slice pa ds.length ca) #[.int .i64 (t.most : Nat), .slice pa ds.length ca, .int .u64 t.sum, .int .u64 xt] 1 [f1] u (.agg (encDx y).toArray) s p a1 a2 w2) := by
          refine Or.inr ⟨Nat.le_refl _, y, w2, rfl, ⟨hy, hyd, hb2⟩, ?_, (fun h => by omega), (fun h => by omega), (fun h => by omega)⟩
          have h0 := pb_start (x := y) (T := 35) (f := 1) u s p (HRW.out w2 hb2).1 (HRW.out w2 hb2).2
          cases f1 with
          | false => exact h0
          | true =>
            obtain rfl := H4.out rfl
            exact (pb_load h0 (by decide)).2
        clear hy hyd hb2
        obtain ⟨ys, yt, yo, ⟨nkp, nkc, nks, nrp, nrc, nrs⟩, ycp, ycc, ycs⟩ := y
        simp only [encDx, Mx.ksl, Mx.rsl, Dx.csl] at HN ⊢
        go_wp2_with fail
        exact hK.out _ _ ⟨u, _, s, p, a1, a2, rfl, HN.out⟩
      · obtain rfl : i' = 7 := by simpa using hk.symm
        obtain ⟨_, y, w1, rfl, hyy, hpb, hfe, ha1, ha2⟩ := hst.resolve_left fun h => by have := h.1; omega
        have HN : Hid (TaSt n0 W U g (Dx.dn ⟨xs, xt, xo, ⟨mkp, mkc, mks, mrp, mrc, mrs⟩, xcp, xcc, xcs⟩) ds (.slice pa ds.length ca) #[.int .i64 (t.most : Nat), .slice pa ds.length ca, .int .u64 t.sum, .int .u64 xt] 2 [f1] u (.agg (encDx y).toArray) (.slice (some ⟨w'.heap.size, 0, none⟩) 1 1) p a1 a2 (w'.alloc (.cells (encDx y).toArray 35))) :=
          Or.inr ⟨by omega, y, w1, rfl, hyy, pb_box hpb, (fun h => by omega), (fun h => by omega), (fun h => by omega)⟩
        clear hst hrd hk hfl hyy hpb hfe ha1 ha2
        obtain ⟨ys, yt, yo, ⟨nkp, nkc, nks, nrp, nrc, nrs⟩, ycp, ycc, ycs⟩ := y
        simp only [encDx, Mx.ksl, Mx.rsl, Dx.csl] at HN ⊢
        refine ⟨_, at_drop0 rfl, fun K hK => ?_⟩
        simp only [putS, List.foldl_cons, List.foldl_nil, Act.put, List.setIfInBounds_toArray, List.set_cons_zero, List.set_cons_succ]
        rw [if_pos (by rfl)]
        go_simp
        go_wp2_with fail
        exact hK.out _ _ ⟨u, _, _, p, a1, a2, rfl, HN.out⟩
      · obtain rfl : i' = 8 := by simpa using hk.symm
        cases f1 with
        | false => exact (not_ready hrd (by kernel_rfl)).elim
        | true =>
        obtain ⟨_, y, w1, rfl, hyy, hpb, hfe, ha1, ha2⟩ := hst.resolve_left fun h => by have := h.1; omega
        obtain ⟨Z1, rfl, rfl, hbx, hrow⟩ := pb_row hpb
        refine ⟨_, at_drop0 rfl, fun K hK => ?_⟩
        simp only [putS, List.foldl_cons, List.foldl_nil, Act.put, List.setIfInBounds_toArray, List.set_cons_zero, List.set_cons_succ]
        rw [if_pos (by rfl)]
        refine wp_push KDx rfl _ _ 41 rfl i0 _ 96 Try.underlying41 HI0.out hz0 hz1 hz2 rfl n0 W (.slice pa ds.length ca) ds (by rfl) hrow y Z1 1 1 rfl (by rfl) 35 (0, 0) hbx (by unfold maxLen; omega) (by omega) ?_
        intro gg cc w3 h1 h2 h3
        exact hK.out _ _ ⟨_, _, _, _, a1, a2, rfl, Or.inr ⟨by omega, y, w1, rfl, hyy, pb_push hpb (fun b hb => (HVM.out b hb).2.2) h1 h2 h3, (fun _ => rfl), (fun h => by omega), (fun h => by omega)⟩⟩
      · obtain rfl : i' = 9 := by simpa using hk.symm
        obtain ⟨_, y, w1, rfl, hyy, hpb, hfe, ha1, ha2⟩ := hst.resolve_left fun h => by have := h.1; omega
        have HN : Hid (TaSt n0 W U g (Dx.dn ⟨xs, xt, xo, ⟨mkp, mkc, mks, mrp, mrc, mrs⟩, xcp, xcc, xcs⟩) ds (.slice pa ds.length ca) #[.int .i64 (t.most : Nat), .slice pa ds.length ca, .int .u64 t.sum, .int .u64 xt] 4 [f1] u (.agg (encDx y).toArray) s p (.pointer (some ⟨g, 0, none⟩)) a2 w') :=
          Or.inr ⟨by omega, y, w1, rfl, hyy, pb_on hpb, (fun _ => hfe (by omega)), (fun _ => rfl), (fun h => by omega)⟩
        clear hst hrd hk hfl hyy hpb hfe ha1 ha2
        refine ⟨_, at_drop0 rfl, fun K hK => ?_⟩
        simp only [putS, List.foldl_cons, List.foldl_nil, Act.put, List.setIfInBounds_toArray, List.set_cons_zero, List.set_cons_succ]
        rw [if_pos (by rfl)]
        go_simp
        go_wp2_with fail
        exact hK.out _ _ ⟨u, _, s, p, _, a2, rfl, HN.out⟩
      · obtain rfl : i' = 10 := by simpa using hk.symm
        obtain ⟨_, y, w1, rfl, hyy, hpb, hfe, ha1, ha2⟩ := hst.resolve_left fun h => by have := h.1; omega
        obtain rfl := ha1 (by omega)
        have HN : Hid (TaSt n0 W U g (Dx.dn ⟨xs, xt, xo, ⟨mkp, mkc, mks, mrp, mrc, mrs⟩, xcp, xcc, xcs⟩) ds (.slice pa ds.length ca) #[.int .i64 (t.most : Nat), .slice pa ds.length ca, .int .u64 t.sum, .int .u64 xt] 5 [f1] u (.agg (encDx y).toArray) s p (.pointer (some ⟨g, 0, none⟩)) (.pointer (some ⟨g, 1, none⟩)) w') :=
          Or.inr ⟨by omega, y, w1, rfl, hyy, hpb, (fun _ => hfe (by omega)), (fun _ => rfl), (fun _ => rfl)⟩
        clear hst hrd hk hfl hyy hpb hfe ha1 ha2
        refine ⟨_, at_drop0 rfl, fun K hK => ?_⟩
        simp only [putS, List.foldl_cons, List.foldl_nil, Act.put, List.setIfInBounds_toArray, List.set_cons_zero, List.set_cons_succ]
        rw [if_pos (by rfl)]
        go_simp
        go_wp2_with fail
        exact hK.out _ _ ⟨u, _, s, p, _, _, rfl, HN.out⟩
      · obtain rfl : i' = 11 := by simpa using hk.symm
        obtain ⟨_, y, w1, rfl, hyy, hpb, hfe, ha1, ha2⟩ := hst.resolve_left fun h => by have := h.1; omega
        obtain rfl := ha1 (by omega)
        obtain rfl := ha2 (by omega)
        have hgl : g < w1.heap.size := by have := hyy.2.2.size; omega
        obtain ⟨hb2, hst2⟩ := pb_store hpb hg0 (pb_off hpb (by decide) (fun b hb => (HVM.out b hb).2.2) hgl)
        obtain ⟨pp, cc, rfl⟩ := pb_shape hpb (by decide)
        have HN : Hid (TaSt n0 W U g (Dx.dn ⟨xs, xt, xo, ⟨mkp, mkc, mks, mrp, mrc, mrs⟩, xcp, xcc, xcs⟩) ds (.slice pa ds.length ca) #[.int .i64 (t.most : Nat), .slice pa ds.length ca, .int .u64 t.sum, .int .u64 xt] 6 [f1] u (.agg (encDx y).toArray) s (.slice pp (ds.length + 1) cc) (.pointer (some ⟨g, 0, none⟩)) (.pointer (some ⟨g, 1, none⟩)) (w'.setCell ⟨g, 1, none⟩ (.slice pp (ds.length + 1) cc))) :=
          Or.inr ⟨by omega, y, w1, rfl, hyy, hst2, (fun _ => hfe (by omega)), (fun _ => rfl), (fun _ => rfl)⟩
        have c0 : w'.cell? ⟨g, 1, none⟩ = some (.slice pa ds.length ca) := by rw [Lib.cell_of_heap hb2]; rfl
        have z0 : w'.frozen? ⟨g, 1, none⟩ = false := Lib.frozen_of_heap hb2 1
        clear hst hrd hk hfl hyy hpb hfe ha1 ha2 hb2 hst2
        refine ⟨_, at_drop0 rfl, fun K hK => ?_⟩
        simp only [putS, List.foldl_cons, List.foldl_nil, Act.put, List.setIfInBounds_toArray, List.set_cons_zero, List.set_cons_succ]
        rw [if_pos (by rfl)]
        go_simp
        go_wp2_with fail
        exact hK.out _ _ ⟨u, _, s, _, _, _, rfl, HN.out⟩
      · simp at hk
    case halloc =>
      rintro j i' k fl a w' hj hk hfl hf ⟨u, e, s, p, a1, a2, rfl, hst⟩
      obtain ⟨f1, rfl⟩ : ∃ f1, fl = [f1] := by
        match fl, hfl with
        | [f1], _ => exact ⟨f1, rfl⟩
      rcases j with _ | j
      · obtain rfl : i' = 4 := by simpa using hj.symm
        obtain rfl : f1 = false := by simpa using hf
        have hN : w'.cell? ⟨g, 1, none⟩ = some (.slice pa ds.length ca) ∧ TaSt n0 W U g (Dx.dn ⟨xs, xt, xo, ⟨mkp, mkc, mks, mrp, mrc, mrs⟩, xcp, xcc, xcs⟩) ds (.slice pa ds.length ca) #[.int .i64 (t.most : Nat), .slice pa ds.length ca, .int .u64 t.sum, .int .u64 xt] k [true] (.slice pa ds.length ca) e s p a1 a2 w' := by
          rcases hst with ⟨h1, h2, _⟩ | ⟨h1, y, w1, h2, hyy, hpb, hfe, ha1, ha2⟩
          · refine ⟨?_, Or.inl ⟨h1, h2, fun _ => rfl⟩⟩
            rw [h2, Lib.cell_of_heap (HRW.out U (Below.refl _ _)).2]; rfl
          · have hk3 : ¬ 3 ≤ k := fun h => by have := hfe h; cases this
            have hkq : kqT13 k ≤ 2 := by
              have : k = 1 ∨ k = 2 := by omega
              rcases this with rfl | rfl <;> decide
            obtain ⟨q1, q2⟩ := pb_load hpb hkq
            exact ⟨by rw [Lib.cell_of_heap q1]; rfl, Or.inr ⟨h1, y, w1, h2, hyy, q2, (fun h => absurd h hk3), ha1, ha2⟩⟩
        have c0 := hN.1
        have HN := hid hN.2
        clear hst hf hj hk hfl hN
        refine ⟨_, at_drop0 rfl, fun K hK => ?_⟩
        simp only [putS, List.foldl_cons, List.foldl_nil, Act.put, List.setIfInBounds_toArray, List.set_cons_zero, List.set_cons_succ]
        rw [if_pos (by rfl)]
        go_simp
        go_wp2_with fail
        exact hK.out _ _ ⟨_, e, s, p, a1, a2, rfl, HN.out⟩
      · simp at hj
    case hend =>
      rintro a w3 ⟨u, e, s, p, a1, a2, rfl, hst⟩
      obtain ⟨_, y, w1, rfl, hyy, hpb, _, _, _⟩ := hst.resolve_left fun h => by have := h.1; simp at this
      obtain ⟨g3, cc, rfl⟩ := pb_shape2 hpb (by decide)
      obtain ⟨q1, q2, q3, q4⟩ := pb_end hpb
      have hbs : W.heap.size ≤ U.heap.size := HFU.out.size
      have hw1 : Fr (fun b => b = g) W w1 := HFU.out.then (Fr.of_below (P := fun _ => False) hyy.2.2) fun _ h => h.elim
      have hf1 : Fr (fun b => b = g ∨ (Value.slice pa ds.length ca).ownBlock = some b) W w3 := (hw1.mono fun k hk => Or.inl hk).then q3 fun k hk => Or.inl hk
      have hy3 : QD.E n0 w3 y := QD.weak (QD.fr hyy.1 q3 fun k hk e => by
        have h1 := (QD.blk hyy.1 k hk).1
        rcases e with e | e
        · omega
        · have := HVM.out k e
          omega) (by omega)
      have he4 : ∀ d ∈ ds ++ [y], QD.E n0 w3 d := fun d hd => by
        rcases List.mem_append.1 hd with h | h
        · exact HR.out.each_fr hf1 h
        · rw [List.mem_singleton.1 h]
          exact hy3
      have hobj3 : w3.heap[g]? = some (.cells #[.int .i64 (t.most : Nat), .slice (some ⟨g3, 0, none⟩) (ds.length + 1) cc, .int .u64 t.sum, .int .u64 xt] 72 (0, 0)) := q2
      have hall3 : KDx.Own n0 w3 (.slice (some ⟨g3, 0, none⟩) (ds.length + 1) cc) (ds ++ [y]) := q1.own
      have HYD : Hid (y.dn = (Dx.dn ⟨xs, xt, xo, ⟨mkp, mkc, mks, mrp, mrc, mrs⟩, xcp, xcc, xcs⟩)) := hyy.2.1
      have HF1 : Hid (Fr (BlkTr g ds (.slice pa ds.length ca)) W w3) := hf1.mono fun k hk => hk.elim Or.inl fun h => Or.inr (Or.inl h)
      have HQ4 : Hid ((Value.slice pa ds.length ca).ownBlock = some g3 ∨ W.heap.size ≤ g3) := (q4 g3 (by unfold Value.ownBlock; simp)).imp id fun h => by have := hyy.2.2.size; omega
      have HYB : Hid (∀ k, BlkD13 y k → W.heap.size ≤ k) := fun k hk => Nat.le_trans hbs (QD.blk hyy.1 k hk).1
      obtain ⟨D, hD⟩ : ∃ D, ds ++ [y] = D := ⟨_, rfl⟩
      have HDL : Hid (D.length = ds.length + 1) := by show _ = _; rw [← hD]; simp
      have HDM : Hid (D.map Dx.dn = t.kept ++ [(Dx.dn ⟨xs, xt, xo, ⟨mkp, mkc, mks, mrp, mrc, mrs⟩, xcp, xcc, xcs⟩)]) := by
        show _ = _
        rw [← hD, List.map_append, List.map_cons, List.map_nil, HYD.out, HR.out.kept]
      have HDB : Hid (∀ k, (∃ d ∈ D, BlkD13 d k) → BlkTr g ds (.slice pa ds.length ca) k ∨ W.heap.size ≤ k) := by
        rintro k ⟨d, hd, hk⟩
        rw [← hD] at hd
        rcases List.mem_append.1 hd with h | h
        · exact Or.inl (Or.inr (Or.inr ⟨d, h, hk⟩))
        · rw [List.mem_singleton.1 h] at hk
          exact Or.inr (HYB.out k hk)
      rw [hD] at hall3 he4
      have hgg3 : g3 ≠ g := fun e => by
        subst e
        obtain ⟨cs', q⟩ := own_type (show w3.ownsRow n0 35 KDx.k _ D.length (KDx.cells D) from hall3) (k := g3) (by unfold Value.ownBlock; simp)
        exact typ_ne hobj3 q (by decide)
      /- what is so of a world that is met behind: only the tracker's block and its row have turned -/
      have HEND : Hid (∀ (w' : World) (t' : Tk) (ds' : List Dx) (va' : Value), Fr (fun b => b = g ∨ b = g3) w3 w' → w'.heap[g]? = some (.cells #[.int .i64 (t'.most : Nat), va', .int .u64 t'.sum, .int .u64 xt] 72 (0, 0)) → KDx.Own n0 w' va' ds' → (∀ d ∈ ds', d ∈ D) → (∀ k, va'.ownBlock = some k → k = g3) → ds'.map Dx.dn = t'.kept → t' = keepT t (Dx.dn ⟨xs, xt, xo, ⟨mkp, mkc, mks, mrp, mrc, mrs⟩, xcp, xcc, xcs⟩) → t'.sum ≤ 18446744073709551615 →
          TAddPost n0 W g t ds (.slice pa ds.length ca) (Dx.dn ⟨xs, xt, xo, ⟨mkp, mkc, mks, mrp, mrc, mrs⟩, xcp, xcc, xcs⟩) (.returned (.int .i64 0)) w') := fun w' t' ds' va' f hob hown hsub hvb hkept ht hsb => by
        unfold TAddPost
        have hok := HOKA.out
        rw [HADD.out] at hok ⊢
        rw [← ht] at hok ⊢
        have heach : ∀ d ∈ ds', QD.E n0 w' d := fun d hd => QD.fr (he4 d (hsub d hd)) f fun k hk e => by
          rcases e with e | e
          · subst e
            exact (he4 d (hsub d hd)).1.typ k hk hobj3 (by decide)
          · subst e
            obtain ⟨cs', q⟩ := own_type (show w3.ownsRow n0 35 KDx.k _ D.length (KDx.cells D) from hall3) (k := k) (by unfold Value.ownBlock; simp)
            exact (he4 d (hsub d hd)).1.typ k hk q (by decide)
        refine ⟨rfl, ds', va', xt, ⟨hob, hg0, hown, heach, hkept, Or.inr (by rw [ht]; exact keepT_last _ _), hst0, hsb, hok, by rw [ht, keepT_most]; exact HR.out.room⟩, ?_, fun k hk => ?_⟩
        · refine HF1.out.then f fun k hk => ?_
          rcases hk with hk | hk
          · exact Or.inl (Or.inl hk)
          · rw [hk]
            exact HQ4.out.imp (fun h => Or.inr (Or.inl h)) id
        · rcases hk with hk | hk | ⟨d, hd, hk⟩
          · exact Or.inl (Or.inl hk)
          · rw [hvb k hk]
            exact HQ4.out.imp (fun h => Or.inr (Or.inl h)) id
          · exact HDB.out k ⟨d, hsub d hd, hk⟩
      have HLK : Hid (ds.length = t.kept.length) := HR.out.len
      have hmost := HR.out.room
      have HSB := hid HR.out.sumb
      have HS0 := hid HR.out.ok.sum.1
      have HHD : Hid (∃ y0 : Dx, D[0]? = some y0 ∧ (0 ≤ y0.stamp ∧ y0.stamp ≤ 18446744073709551615) ∧ ((t.kept ++ [(Dx.dn ⟨xs, xt, xo, ⟨mkp, mkc, mks, mrp, mrc, mrs⟩, xcp, xcc, xcs⟩)])[0]?).map Dn.stamp = some y0.stamp) := by
        have h0 : 0 < D.length := by rw [HDL.out]; omega
        refine ⟨D[0], List.getElem?_eq_getElem h0, (he4 _ (List.getElem_mem h0)).2.2.2, ?_⟩
        rw [← HDM.out, List.getElem?_map, List.getElem?_eq_getElem h0]
        rfl
      have HALL := hid hall3
      have HOB := hid hobj3
      clear hst hpb q1 q2 q3 q4 hf1 hw1 hy3 he4 hyy HSS HRW HD1 HOU HOBJ HVM HFU HB hD HES HFC HX
      have c1 : w3.drew.cell? ⟨g, 1, none⟩ = some (.slice (some ⟨g3, 0, none⟩) (ds.length + 1) cc) := (Lib.cell_of_heap hobj3 1).trans rfl
      have c0 : w3.drew.cell? ⟨g, 0, none⟩ = some (.int .i64 (t.most : Nat)) := (Lib.cell_of_heap hobj3 0).trans rfl
      clear hobj3 hall3
      simp only [putS, List.foldl_cons, List.foldl_nil, Act.put, List.setIfInBounds_toArray, List.set_cons_zero, List.set_cons_succ]
      go_upto_region 7 with fail
      refine wp_region_held_drew (S := fun w' => w'.cell? ⟨g, 1, none⟩ = some (.slice (some ⟨g3, 0, none⟩) (ds.length + 1) cc) ∧ w'.cell? ⟨g, 0, none⟩ = some (.int .i64 (t.most : Nat))) (by kernel_rfl) ⟨c1, c0⟩ (fun hHeld => ?_)
      refine take_val (i := 0) (.pointer (some ⟨g, 0, none⟩)) rfl (by kernel_rfl) (by kernel_rfl) (by kernel_rfl) (fun _ _ _ h => h) (by rfl) (fun w hSw => by go_simp) hHeld ?_
      simp only [Act.put, List.setIfInBounds_toArray, List.set_cons_zero, List.set_cons_succ]
      refine take_val (i := 1) (.pointer (some ⟨g, 0, none⟩)) rfl (by kernel_rfl) (by kernel_rfl) (by kernel_rfl) (fun _ _ _ h => h) (by rfl) (fun w hSw => by go_simp) hHeld ?_
      simp only [Act.put, List.setIfInBounds_toArray, List.set_cons_zero, List.set_cons_succ]
      refine take_val (i := 2) (.pointer (some ⟨g, 1, none⟩)) rfl (by kernel_rfl) (by kernel_rfl) (by kernel_rfl) (fun _ _ _ h => h) (by rfl) (fun w hSw => by go_simp) hHeld ?_
      simp only [Act.put, List.setIfInBounds_toArray, List.set_cons_zero, List.set_cons_succ]
      refine take_val (i := 3) (.slice (some ⟨g3, 0, none⟩) (ds.length + 1) cc) rfl (by kernel_rfl) (by kernel_rfl) (by kernel_rfl) (fun _ _ _ h => h) (by rfl) (fun w hSw => by go_simp) hHeld ?_
      simp only [Act.put, List.setIfInBounds_toArray, List.set_cons_zero, List.set_cons_succ]
      refine take_val (i := 4) (.int .i64 ((ds.length : Int) + 1)) rfl (by kernel_rfl) (by kernel_rfl) (by kernel_rfl) (fun _ _ _ h => h) (by rfl) (fun w hSw => by go_simp) hHeld ?_
      simp only [Act.put, List.setIfInBounds_toArray, List.set_cons_zero, List.set_cons_succ]
      refine take_val (i := 5) (.pointer (some ⟨g, 0, none⟩)) rfl (by kernel_rfl) (by kernel_rfl) (by kernel_rfl) (fun _ _ _ h => h) (by rfl) (fun w hSw => by go_simp) hHeld ?_
      simp only [Act.put, List.setIfInBounds_toArray, List.set_cons_zero, List.set_cons_succ]
      refine take_val (i := 6) (.pointer (some ⟨g, 0, none⟩)) rfl (by kernel_rfl) (by kernel_rfl) (by kernel_rfl) (fun _ _ _ h => h) (by rfl) (fun w hSw => by go_simp) hHeld ?_
      simp only [Act.put, List.setIfInBounds_toArray, List.set_cons_zero, List.set_cons_succ]
      refine take_val (i := 7) (.pointer (some ⟨g, 0, none⟩)) rfl (by kernel_rfl) (by kernel_rfl) (by kernel_rfl) (fun _ _ _ h => h) (by rfl) (fun w hSw => by go_simp) hHeld ?_
      simp only [Act.put, List.setIfInBounds_toArray, List.set_cons_zero, List.set_cons_succ]
      refine take_val (i := 8) (.int .i64 (t.most : Nat)) rfl (by kernel_rfl) (by kernel_rfl) (by kernel_rfl) (fun _ _ _ h => h) (by rfl) (fun w hSw => by go_simp) hHeld ?_
      simp only [Act.put, List.setIfInBounds_toArray, List.set_cons_zero, List.set_cons_succ]
      by_cases hfull : ds.length < t.most
      · have hmz : ¬ (t.most : Int) < ((ds.length : Int) + 1) := by omega
        have hmz2 : ¬ ((ds.length : Int) + 1 > (t.most : Int)) := by omega
        refine take_val (i := 9) (.bool false) rfl (by kernel_rfl) (by kernel_rfl) (by kernel_rfl) (fun _ _ _ h => h) (by rfl) (fun w hSw => by go_simp) hHeld ?_
        simp only [Act.put, List.setIfInBounds_toArray, List.set_cons_zero, List.set_cons_succ]
        refine wpAnyH_done (by kernel_rfl) ?_ _
        clear hHeld c1 c0
        have HP : Hid (TAddPost n0 W g t ds (.slice pa ds.length ca) (Dx.dn ⟨xs, xt, xo, ⟨mkp, mkc, mks, mrp, mrc, mrs⟩, xcp, xcc, xcs⟩) (.returned (.int .i64 0)) w3.drew) :=
          HEND.out w3.drew ⟨t.most, t.kept ++ [(Dx.dn ⟨xs, xt, xo, ⟨mkp, mkc, mks, mrp, mrc, mrs⟩, xcp, xcc, xcs⟩)], some xt, t.sum⟩ D _ (Fr.of_below (Below.refl _ w3).drew) HOB.out (Kind.own_on HALL.out (Below.refl _ w3).drew) (fun d hd => hd) (fun k hk => by unfold Value.ownBlock at hk; simp at hk; exact hk.symm) HDM.out (keepT_room (by have := HLK.out; omega)).symm HSB.out
        go_wp2_with fail
        go_ret
        exact HP.out
      · have hmz : (t.most : Int) < ((ds.length : Int) + 1) := by omega
        have hmz2 : ((ds.length : Int) + 1 > (t.most : Int)) := by omega
        refine take_val (i := 9) (.bool true) rfl (by kernel_rfl) (by kernel_rfl) (by kernel_rfl) (fun _ _ _ h => h) (by rfl) (fun w hSw => by go_simp) hHeld ?_
        simp only [Act.put, List.setIfInBounds_toArray, List.set_cons_zero, List.set_cons_succ]
        refine wpAnyH_done (by kernel_rfl) ?_ _
        clear hHeld c1 c0
        obtain ⟨y0, hy0, hyb, hys⟩ := HHD.out
        obtain ⟨st, hst9⟩ : ∃ st, y0.stamp = st := ⟨_, rfl⟩
        rw [hst9] at hyb hys
        have hob := HOB.out
        have ho3 := HALL.out
        have e1 : w3.drew.drew.cell? ⟨g, 1, none⟩ = some (.slice (some ⟨g3, 0, none⟩) (ds.length + 1) cc) := (Lib.cell_of_heap hob 1).trans rfl
        have e2 : w3.drew.drew.cell? ⟨g, 2, none⟩ = some (.int .u64 t.sum) := (Lib.cell_of_heap hob 2).trans rfl
        have y2 : w3.drew.drew.frozen? ⟨g, 2, none⟩ = false := Lib.frozen_of_heap hob 2
        have h0 : 0 < D.length := by rw [HDL.out]; omega
        have e3 : w3.drew.drew.cell? ⟨g3, 1, none⟩ = some (.int .u64 st) := by
          have h9 := (kdx_at (Kind.own_at ho3) 0 h0).2.1
          rw [List.getElem?_eq_getElem h0] at hy0
          rw [Option.some.inj hy0, hst9] at h9
          exact h9
        obtain ⟨w5, hw5⟩ : ∃ w5, w3.drew.drew.setCell ⟨g, 2, none⟩ (.int .u64 (max t.sum st)) = w5 := ⟨_, rfl⟩
        have f5 : Fr (fun b => b = g) w3 w5 := by
          rw [← hw5]
          exact (Fr.of_below ((Below.refl _ w3).drew.drew)).then (fr_set w3.drew.drew g 2 _) fun k hk => Or.inl hk
        have hob5 : w5.heap[g]? = some (.cells #[.int .i64 (t.most : Nat), .slice (some ⟨g3, 0, none⟩) (ds.length + 1) cc, .int .u64 (max t.sum st), .int .u64 xt] 72 (0, 0)) := by
          rw [← hw5]
          exact heap_setCell_same _ g 2 _ _ _ hob
        have ho5 : KDx.Own n0 w5 (.slice (some ⟨g3, 0, none⟩) (ds.length + 1) cc) D := f5.row (show w3.ownsRow n0 KDx.T KDx.k _ D.length (KDx.cells D) from ho3) fun k hk e => by
          unfold Value.ownBlock at hk
          simp at hk
          omega
        have d1 : w5.cell? ⟨g, 1, none⟩ = some (.slice (some ⟨g3, 0, none⟩) (ds.length + 1) cc) := (Lib.cell_of_heap hob5 1).trans rfl
        have d3 : w5.cell? ⟨g3, 1, none⟩ = some (.int .u64 st) := by
          rw [← hw5]
          exact (fr_set w3.drew.drew g 2 _).cell e3 hgg3
        have HDEL : Hid (Calls Try.prog 37 #[.slice (some ⟨g3, 0, none⟩) (ds.length + 1) cc, .int .i64 0, .int .i64 1] w5 fun e w' => e = .returned (.slice (some ⟨g3, 0, none⟩) ds.length cc) ∧ KDx.Own n0 w' (.slice (some ⟨g3, 0, none⟩) ds.length cc) (D.drop 1) ∧ w5.grownBy w' (some g3)) := delD_any n0 g3 (ds.length + 1) cc 1 D w5 ho5 (by omega) (by omega)
        have HF5 := hid f5
        have HOB5 := hid hob5
        have HYS := hid hys
        have HYB := hid hyb
        clear hob ho3 f5 hob5 ho5 hys hyb hy0 hst9 h0 HHD HALL HOB
        go_upto_region 8 with fail
        refine wp_region_held_drew (S := fun w' => w'.cell? ⟨g, 1, none⟩ = some (.slice (some ⟨g3, 0, none⟩) (ds.length + 1) cc) ∧ w'.cell? ⟨g3, 1, none⟩ = some (.int .u64 st)) (by kernel_rfl) ⟨e1, e3⟩ (fun hHeld => ?_)
        refine take_val (i := 0) (.pointer (some ⟨g, 0, none⟩)) rfl (by kernel_rfl) (by kernel_rfl) (by kernel_rfl) (fun _ _ _ h => h) (by rfl) (fun w hSw => by go_simp) hHeld ?_
        simp only [Act.put, List.setIfInBounds_toArray, List.set_cons_zero, List.set_cons_succ]
        refine take_val (i := 1) (.pointer (some ⟨g, 0, none⟩)) rfl (by kernel_rfl) (by kernel_rfl) (by kernel_rfl) (fun _ _ _ h => h) (by rfl) (fun w hSw => by go_simp) hHeld ?_
        simp only [Act.put, List.setIfInBounds_toArray, List.set_cons_zero, List.set_cons_succ]
        refine take_val (i := 2) (.pointer (some ⟨g, 0, none⟩)) rfl (by kernel_rfl) (by kernel_rfl) (by kernel_rfl) (fun _ _ _ h => h) (by rfl) (fun w hSw => by go_simp) hHeld ?_
        simp only [Act.put, List.setIfInBounds_toArray, List.set_cons_zero, List.set_cons_succ]
        refine take_val (i := 3) (.pointer (some ⟨g, 2, none⟩)) rfl (by kernel_rfl) (by kernel_rfl) (by kernel_rfl) (fun _ _ _ h => h) (by rfl) (fun w hSw => by go_simp) hHeld ?_
        simp only [Act.put, List.setIfInBounds_toArray, List.set_cons_zero, List.set_cons_succ]
        refine take_val (i := 5) (.pointer (some ⟨g, 0, none⟩)) rfl (by kernel_rfl) (by kernel_rfl) (by kernel_rfl) (fun _ _ _ h => h) (by rfl) (fun w hSw => by go_simp) hHeld ?_
        simp only [Act.put, List.setIfInBounds_toArray, List.set_cons_zero, List.set_cons_succ]
        refine take_val (i := 6) (.pointer (some ⟨g, 0, none⟩)) rfl (by kernel_rfl) (by kernel_rfl) (by kernel_rfl) (fun _ _ _ h => h) (by rfl) (fun w hSw => by go_simp) hHeld ?_
        simp only [Act.put, List.setIfInBounds_toArray, List.set_cons_zero, List.set_cons_succ]
        refine take_val (i := 7) (.pointer (some ⟨g, 1, none⟩)) rfl (by kernel_rfl) (by kernel_rfl) (by kernel_rfl) (fun _ _ _ h => h) (by rfl) (fun w hSw => by go_simp) hHeld ?_
        simp only [Act.put, List.setIfInBounds_toArray, List.set_cons_zero, List.set_cons_succ]
        refine take_val (i := 8) (.slice (some ⟨g3, 0, none⟩) (ds.length + 1) cc) rfl (by kernel_rfl) (by kernel_rfl) (by kernel_rfl) (fun _ _ _ h => h) (by rfl) (fun w hSw => by go_simp) hHeld ?_
        simp only [Act.put, List.setIfInBounds_toArray, List.set_cons_zero, List.set_cons_succ]
        refine take_val (i := 9) (.pointer (some ⟨g3, 0, none⟩)) rfl (by kernel_rfl) (by kernel_rfl) (by kernel_rfl) (fun _ _ _ h => h) (by rfl) (fun w hSw => by go_simp) hHeld ?_
        simp only [Act.put, List.setIfInBounds_toArray, List.set_cons_zero, List.set_cons_succ]
        refine take_val (i := 10) (.pointer (some ⟨g3, 1, none⟩)) rfl (by kernel_rfl) (by kernel_rfl) (by kernel_rfl) (fun _ _ _ h => h) (by rfl) (fun w hSw => by go_simp) hHeld ?_
        simp only [Act.put, List.setIfInBounds_toArray, List.set_cons_zero, List.set_cons_succ]
        refine take_val (i := 11) (.int .u64 st) rfl (by kernel_rfl) (by kernel_rfl) (by kernel_rfl) (fun _ _ _ h => h) (by rfl) (fun w hSw => by go_simp) hHeld ?_
        simp only [Act.put, List.setIfInBounds_toArray, List.set_cons_zero, List.set_cons_succ]
        clear hHeld
        refine wpAnyH_ready (rs := [4]) (by kernel_rfl) (by simp) ?_
        refine AllReadyH.cons (at_drop0 rfl) (fun K hK => ?_) AllReadyH.nil
        rw [if_pos (by rfl)]
        go_simp
        go_wp2_with fail
        refine hK.out _ _ (⟨e1, e3⟩) (fun hHeld => ?_)
        clear hK K
        try simp only [Act.put, List.setIfInBounds_toArray, List.set_cons_zero, List.set_cons_succ]
        refine take_val (i := 12) (.int .u64 (max t.sum st)) rfl (by kernel_rfl) (by kernel_rfl) (by kernel_rfl) (fun _ _ _ h => h) (by rfl) (fun w hSw => by go_simp) hHeld ?_
        simp only [Act.put, List.setIfInBounds_toArray, List.set_cons_zero, List.set_cons_succ]
        refine take_val (i := 13) (.pointer (some ⟨g, 0, none⟩)) rfl (by kernel_rfl) (by kernel_rfl) (by kernel_rfl) (fun _ _ _ h => h) (by rfl) (fun w hSw => by go_simp) hHeld ?_
        simp only [Act.put, List.setIfInBounds_toArray, List.set_cons_zero, List.set_cons_succ]
        refine take_val (i := 14) (.pointer (some ⟨g, 2, none⟩)) rfl (by kernel_rfl) (by kernel_rfl) (by kernel_rfl) (fun _ _ _ h => h) (by rfl) (fun w hSw => by go_simp) hHeld ?_
        simp only [Act.put, List.setIfInBounds_toArray, List.set_cons_zero, List.set_cons_succ]
        clear hHeld
        refine wpAnyH_ready (rs := [15]) (by kernel_rfl) (by simp) ?_
        refine AllReadyH.cons (at_drop0 rfl) (fun K hK => ?_) AllReadyH.nil
        rw [if_pos (by rfl)]
        go_simp
        go_wp2_with fail
        try rw [hw5]
        refine hK.out _ _ (⟨d1, d3⟩) (fun hHeld => ?_)
        clear hK K
        try simp only [Act.put, List.setIfInBounds_toArray, List.set_cons_zero, List.set_cons_succ]
        refine wpAnyH_done (by kernel_rfl) ?_ _
        clear hHeld e1 e2 y2 e3 hw5
        go_wp2_with fail
        refine HDEL.out.mono ?_
        rintro e w6 ⟨rfl, ho6, hg6⟩
        have f6 : Fr (fun b => b = g3) w5 w6 := Fr.of_grown hg6 fun k hk => by simpa using hk.symm
        have hob6 := (f6.block g (Array.getElem?_eq_some_iff.1 HOB5.out).1 (Ne.symm hgg3)).trans HOB5.out
        obtain ⟨w7, hw7⟩ : ∃ w7, w6.setCell ⟨g, 1, none⟩ (.slice (some ⟨g3, 0, none⟩) ds.length cc) = w7 := ⟨_, rfl⟩
        have hob7 : w7.heap[g]? = some (.cells #[.int .i64 (t.most : Nat), .slice (some ⟨g3, 0, none⟩) ds.length cc, .int .u64 (max t.sum st), .int .u64 xt] 72 (0, 0)) := by
          rw [← hw7]
          exact heap_setCell_same _ g 1 _ _ _ hob6
        have f7 : Fr (fun b => b = g) w6 w7 := by rw [← hw7]; exact fr_set w6 g 1 _
        have ho7 : KDx.Own n0 w7 (.slice (some ⟨g3, 0, none⟩) ds.length cc) (D.drop 1) := f7.row (show w6.ownsRow n0 KDx.T KDx.k _ (D.drop 1).length (KDx.cells (D.drop 1)) from ho6) fun k hk e => by
          unfold Value.ownBlock at hk
          simp at hk
          omega
        have HP : Hid (TAddPost n0 W g t ds (.slice pa ds.length ca) (Dx.dn ⟨xs, xt, xo, ⟨mkp, mkc, mks, mrp, mrc, mrs⟩, xcp, xcc, xcs⟩) (.returned (.int .i64 0)) w7) := by
          refine HEND.out w7 ⟨t.most, (t.kept ++ [(Dx.dn ⟨xs, xt, xo, ⟨mkp, mkc, mks, mrp, mrc, mrs⟩, xcp, xcc, xcs⟩)]).drop 1, some xt, max t.sum st⟩ (D.drop 1) _ ?_ hob7 ho7 (fun d hd => List.mem_of_mem_drop hd) (fun k hk => by unfold Value.ownBlock at hk; simp at hk; exact hk.symm) (by rw [List.map_drop, HDM.out]) (keepT_full (by have := HLK.out; omega) st HYS.out).symm (by have h1 := HSB.out; have h2 := HYB.out.2; show max t.sum st ≤ _; omega)
          exact ((HF5.out.mono fun k hk => Or.inl hk).then f6 fun k hk => Or.inl (Or.inr hk)).then f7 fun k hk => Or.inl (Or.inl hk)
        have z1 : w6.cell? ⟨g, 1, none⟩ = some (.slice (some ⟨g3, 0, none⟩) (ds.length + 1) cc) := (Lib.cell_of_heap hob6 1).trans rfl
        have y1 : w6.frozen? ⟨g, 1, none⟩ = false := Lib.frozen_of_heap hob6 1
        clear ho6 hg6 f6 hob6 hob7 f7 ho7 HDEL d1 d3
        go_wp2_with fail
        try rw [hw7]
        go_ret
        exact HP.out

end Go.Proofs.Ytmihddbnddgfhaa

/-
  Package track (stage 13): Check.
-/
namespace Go.Proofs.Ytmihddbnddgfhaa
open Go.RowKit

set_option maxHeartbeats 16000000 in
set_option maxRecDepth 100000 in
theorem tcheck_any {n0 : Nat} {W : World} {g : Nat} {t : Tk} {ds : List Dx} {va : Value} {last : Int} (h : TrkM n0 W g t ds va last) (s : Int) (m : Mx) (v : Value) (cs : List Cx) (hm : MIn W m) (hc : ChgIn W v cs) (hz : SzD m cs) :
    Calls Try.prog 20 #[.pointer (some ⟨g, 0, none⟩), .int .u64 s, .agg (encMx m).toArray, v] W fun e w' => e = .returned (.tuple #[.bool (checkT t s m.mk' (cs.map Cx.ch)).1, .int .i64 (checkT t s m.mk' (cs.map Cx.ch)).2]) ∧ Below W.heap.size W w' := by
  obtain ⟨hb, h1, hsz⟩ := one_box W (encMx m).toArray 32
  obtain ⟨V, hV⟩ : ∃ V, W.alloc (.cells (encMx m).toArray 32) = V := ⟨_, rfl⟩
  obtain ⟨M, hM⟩ : ∃ M, W.heap.size = M := ⟨_, rfl⟩
  rw [hV] at hb h1 hsz
  rw [hM] at h1 hsz
  have hsum : V.cell? ⟨g, 2, none⟩ = some (.int .u64 t.sum) := by rw [Lib.cell_of_heap (h.on hb).obj]; rfl
  have HBX : Hid (∀ W', Below V.heap.size V W' → W'.cell? ⟨M, 0, none⟩ = some m.ksl ∧ W'.cell? ⟨M, 1, none⟩ = some m.rsl) := fun W' hW => by
    have e1 := (hW.block M (by omega)).trans h1
    exact ⟨by rw [Lib.cell_of_heap e1]; rfl, by rw [Lib.cell_of_heap e1]; rfl⟩
  have HBS := hid (beside_any (h.on hb) s)
  have HB := hid hb
  have hvs : ∃ p c, v = .slice p cs.length c := by
    obtain ⟨p, c, e, _⟩ := hc.is
    exact ⟨p, c, e⟩
  by_cases hlow : s < t.sum
  · have HR := hid (check_low m.mk' (cs.map Cx.ch) hlow)
    obtain ⟨vp, vc, rfl⟩ := hvs
    obtain ⟨mkp, mkc, mks, mrp, mrc, mrs⟩ := m
    simp only [encMx, Mx.ksl, Mx.rsl] at *
    clear h h1 hm hc hz HBX HBS hb
    go_enter Try.func20, Try.ntmps20
    go_wp2_with fail
    try rw [hV]
    go_ret2
    exact ⟨by rw [HR.out]; rfl, HB.out⟩
  · have HT : Hid (∀ k, ThrP ds s k → CutT t.kept s k ∧ (ds.drop k).map Dx.dn = t.kept.drop k) := fun k hk => ⟨h.cut hk, by rw [← h.kept, List.map_drop]⟩
    have HIS : Hid (∀ k, CutT t.kept s k → checkT t s m.mk' (cs.map Cx.ch) = if (((t.kept.drop k).any fun d => hitsM m.mk' d.chg && d.out) || (((t.kept.drop k).any fun d => hitsM m.mk' d.chg) && (t.kept.drop k).any fun d => hitsM d.marks (cs.map Cx.ch))) = true then (false, 11) else ((t.kept.drop k).any fun d => hitsM m.mk' d.chg, 0)) := fun k hk => check_is hk _ _ hlow
    have HFI : Hid (∀ k, CutT t.kept s k → ∀ out inn, SeenT m.mk' (cs.map Cx.ch) (t.kept.drop k) out inn → checkT t s m.mk' (cs.map Cx.ch) = (out, 0)) := fun k hk out inn hz => SeenT.check hk hlow hz
    have HDI : Hid (∀ W', Below W.heap.size W W' → ∀ d ∈ ds, DIn W' d) := fun W' hW d hd => (h.on hW).inn d hd
    have HMI : Hid (∀ W', Below W.heap.size W W' → MIn W' m ∧ ChgIn W' v cs) := fun W' hW => ⟨hm.on hW, hc.on hW⟩
    have HLM := hid hz.len
    have hcl := hz.chg
    have hfew := h.few
    generalize checkT t s m.mk' (cs.map Cx.ch) = CK at *
    generalize hck : cs.map Cx.ch = ck at *
    have HCK := hid hck
    clear hck h hm hc hz h1 hb
    obtain ⟨vp, vc, rfl⟩ := hvs
    obtain ⟨mk, hmk⟩ : ∃ mk, m.mk' = mk := ⟨_, rfl⟩
    rw [hmk] at HIS HFI
    have HMK := hid hmk
    clear hmk
    have HH1 : Hid (∀ W', Below W.heap.size W W' → ∀ d ∈ ds, Calls Try.prog 35 #[.agg #[m.ksl, m.rsl], d.csl] W' fun e w' => BoolPost W' (hitsM mk d.dn.chg) e w') := fun W' hW d hd => by
      have hd' := HDI.out W' hW d hd
      have := mhits12_any' m d.csl d.cs W' (HMI.out W' hW).1 HLM.out hd'.chg (by have := hd'.sz.chg; omega)
      rw [HMK.out] at this
      exact this
    have HH2 : Hid (∀ W', Below W.heap.size W W' → ∀ d ∈ ds, Calls Try.prog 35 #[.agg #[d.m.ksl, d.m.rsl], .slice vp cs.length vc] W' fun e w' => BoolPost W' (hitsM d.dn.marks ck) e w') := fun W' hW d hd => by
      have hd' := HDI.out W' hW d hd
      have := mhits12_any' d.m _ cs W' hd'.mrk hd'.sz.len (HMI.out W' hW).2 (by omega)
      rw [HCK.out] at this
      exact this
    clear HLM HMI HDI
    obtain ⟨mkp, mkc, mks, mrp, mrc, mrs⟩ := m
    simp only [encMx, Mx.ksl, Mx.rsl] at *
    go_enter Try.func20, Try.ntmps20
    go_wp2_with fail
    try rw [hV]
    clear hsum hV
    refine HBS.out.mono ?_
    rintro e w1 ⟨⟨k, u, rfl, hk, p, cap, rfl, hd⟩, hb1⟩
    obtain ⟨hcut, hmap⟩ := HT.out k hk
    have HIS1 := hid (HIS.out k hcut)
    have HFI1 := hid (HFI.out k hcut)
    rw [← hmap] at HIS1 HFI1
    have HMEM : Hid (∀ x ∈ ds.drop k, x ∈ ds) := fun x hx => List.mem_of_mem_drop hx
    have hDl : (ds.drop k).length ≤ 64 := by rw [List.length_drop]; omega
    generalize ds.drop k = D at *
    have HD := hid hd
    have HB1 := hid hb1
    have HVW : Hid (∀ W', Below w1.heap.size w1 W' → Below V.heap.size V W' ∧ Below W.heap.size W W') := fun W' hW => by
      have h9 := bel_then hb1 hb1.size hW
      exact ⟨h9, bel_then HB.out HB.out.size h9⟩
    clear hd hk hcut hmap HT HIS HFI HBS hb1
    go_wp2_with fail
    go_loopg [8, 10, 26] D.length (fun gg v8 v10 vi wr => ∃ (i : Nat) (out inn : Bool), v8 = .bool out ∧ v10 = .bool inn ∧ vi = .int .i64 i ∧ i ≤ D.length ∧ D.length - i ≤ gg ∧ Hid (Below w1.heap.size w1 wr) ∧ Hid (SeenT mk ck ((D.take i).map Dx.dn) out inn))
    case atStart => exact ⟨0, false, false, rfl, rfl, rfl, by omega, by omega, Below.refl _ _, seen_nil _ _⟩
    case round =>
      obtain ⟨i, out, inn, rfl, rfl, rfl, hi, hgk, HBR, HSE⟩ := hrel
      by_cases hlt : i < D.length
      · have hltz : (i : Int) < (D.length : Int) := by omega
        have hiz : (0 : Int) ≤ i := by omega
        obtain ⟨b1, o1, rfl, k1⟩ : ∃ b off, p = some ⟨b, off, none⟩ ∧ KDx.At w1 b off D := by
          rcases HD.out with h | h
          · rw [h] at hlt; simp at hlt
          · exact h
        obtain ⟨c0, c1, c2, c3, c4, c5⟩ := kdx_at (Kind.at_kept k1 HBR.out) i hlt
        have hmem := HMEM.out _ (List.getElem_mem hlt)
        obtain ⟨V1, hV1⟩ : ∃ V1, wr.alloc (.cells (encDx D[i]).toArray 35) = V1 := ⟨_, rfl⟩
        have hbV1 : Below wr.heap.size wr V1 := by rw [← hV1]; exact (Below.refl _ _).alloc (Nat.le_refl _) _
        have hbw : Below w1.heap.size w1 V1 := bel_then HBR.out HBR.out.size hbV1
        have HC1 := hid (HH1.out V1 (HVW.out V1 hbw).2 _ hmem)
        have HC2 : Hid (∀ W', Below w1.heap.size w1 W' → Calls Try.prog 35 #[.agg #[(D[i]).m.ksl, (D[i]).m.rsl], .slice vp cs.length vc] W' fun e w' => BoolPost W' (hitsM (D[i]).dn.marks ck) e w') := fun W' hW => HH2.out W' (HVW.out W' hW).2 _ hmem
        have hspl : (D.take (i + 1)).map Dx.dn = (D.take i).map Dx.dn ++ [(D[i]).dn] := by
          rw [List.take_succ_eq_append_getElem hlt, List.map_append]
          rfl
        have hall : D.map Dx.dn = (D.take i).map Dx.dn ++ (D[i]).dn :: (D.drop (i + 1)).map Dx.dn := by
          rw [← List.map_cons, ← List.map_append, ← List.drop_eq_getElem_cons hlt, List.take_append_drop]
        have HSN : Hid (∀ a b, hitsM mk (D[i]).dn.chg = a → (inn || hitsM (D[i]).dn.marks ck) = b → (a && (D[i]).dn.out) = false → ((out || a) && b) = false → SeenT mk ck ((D.take (i + 1)).map Dx.dn) (out || a) b) := fun a b ha hb h1 h2 => by
          rw [hspl]
          exact HSE.out.snoc _ ha hb h1 h2
        have HCL : Hid (∀ a b, hitsM mk (D[i]).dn.chg = a → (inn || hitsM (D[i]).dn.marks ck) = b → (a && (D[i]).dn.out) = true ∨ ((out || a) && b) = true → CK = (false, 11)) := fun a b ha hb h1 => by
          have h2 := HSE.out.clash (D[i]).dn ((D.drop (i + 1)).map Dx.dn) ha hb h1
          rw [← hall] at h2
          rw [HIS1.out, if_pos h2]
        have HBOTH := hid HSE.out.both
        obtain ⟨G, hG⟩ : ∃ G, wr.heap.size = G := ⟨_, rfl⟩
        have hn1 : V1.heap[G]? = some (.cells (encDx D[i]).toArray 35 (0, 0)) := by rw [← hV1, ← hG]; exact heap_alloc_new wr _
        have hGs : G < V1.heap.size := (Array.getElem?_eq_some_iff.1 hn1).1
        generalize D[i] = x at *
        have HNB : Hid (∀ W', Below V1.heap.size V1 W' → W'.heap[G]? = some (.cells (encDx x).toArray 35 (0, 0))) := fun W' hW => (hW.block G hGs).trans hn1
        obtain ⟨a0, a1⟩ := HBX.out V1 (HVW.out V1 hbw).1
        obtain ⟨A, hA⟩ : ∃ A, hitsM mk x.dn.chg = A := ⟨_, rfl⟩
        obtain ⟨Bv, hBv⟩ : ∃ Bv, hitsM x.dn.marks ck = Bv := ⟨_, rfl⟩
        rw [hA] at HC1 HSN HCL
        rw [hBv] at HC2 HSN HCL
        clear hA hBv hspl hall hmem k1
        obtain ⟨xs, xt, xo, ⟨xkp, xkc, xks, xrp, xrc, xrs⟩, xcp, xcc, xcs⟩ := x
        simp only [encDx, Mx.ksl, Mx.rsl, Dx.csl, Dx.dn] at *
        have d5 : V1.cell? ⟨G, 5, none⟩ = some (.slice xcp xcs.length xcc) := by rw [Lib.cell_of_heap hn1]; rfl
        have HBW := hid hbw
        clear hn1 hbw hbV1
        go_upto_region 9 with fail
        try rw [hG]
        try rw [hV1]
        clear hV1 c0 c1 c2 c3 c4 c5
        go_wp2_with fail
        clear a0 a1 d5
        refine HC1.out.mono ?_
        rintro e w2 ⟨rfl, hb2⟩
        have HB2 := hid (bel_then HBW.out HBW.out.size hb2)
        have HN2 := hid (HNB.out w2 hb2)
        have q2 : w2.cell? ⟨G, 2, none⟩ = some (.bool xo) := by rw [Lib.cell_of_heap HN2.out]; rfl
        have q3 : w2.cell? ⟨G, 3, none⟩ = some (.slice xkp xks.length xkc) := by rw [Lib.cell_of_heap HN2.out]; rfl
        have q4 : w2.cell? ⟨G, 4, none⟩ = some (.slice xrp xrs.length xrc) := by rw [Lib.cell_of_heap HN2.out]; rfl
        have HC3 := hid (HC2.out w2 HB2.out)
        have HNB2 : Hid (∀ W', Below w2.heap.size w2 W' → W'.cell? ⟨G, 2, none⟩ = some (.bool xo)) := fun W' hW => by
          have := HNB.out W' (bel_then hb2 hb2.size hW)
          rw [Lib.cell_of_heap this]
          rfl
        clear hb2 HC1 HC2 HNB HN2
        cases inn with
        | true =>
          cases out with
          | true => exact absurd HBOTH.out (by decide)
          | false =>
            clear HC3
            cases A with
            | true =>
              cases xo with
              | true =>
                go_wp2_with fail
                go_ret2
                exact ⟨by rw [HCL.out true true rfl rfl (Or.inl rfl)]; rfl, (HVW.out _ HB2.out).2⟩
              | false =>
                go_wp2_with fail
                go_ret2
                exact ⟨by rw [HCL.out true true rfl rfl (Or.inr rfl)]; rfl, (HVW.out _ HB2.out).2⟩
            | false =>
              cases xo with
              | true =>
                go_wp2_with fail
                go_roundg (D.length - (i + 1))
                case measure => omega
                exact ⟨i + 1, false, true, rfl, rfl, by go_num, by omega, by omega, HB2.out, HSN.out false true rfl rfl rfl rfl⟩
              | false =>
                go_wp2_with fail
                go_roundg (D.length - (i + 1))
                case measure => omega
                exact ⟨i + 1, false, true, rfl, rfl, by go_num, by omega, by omega, HB2.out, HSN.out false true rfl rfl rfl rfl⟩
        | false =>
          cases out with
          | true =>
            cases A with
            | true =>
              go_wp2_with fail
              clear q2 q3 q4
              refine HC3.out.mono ?_
              rintro e w3 ⟨rfl, hb3⟩
              have HB3 := hid (bel_then HB2.out HB2.out.size hb3)
              have q2 := HNB2.out w3 hb3
              clear hb3 HC3 HNB2
              cases Bv with
              | true =>
                cases xo with
                | true =>
                  go_wp2_with fail
                  go_ret2
                  exact ⟨by rw [HCL.out true true rfl rfl (Or.inl rfl)]; rfl, (HVW.out _ HB3.out).2⟩
                | false =>
                  go_wp2_with fail
                  go_ret2
                  exact ⟨by rw [HCL.out true true rfl rfl (Or.inr rfl)]; rfl, (HVW.out _ HB3.out).2⟩
              | false =>
                cases xo with
                | true =>
                  go_wp2_with fail
                  go_ret2
                  exact ⟨by rw [HCL.out true false rfl rfl (Or.inl rfl)]; rfl, (HVW.out _ HB3.out).2⟩
                | false =>
                  go_wp2_with fail
                  go_roundg (D.length - (i + 1))
                  case measure => omega
                  exact ⟨i + 1, true, false, rfl, rfl, by go_num, by omega, by omega, HB3.out, HSN.out true false rfl rfl rfl rfl⟩
            | false =>
              go_wp2_with fail
              clear q2 q3 q4
              refine HC3.out.mono ?_
              rintro e w3 ⟨rfl, hb3⟩
              have HB3 := hid (bel_then HB2.out HB2.out.size hb3)
              have q2 := HNB2.out w3 hb3
              clear hb3 HC3 HNB2
              cases Bv with
              | true =>
                cases xo with
                | true =>
                  go_wp2_with fail
                  go_ret2
                  exact ⟨by rw [HCL.out false true rfl rfl (Or.inr rfl)]; rfl, (HVW.out _ HB3.out).2⟩
                | false =>
                  go_wp2_with fail
                  go_ret2
                  exact ⟨by rw [HCL.out false true rfl rfl (Or.inr rfl)]; rfl, (HVW.out _ HB3.out).2⟩
              | false =>
                cases xo with
                | true =>
                  go_wp2_with fail
                  go_roundg (D.length - (i + 1))
                  case measure => omega
                  exact ⟨i + 1, true, false, rfl, rfl, by go_num, by omega, by omega, HB3.out, HSN.out false false rfl rfl rfl rfl⟩
                | false =>
                  go_wp2_with fail
                  go_roundg (D.length - (i + 1))
                  case measure => omega
                  exact ⟨i + 1, true, false, rfl, rfl, by go_num, by omega, by omega, HB3.out, HSN.out false false rfl rfl rfl rfl⟩
          | false =>
            cases A with
            | true =>
              go_wp2_with fail
              clear q2 q3 q4
              refine HC3.out.mono ?_
              rintro e w3 ⟨rfl, hb3⟩
              have HB3 := hid (bel_then HB2.out HB2.out.size hb3)
              have q2 := HNB2.out w3 hb3
              clear hb3 HC3 HNB2
              cases Bv with
              | true =>
                cases xo with
                | true =>
                  go_wp2_with fail
                  go_ret2
                  exact ⟨by rw [HCL.out true true rfl rfl (Or.inl rfl)]; rfl, (HVW.out _ HB3.out).2⟩
                | false =>
                  go_wp2_with fail
                  go_ret2
                  exact ⟨by rw [HCL.out true true rfl rfl (Or.inr rfl)]; rfl, (HVW.out _ HB3.out).2⟩
              | false =>
                cases xo with
                | true =>
                  go_wp2_with fail
                  go_ret2
                  exact ⟨by rw [HCL.out true false rfl rfl (Or.inl rfl)]; rfl, (HVW.out _ HB3.out).2⟩
                | false =>
                  go_wp2_with fail
                  go_roundg (D.length - (i + 1))
                  case measure => omega
                  exact ⟨i + 1, true, false, rfl, rfl, by go_num, by omega, by omega, HB3.out, HSN.out true false rfl rfl rfl rfl⟩
            | false =>
              go_wp2_with fail
              clear q2 q3 q4
              refine HC3.out.mono ?_
              rintro e w3 ⟨rfl, hb3⟩
              have HB3 := hid (bel_then HB2.out HB2.out.size hb3)
              have q2 := HNB2.out w3 hb3
              clear hb3 HC3 HNB2
              cases Bv with
              | true =>
                cases xo with
                | true =>
                  go_wp2_with fail
                  go_roundg (D.length - (i + 1))
                  case measure => omega
                  exact ⟨i + 1, false, true, rfl, rfl, by go_num, by omega, by omega, HB3.out, HSN.out false true rfl rfl rfl rfl⟩
                | false =>
                  go_wp2_with fail
                  go_roundg (D.length - (i + 1))
                  case measure => omega
                  exact ⟨i + 1, false, true, rfl, rfl, by go_num, by omega, by omega, HB3.out, HSN.out false true rfl rfl rfl rfl⟩
              | false =>
                cases xo with
                | true =>
                  go_wp2_with fail
                  go_roundg (D.length - (i + 1))
                  case measure => omega
                  exact ⟨i + 1, false, false, rfl, rfl, by go_num, by omega, by omega, HB3.out, HSN.out false false rfl rfl rfl rfl⟩
                | false =>
                  go_wp2_with fail
                  go_roundg (D.length - (i + 1))
                  case measure => omega
                  exact ⟨i + 1, false, false, rfl, rfl, by go_num, by omega, by omega, HB3.out, HSN.out false false rfl rfl rfl rfl⟩
      · have hltz : ¬ (i : Int) < (D.length : Int) := by omega
        have hti : D.take i = D := List.take_of_length_le (by omega)
        rw [hti] at HSE
        have HE := hid (HFI1.out out inn HSE.out)
        go_wp2_with fail
        go_ret2
        exact ⟨by rw [HE.out]; rfl, by have q := (HVW.out _ HBR.out).2; rw [hM] at q; exact q⟩

set_option maxHeartbeats 1000000 in
theorem tcheck_nil (W : World) (s : Int) (m : Mx) (v : Value) : Calls Try.prog 20 #[.pointer none, .int .u64 s, .agg (encMx m).toArray, v] W fun e w' => e = .returned (.tuple #[.bool false, .int .i64 1]) ∧ Below W.heap.size W w' := by
  obtain ⟨mkp, mkc, mks, mrp, mrc, mrs⟩ := m
  simp only [encMx, Mx.ksl, Mx.rsl] at *
  go_enter Try.func20, Try.ntmps20
  go_wp2_with fail
  go_ret2
  exact ⟨rfl, (Below.refl _ _).alloc (Nat.le_refl _) _⟩

end Go.Proofs.Ytmihddbnddgfhaa

/-
  Package track (stage 13), whole: what the laws lean on.
-/
namespace Go.Proofs.Ytmihddbnddgfhaa
open Go.RowKit

set_option maxHeartbeats 1000000 in
theorem tadd_nil (W : World) (d : Dx) : Calls Try.prog 22 #[.pointer none, .agg (encDx d).toArray] W fun e w' => e = .returned (.int .i64 1) ∧ Below W.heap.size W w' := by
  obtain ⟨xs, xt, xo, ⟨mkp, mkc, mks, mrp, mrc, mrs⟩, xcp, xcc, xcs⟩ := d
  simp only [encDx, Mx.ksl, Mx.rsl, Dx.csl] at *
  go_enter Try.func22, Try.ntmps22
  go_wp2_with fail
  go_ret
  exact ⟨rfl, (Below.refl _ _).alloc (Nat.le_refl _) _⟩

/-- A tracker of the program, by what it keeps. -/
def PrgT13 (n0 : Nat) (W : World) (B : Nat → Prop) (g : Nat) (t : Tk) : Prop := ∃ ds va last, TrkM n0 W g t ds va last ∧ B = BlkTr g ds va

theorem prgT_turn {n0 : Nat} {W : World} {g : Nat} {ds : List Dx} {va : Value} {t' : Tk} {w' : World} (h : TrkPost n0 W g ds va t' w') : YTurn PrgT13 n0 W (BlkTr g ds va) g t' w' := by
  obtain ⟨ds', va', last', h1, h2, h3⟩ := h
  exact ⟨BlkTr g ds' va', ⟨ds', va', last', h1, rfl⟩, h2, h3⟩

/-- Package track as it landed. -/
def theTrack : TrackApi where
  Prg := PrgT13
  blk := by
    rintro n0 W B g t ⟨ds, va, last, h, rfl⟩ k hk
    exact h.blk k hk
  own := by
    rintro n0 W B g t ⟨ds, va, last, h, rfl⟩
    exact Or.inl rfl
  fr := by
    rintro n0 W B g t W' P ⟨ds, va, last, h, rfl⟩ f hP
    exact ⟨ds, va, last, h.fr f hP, rfl⟩
  ok := by
    rintro n0 W B g t ⟨ds, va, last, h, rfl⟩
    exact h.ok
  new n0 W most hn := (tnew_any n0 W hn most).mono fun e w' ⟨he, h, hb⟩ => ⟨BlkTr W.heap.size [] (.slice none 0 0), W.heap.size, he, ⟨[], _, 0, h, rfl⟩, hb, fun k hk => by
    rcases hk with rfl | hk | ⟨d, hd, _⟩
    · exact Nat.le_refl _
    · cases hk
    · cases hd⟩
  check := by
    rintro n0 W B g t ⟨ds, va, last, h, rfl⟩ s m v cs _ _ hm hc hz
    exact tcheck_any h s m v cs hm hc hz
  add := by
    rintro n0 W B g t ⟨ds, va, last, h, rfl⟩ hn d hd
    exact (tadd_any h hn d hd).mono fun e w' q => ⟨q.1, prgT_turn q.2⟩
  drop := by
    rintro n0 W B g t ⟨ds, va, last, h, rfl⟩ hn s _ _
    exact (tdrop_any h s).mono fun e w' q => ⟨q.1, prgT_turn q.2⟩
  len := by
    rintro n0 W B g t ⟨ds, va, last, h, rfl⟩
    exact tlen_any h
  sum := by
    rintro n0 W B g t ⟨ds, va, last, h, rfl⟩
    exact tsum_any h
  list := by
    rintro n0 W B g t ⟨ds, va, last, h, rfl⟩
    exact tlist_any h
  check_nil := tcheck_nil
  add_nil := tadd_nil
  drop_nil := tdrop_nil
  len_nil := tlen_nil
  sum_nil := tsum_nil
  list_nil := tlist_nil

end Go.Proofs.Ytmihddbnddgfhaa
