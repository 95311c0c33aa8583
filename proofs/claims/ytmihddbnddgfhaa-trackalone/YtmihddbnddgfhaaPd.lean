/-
  Texts of this claim, one behind the other: Ys2 Yc1 Yc2 Mtw Pu2 Pbx Mr6 Yc3 Yr1 Mq0 Yq0 Yq1 Pc1 Pc2 Pc3 Yq2.
-/
import Derived.Test.YtmihddbnddgfhaaPc
import Derived.Test.YtmihddbnddgfhaaPb
import Derived.Test.YtmihddbnddgfhaaPa
import Derived.Laws.MakeOwn
import Derived.Shelf.SlSortCmp.SmallK
import Derived.Deep.RegionHeld3
import Derived.Deep.QuietTactic
import Derived.BigQuiet
import Derived.Shelf.SlicesQ.Equal
import Derived.Shelf.SlicesQ.IndexFunc
/-
  The reference of stage 13: Same of the same done ones. (Written by mkys.py.)
-/
namespace Go.Proofs.Ytmihddbnddgfhaa
open Go.RowKit

/-- A done one that can be read. -/
structure DRd (W : World) (x : Dx) : Prop where
  mrk : MIn W x.m
  chg : ChgIn W x.csl x.cs
  len : LenM x.m
  few : x.cs.length ≤ 9000000000000000000
theorem DRd.on {W W' : World} {x : Dx} (h : DRd W x) (hb : Below W.heap.size W W') : DRd W' x := ⟨h.mrk.on hb, h.chg.on hb, h.len, h.few⟩
theorem DIn.rd {W : World} {x : Dx} (h : DIn W x) : DRd W x := ⟨h.mrk, h.chg, h.sz.len, by have := h.sz.chg; omega⟩

set_option linter.unusedSimpArgs false in
set_option maxHeartbeats 8000000 in
set_option maxRecDepth 100000 in
theorem same13_yes (v u : Value) (d e : List Dx) (w : World) (hv : KDx.Is w v d) (hu : KDx.Is w u e) (ha : ∀ x ∈ d, DRd w x) (hb : ∀ x ∈ e, DRd w x) (hl : d.length ≤ 9000000000000000000) (heq : d.map Dx.dn = e.map Dx.dn) :
    Calls Try.prog 16 #[v, u] w fun r w' => r = .returned (.bool true) ∧ Below w.heap.size w w' := by
  obtain ⟨p, cap, rfl, hd⟩ := hv
  obtain ⟨q, cap', rfl, he⟩ := hu
  have HD := hid hd
  have HE := hid he
  have HA := hid ha
  have HB := hid hb
  have HQ := hid heq
  have hle : e.length = d.length := by
    have := congrArg List.length heq
    simpa using this.symm
  clear hd he ha hb heq
  have HLE := hid hle
  obtain ⟨el, hel⟩ : ∃ el, e.length = el := ⟨_, rfl⟩
  rw [hel] at hle ⊢
  have HEL := hid hel
  subst hle
  clear hel
  go_enter Try.func16, Try.ntmps16
  go_wp2_with fail
  go_loopg [5] d.length (fun g vi wr => ∃ i : Nat, vi = .int .i64 i ∧ i ≤ d.length ∧ d.length - i ≤ g ∧ Hid (Below w.heap.size w wr))
  case atStart => exact ⟨0, rfl, by omega, by omega, Below.refl _ _⟩
  case round =>
    obtain ⟨i, rfl, hi, hgk, HW⟩ := hrel
    by_cases hlt : i < d.length
    · have hlt2 : i < e.length := by have h : e.length = d.length := HLE.out; omega
      have i1 : (0 : Int) ≤ ↑i := by omega
      have i2 : (↑i : Int) < ↑d.length := by omega
      obtain ⟨b1, o1, rfl, k1⟩ : ∃ b off, p = some ⟨b, off, none⟩ ∧ KDx.At w b off d := by
        rcases HD.out with h | h
        · rw [h] at hlt; simp at hlt
        · exact h
      obtain ⟨b2, o2, rfl, k2⟩ : ∃ b off, q = some ⟨b, off, none⟩ ∧ KDx.At w b off e := by
        rcases HE.out with h | h
        · rw [h] at hlt2; simp at hlt2
        · exact h
      have f1 := HA.out _ (List.getElem_mem hlt)
      have f2 := HB.out _ (List.getElem_mem hlt2)
      have hxy : Dx.dn d[i] = Dx.dn e[i] := by
        have h1 : (d.map Dx.dn)[i]? = (e.map Dx.dn)[i]? := by rw [HQ.out]
        rw [List.getElem?_map, List.getElem?_map, List.getElem?_eq_getElem hlt, List.getElem?_eq_getElem hlt2] at h1
        exact Option.some.inj h1
      have HS : Hid (∀ W, Below w.heap.size w W → (W.cell? ⟨b1, o1 + i * 6, none⟩ = some (.int .u64 (d[i]).snap) ∧ W.cell? ⟨b1, o1 + i * 6 + 1, none⟩ = some (.int .u64 (d[i]).stamp) ∧ W.cell? ⟨b1, o1 + i * 6 + 2, none⟩ = some (.bool (d[i]).out) ∧ W.cell? ⟨b1, o1 + i * 6 + 3, none⟩ = some ((d[i]).m.ksl) ∧ W.cell? ⟨b1, o1 + i * 6 + 4, none⟩ = some ((d[i]).m.rsl) ∧ W.cell? ⟨b1, o1 + i * 6 + 5, none⟩ = some ((d[i]).csl)) ∧ (W.cell? ⟨b2, o2 + i * 6, none⟩ = some (.int .u64 (e[i]).snap) ∧ W.cell? ⟨b2, o2 + i * 6 + 1, none⟩ = some (.int .u64 (e[i]).stamp) ∧ W.cell? ⟨b2, o2 + i * 6 + 2, none⟩ = some (.bool (e[i]).out) ∧ W.cell? ⟨b2, o2 + i * 6 + 3, none⟩ = some ((e[i]).m.ksl) ∧ W.cell? ⟨b2, o2 + i * 6 + 4, none⟩ = some ((e[i]).m.rsl) ∧ W.cell? ⟨b2, o2 + i * 6 + 5, none⟩ = some ((e[i]).csl))) := fun W hW => ⟨kdx_at (Kind.at_kept k1 hW) i hlt, kdx_at (Kind.at_kept k2 hW) i hlt2⟩
      obtain ⟨x, hx⟩ : ∃ x, d[i] = x := ⟨_, rfl⟩
      obtain ⟨y, hy⟩ : ∃ y, e[i] = y := ⟨_, rfl⟩
      rw [hx] at HS f1 hxy
      rw [hy] at HS f2 hxy
      clear hx hy
      obtain ⟨xs, xt, xo, xm, xcp, xcc, xcs⟩ := x
      obtain ⟨ys, yt, yo, ym, ycp, ycc, ycs⟩ := y
      injection hxy with e1 e2 e3 e4 e5
      have e1' : xs = ys := e1
      have e2' : xt = yt := e2
      have e3' : xo = yo := e3
      subst e1' e2' e3'
      have HC1 : Hid (∀ W, Below w.heap.size w W → Calls Try.prog 30 #[.agg (encMx xm).toArray, .agg (encMx ym).toArray] W fun r w' => r = .returned (.bool true) ∧ Below W.heap.size W w') := fun W hW => by
        have := equal12_any xm ym W (f1.mrk.on hW) (f2.mrk.on hW) f1.len f2.len
        rw [decide_eq_true e4] at this
        exact this
      have HC2 : Hid (∀ W, Below w.heap.size w W → Calls Try.prog 31 #[.slice xcp xcs.length xcc, .slice ycp ycs.length ycc] W fun r w' => r = .returned (.bool true) ∧ Below W.heap.size W w') := fun W hW =>
        samech_yes _ _ xcs ycs W (f1.chg.on hW).is (f2.chg.on hW).is (f1.chg.on hW).each (f2.chg.on hW).each f1.few e5
      clear e1 e2 e3 e4 e5
      obtain ⟨xkp, xkc, xks, xrp, xrc, xrs⟩ := xm
      obtain ⟨ykp, ykc, yks, yrp, yrc, yrs⟩ := ym
      simp only [Dx.csl, Mx.ksl, Mx.rsl, encMx] at HS HC1 HC2
      clear k1 k2 f1 f2
      go_upto_region 6 with fail
      have HWD : Hid (Below w.heap.size w wr.drew) := HW.out.drew
      refine wp_region_held_drew (S := fun w' => w'.cell? ⟨b1, o1 + i * 6, none⟩ = some (.int .u64 xs) ∧ w'.cell? ⟨b1, o1 + i * 6 + 1, none⟩ = some (.int .u64 xt) ∧ w'.cell? ⟨b1, o1 + i * 6 + 2, none⟩ = some (.bool xo) ∧ w'.cell? ⟨b1, o1 + i * 6 + 3, none⟩ = some (.slice xkp xks.length xkc) ∧ w'.cell? ⟨b1, o1 + i * 6 + 4, none⟩ = some (.slice xrp xrs.length xrc) ∧ w'.cell? ⟨b1, o1 + i * 6 + 5, none⟩ = some (.slice xcp xcs.length xcc) ∧ w'.cell? ⟨b2, o2 + i * 6, none⟩ = some (.int .u64 xs) ∧ w'.cell? ⟨b2, o2 + i * 6 + 1, none⟩ = some (.int .u64 xt) ∧ w'.cell? ⟨b2, o2 + i * 6 + 2, none⟩ = some (.bool xo) ∧ w'.cell? ⟨b2, o2 + i * 6 + 3, none⟩ = some (.slice ykp yks.length ykc) ∧ w'.cell? ⟨b2, o2 + i * 6 + 4, none⟩ = some (.slice yrp yrs.length yrc) ∧ w'.cell? ⟨b2, o2 + i * 6 + 5, none⟩ = some (.slice ycp ycs.length ycc)) (by kernel_rfl) (by have := HS.out _ HWD.out; simpa only [and_assoc] using this) (fun hHeld => ?_)
      refine take_val (i := 0) (.slice (some ⟨b1, o1, none⟩) d.length cap) rfl (by kernel_rfl) (by kernel_rfl) (by kernel_rfl) (fun _ _ _ h => h) (by rfl) (fun w hSw => by go_simp) hHeld ?_
      simp only [Act.put, List.setIfInBounds_toArray, List.set_cons_zero, List.set_cons_succ]
      refine take_val (i := 1) (.int .i64 i) rfl (by kernel_rfl) (by kernel_rfl) (by kernel_rfl) (fun _ _ _ h => h) (by rfl) (fun w hSw => by go_simp) hHeld ?_
      simp only [Act.put, List.setIfInBounds_toArray, List.set_cons_zero, List.set_cons_succ]
      refine take_val (i := 2) (.pointer (some ⟨b1, o1 + i * 6, none⟩)) rfl (by kernel_rfl) (by kernel_rfl) (by kernel_rfl) (fun _ _ _ h => h) (by rfl) (fun w hSw => by go_simp) hHeld ?_
      simp only [Act.put, List.setIfInBounds_toArray, List.set_cons_zero, List.set_cons_succ]
      refine take_val (i := 3) (.pointer (some ⟨b1, o1 + i * 6, none⟩)) rfl (by kernel_rfl) (by kernel_rfl) (by kernel_rfl) (fun _ _ _ h => h) (by rfl) (fun w hSw => by go_simp) hHeld ?_
      simp only [Act.put, List.setIfInBounds_toArray, List.set_cons_zero, List.set_cons_succ]
      refine take_val (i := 4) (.int .u64 xs) rfl (by kernel_rfl) (by kernel_rfl) (by kernel_rfl) (fun _ _ _ h => h) (by rfl) (fun w hSw => by go_simp) hHeld ?_
      simp only [Act.put, List.setIfInBounds_toArray, List.set_cons_zero, List.set_cons_succ]
      refine take_val (i := 5) (.slice (some ⟨b2, o2, none⟩) d.length cap') rfl (by kernel_rfl) (by kernel_rfl) (by kernel_rfl) (fun _ _ _ h => h) (by rfl) (fun w hSw => by go_simp) hHeld ?_
      simp only [Act.put, List.setIfInBounds_toArray, List.set_cons_zero, List.set_cons_succ]
      refine take_val (i := 6) (.int .i64 i) rfl (by kernel_rfl) (by kernel_rfl) (by kernel_rfl) (fun _ _ _ h => h) (by rfl) (fun w hSw => by go_simp) hHeld ?_
      simp only [Act.put, List.setIfInBounds_toArray, List.set_cons_zero, List.set_cons_succ]
      refine take_val (i := 7) (.pointer (some ⟨b2, o2 + i * 6, none⟩)) rfl (by kernel_rfl) (by kernel_rfl) (by kernel_rfl) (fun _ _ _ h => h) (by rfl) (fun w hSw => by go_simp) hHeld ?_
      simp only [Act.put, List.setIfInBounds_toArray, List.set_cons_zero, List.set_cons_succ]
      refine take_val (i := 8) (.pointer (some ⟨b2, o2 + i * 6, none⟩)) rfl (by kernel_rfl) (by kernel_rfl) (by kernel_rfl) (fun _ _ _ h => h) (by rfl) (fun w hSw => by go_simp) hHeld ?_
      simp only [Act.put, List.setIfInBounds_toArray, List.set_cons_zero, List.set_cons_succ]
      refine take_val (i := 9) (.int .u64 xs) rfl (by kernel_rfl) (by kernel_rfl) (by kernel_rfl) (fun _ _ _ h => h) (by rfl) (fun w hSw => by go_simp) hHeld ?_
      simp only [Act.put, List.setIfInBounds_toArray, List.set_cons_zero, List.set_cons_succ]
      refine take_val (i := 10) (.bool false) rfl (by kernel_rfl) (by kernel_rfl) (by kernel_rfl) (fun _ _ _ h => h) (by rfl) (fun w hSw => by go_simp) hHeld ?_
      simp only [Act.put, List.setIfInBounds_toArray, List.set_cons_zero, List.set_cons_succ]
      refine take_val (i := 11) (.bool false) rfl (by kernel_rfl) (by kernel_rfl) (by kernel_rfl) (fun _ _ _ h => h) (by rfl) (fun w hSw => by go_simp) hHeld ?_
      simp only [Act.put, List.setIfInBounds_toArray, List.set_cons_zero, List.set_cons_succ]
      refine take_val (i := 12) (.slice (some ⟨b1, o1, none⟩) d.length cap) rfl (by kernel_rfl) (by kernel_rfl) (by kernel_rfl) (fun _ _ _ h => h) (by rfl) (fun w hSw => by go_simp) hHeld ?_
      simp only [Act.put, List.setIfInBounds_toArray, List.set_cons_zero, List.set_cons_succ]
      refine take_val (i := 13) (.int .i64 i) rfl (by kernel_rfl) (by kernel_rfl) (by kernel_rfl) (fun _ _ _ h => h) (by rfl) (fun w hSw => by go_simp) hHeld ?_
      simp only [Act.put, List.setIfInBounds_toArray, List.set_cons_zero, List.set_cons_succ]
      refine take_val (i := 14) (.pointer (some ⟨b1, o1 + i * 6, none⟩)) rfl (by kernel_rfl) (by kernel_rfl) (by kernel_rfl) (fun _ _ _ h => h) (by rfl) (fun w hSw => by go_simp) hHeld ?_
      simp only [Act.put, List.setIfInBounds_toArray, List.set_cons_zero, List.set_cons_succ]
      refine take_val (i := 15) (.pointer (some ⟨b1, o1 + i * 6 + 1, none⟩)) rfl (by kernel_rfl) (by kernel_rfl) (by kernel_rfl) (fun _ _ _ h => h) (by rfl) (fun w hSw => by go_simp) hHeld ?_
      simp only [Act.put, List.setIfInBounds_toArray, List.set_cons_zero, List.set_cons_succ]
      refine take_val (i := 16) (.int .u64 xt) rfl (by kernel_rfl) (by kernel_rfl) (by kernel_rfl) (fun _ _ _ h => h) (by rfl) (fun w hSw => by go_simp) hHeld ?_
      simp only [Act.put, List.setIfInBounds_toArray, List.set_cons_zero, List.set_cons_succ]
      refine take_val (i := 17) (.slice (some ⟨b2, o2, none⟩) d.length cap') rfl (by kernel_rfl) (by kernel_rfl) (by kernel_rfl) (fun _ _ _ h => h) (by rfl) (fun w hSw => by go_simp) hHeld ?_
      simp only [Act.put, List.setIfInBounds_toArray, List.set_cons_zero, List.set_cons_succ]
      refine take_val (i := 18) (.int .i64 i) rfl (by kernel_rfl) (by kernel_rfl) (by kernel_rfl) (fun _ _ _ h => h) (by rfl) (fun w hSw => by go_simp) hHeld ?_
      simp only [Act.put, List.setIfInBounds_toArray, List.set_cons_zero, List.set_cons_succ]
      refine take_val (i := 19) (.pointer (some ⟨b2, o2 + i * 6, none⟩)) rfl (by kernel_rfl) (by kernel_rfl) (by kernel_rfl) (fun _ _ _ h => h) (by rfl) (fun w hSw => by go_simp) hHeld ?_
      simp only [Act.put, List.setIfInBounds_toArray, List.set_cons_zero, List.set_cons_succ]
      refine take_val (i := 20) (.pointer (some ⟨b2, o2 + i * 6 + 1, none⟩)) rfl (by kernel_rfl) (by kernel_rfl) (by kernel_rfl) (fun _ _ _ h => h) (by rfl) (fun w hSw => by go_simp) hHeld ?_
      simp only [Act.put, List.setIfInBounds_toArray, List.set_cons_zero, List.set_cons_succ]
      refine take_val (i := 21) (.int .u64 xt) rfl (by kernel_rfl) (by kernel_rfl) (by kernel_rfl) (fun _ _ _ h => h) (by rfl) (fun w hSw => by go_simp) hHeld ?_
      simp only [Act.put, List.setIfInBounds_toArray, List.set_cons_zero, List.set_cons_succ]
      refine take_val (i := 22) (.bool false) rfl (by kernel_rfl) (by kernel_rfl) (by kernel_rfl) (fun _ _ _ h => h) (by rfl) (fun w hSw => by go_simp) hHeld ?_
      simp only [Act.put, List.setIfInBounds_toArray, List.set_cons_zero, List.set_cons_succ]
      refine take_val (i := 23) (.bool false) rfl (by kernel_rfl) (by kernel_rfl) (by kernel_rfl) (fun _ _ _ h => h) (by rfl) (fun w hSw => by go_simp) hHeld ?_
      simp only [Act.put, List.setIfInBounds_toArray, List.set_cons_zero, List.set_cons_succ]
      refine take_val (i := 24) (.bool false) rfl (by kernel_rfl) (by kernel_rfl) (by kernel_rfl) (fun _ _ _ h => h) (by rfl) (fun w hSw => by go_simp) hHeld ?_
      simp only [Act.put, List.setIfInBounds_toArray, List.set_cons_zero, List.set_cons_succ]
      refine take_val (i := 25) (.slice (some ⟨b1, o1, none⟩) d.length cap) rfl (by kernel_rfl) (by kernel_rfl) (by kernel_rfl) (fun _ _ _ h => h) (by rfl) (fun w hSw => by go_simp) hHeld ?_
      simp only [Act.put, List.setIfInBounds_toArray, List.set_cons_zero, List.set_cons_succ]
      refine take_val (i := 26) (.int .i64 i) rfl (by kernel_rfl) (by kernel_rfl) (by kernel_rfl) (fun _ _ _ h => h) (by rfl) (fun w hSw => by go_simp) hHeld ?_
      simp only [Act.put, List.setIfInBounds_toArray, List.set_cons_zero, List.set_cons_succ]
      refine take_val (i := 27) (.pointer (some ⟨b1, o1 + i * 6, none⟩)) rfl (by kernel_rfl) (by kernel_rfl) (by kernel_rfl) (fun _ _ _ h => h) (by rfl) (fun w hSw => by go_simp) hHeld ?_
      simp only [Act.put, List.setIfInBounds_toArray, List.set_cons_zero, List.set_cons_succ]
      refine take_val (i := 28) (.pointer (some ⟨b1, o1 + i * 6 + 2, none⟩)) rfl (by kernel_rfl) (by kernel_rfl) (by kernel_rfl) (fun _ _ _ h => h) (by rfl) (fun w hSw => by go_simp) hHeld ?_
      simp only [Act.put, List.setIfInBounds_toArray, List.set_cons_zero, List.set_cons_succ]
      refine take_val (i := 29) (.bool xo) rfl (by kernel_rfl) (by kernel_rfl) (by kernel_rfl) (fun _ _ _ h => h) (by rfl) (fun w hSw => by go_simp) hHeld ?_
      simp only [Act.put, List.setIfInBounds_toArray, List.set_cons_zero, List.set_cons_succ]
      refine take_val (i := 30) (.slice (some ⟨b2, o2, none⟩) d.length cap') rfl (by kernel_rfl) (by kernel_rfl) (by kernel_rfl) (fun _ _ _ h => h) (by rfl) (fun w hSw => by go_simp) hHeld ?_
      simp only [Act.put, List.setIfInBounds_toArray, List.set_cons_zero, List.set_cons_succ]
      refine take_val (i := 31) (.int .i64 i) rfl (by kernel_rfl) (by kernel_rfl) (by kernel_rfl) (fun _ _ _ h => h) (by rfl) (fun w hSw => by go_simp) hHeld ?_
      simp only [Act.put, List.setIfInBounds_toArray, List.set_cons_zero, List.set_cons_succ]
      refine take_val (i := 32) (.pointer (some ⟨b2, o2 + i * 6, none⟩)) rfl (by kernel_rfl) (by kernel_rfl) (by kernel_rfl) (fun _ _ _ h => h) (by rfl) (fun w hSw => by go_simp) hHeld ?_
      simp only [Act.put, List.setIfInBounds_toArray, List.set_cons_zero, List.set_cons_succ]
      refine take_val (i := 33) (.pointer (some ⟨b2, o2 + i * 6 + 2, none⟩)) rfl (by kernel_rfl) (by kernel_rfl) (by kernel_rfl) (fun _ _ _ h => h) (by rfl) (fun w hSw => by go_simp) hHeld ?_
      simp only [Act.put, List.setIfInBounds_toArray, List.set_cons_zero, List.set_cons_succ]
      refine take_val (i := 34) (.bool xo) rfl (by kernel_rfl) (by kernel_rfl) (by kernel_rfl) (fun _ _ _ h => h) (by rfl) (fun w hSw => by go_simp) hHeld ?_
      simp only [Act.put, List.setIfInBounds_toArray, List.set_cons_zero, List.set_cons_succ]
      refine take_val (i := 35) (.bool false) rfl (by kernel_rfl) (by kernel_rfl) (by kernel_rfl) (fun _ _ _ h => h) (by rfl) (fun w hSw => by go_simp) hHeld ?_
      simp only [Act.put, List.setIfInBounds_toArray, List.set_cons_zero, List.set_cons_succ]
      refine take_val (i := 36) (.bool false) rfl (by kernel_rfl) (by kernel_rfl) (by kernel_rfl) (fun _ _ _ h => h) (by rfl) (fun w hSw => by go_simp) hHeld ?_
      simp only [Act.put, List.setIfInBounds_toArray, List.set_cons_zero, List.set_cons_succ]
      refine take_val (i := 37) (.bool false) rfl (by kernel_rfl) (by kernel_rfl) (by kernel_rfl) (fun _ _ _ h => h) (by rfl) (fun w hSw => by go_simp) hHeld ?_
      simp only [Act.put, List.setIfInBounds_toArray, List.set_cons_zero, List.set_cons_succ]
      refine take_val (i := 38) (.slice (some ⟨b1, o1, none⟩) d.length cap) rfl (by kernel_rfl) (by kernel_rfl) (by kernel_rfl) (fun _ _ _ h => h) (by rfl) (fun w hSw => by go_simp) hHeld ?_
      simp only [Act.put, List.setIfInBounds_toArray, List.set_cons_zero, List.set_cons_succ]
      refine take_val (i := 39) (.int .i64 i) rfl (by kernel_rfl) (by kernel_rfl) (by kernel_rfl) (fun _ _ _ h => h) (by rfl) (fun w hSw => by go_simp) hHeld ?_
      simp only [Act.put, List.setIfInBounds_toArray, List.set_cons_zero, List.set_cons_succ]
      refine take_val (i := 40) (.pointer (some ⟨b1, o1 + i * 6, none⟩)) rfl (by kernel_rfl) (by kernel_rfl) (by kernel_rfl) (fun _ _ _ h => h) (by rfl) (fun w hSw => by go_simp) hHeld ?_
      simp only [Act.put, List.setIfInBounds_toArray, List.set_cons_zero, List.set_cons_succ]
      refine take_val (i := 41) (.pointer (some ⟨b1, o1 + i * 6 + 3, none⟩)) rfl (by kernel_rfl) (by kernel_rfl) (by kernel_rfl) (fun _ _ _ h => h) (by rfl) (fun w hSw => by go_simp) hHeld ?_
      simp only [Act.put, List.setIfInBounds_toArray, List.set_cons_zero, List.set_cons_succ]
      refine take_val (i := 42) (.agg #[.slice xkp xks.length xkc, .slice xrp xrs.length xrc]) rfl (by kernel_rfl) (by kernel_rfl) (by kernel_rfl) (fun _ _ _ h => h) (by rfl) (fun w hSw => by go_simp) hHeld ?_
      simp only [Act.put, List.setIfInBounds_toArray, List.set_cons_zero, List.set_cons_succ]
      refine take_val (i := 43) (.slice (some ⟨b2, o2, none⟩) d.length cap') rfl (by kernel_rfl) (by kernel_rfl) (by kernel_rfl) (fun _ _ _ h => h) (by rfl) (fun w hSw => by go_simp) hHeld ?_
      simp only [Act.put, List.setIfInBounds_toArray, List.set_cons_zero, List.set_cons_succ]
      refine take_val (i := 44) (.int .i64 i) rfl (by kernel_rfl) (by kernel_rfl) (by kernel_rfl) (fun _ _ _ h => h) (by rfl) (fun w hSw => by go_simp) hHeld ?_
      simp only [Act.put, List.setIfInBounds_toArray, List.set_cons_zero, List.set_cons_succ]
      refine take_val (i := 45) (.pointer (some ⟨b2, o2 + i * 6, none⟩)) rfl (by kernel_rfl) (by kernel_rfl) (by kernel_rfl) (fun _ _ _ h => h) (by rfl) (fun w hSw => by go_simp) hHeld ?_
      simp only [Act.put, List.setIfInBounds_toArray, List.set_cons_zero, List.set_cons_succ]
      refine take_val (i := 46) (.pointer (some ⟨b2, o2 + i * 6 + 3, none⟩)) rfl (by kernel_rfl) (by kernel_rfl) (by kernel_rfl) (fun _ _ _ h => h) (by rfl) (fun w hSw => by go_simp) hHeld ?_
      simp only [Act.put, List.setIfInBounds_toArray, List.set_cons_zero, List.set_cons_succ]
      refine take_val (i := 47) (.agg #[.slice ykp yks.length ykc, .slice yrp yrs.length yrc]) rfl (by kernel_rfl) (by kernel_rfl) (by kernel_rfl) (fun _ _ _ h => h) (by rfl) (fun w hSw => by go_simp) hHeld ?_
      simp only [Act.put, List.setIfInBounds_toArray, List.set_cons_zero, List.set_cons_succ]
      clear hHeld
      refine wpAnyH_ready (rs := [48]) (by kernel_rfl) (by simp) ?_
      refine AllReadyH.cons (at_drop0 rfl) (fun K hK => ?_) AllReadyH.nil
      rw [if_pos (by rfl)]
      go_simp
      refine (HC1.out _ HWD.out).mono ?_
      rintro z w1 ⟨rfl, hq⟩
      have HB1 : Hid (Below w.heap.size w w1) := bel_then HWD.out (HWD.out).size hq
      clear hq
      go_wp2_with fail
      refine hK.out _ _ ((by have := HS.out _ HB1.out; simpa only [and_assoc] using this)) (fun hHeld => ?_)
      clear hK K
      try simp only [Act.put, List.setIfInBounds_toArray, List.set_cons_zero, List.set_cons_succ]
      refine take_val (i := 49) (.bool false) rfl (by kernel_rfl) (by kernel_rfl) (by kernel_rfl) (fun _ _ _ h => h) (by rfl) (fun w hSw => by go_simp) hHeld ?_
      simp only [Act.put, List.setIfInBounds_toArray, List.set_cons_zero, List.set_cons_succ]
      refine take_val (i := 50) (.bool false) rfl (by kernel_rfl) (by kernel_rfl) (by kernel_rfl) (fun _ _ _ h => h) (by rfl) (fun w hSw => by go_simp) hHeld ?_
      simp only [Act.put, List.setIfInBounds_toArray, List.set_cons_zero, List.set_cons_succ]
      refine take_val (i := 51) (.bool false) rfl (by kernel_rfl) (by kernel_rfl) (by kernel_rfl) (fun _ _ _ h => h) (by rfl) (fun w hSw => by go_simp) hHeld ?_
      simp only [Act.put, List.setIfInBounds_toArray, List.set_cons_zero, List.set_cons_succ]
      refine take_val (i := 52) (.slice (some ⟨b1, o1, none⟩) d.length cap) rfl (by kernel_rfl) (by kernel_rfl) (by kernel_rfl) (fun _ _ _ h => h) (by rfl) (fun w hSw => by go_simp) hHeld ?_
      simp only [Act.put, List.setIfInBounds_toArray, List.set_cons_zero, List.set_cons_succ]
      refine take_val (i := 53) (.int .i64 i) rfl (by kernel_rfl) (by kernel_rfl) (by kernel_rfl) (fun _ _ _ h => h) (by rfl) (fun w hSw => by go_simp) hHeld ?_
      simp only [Act.put, List.setIfInBounds_toArray, List.set_cons_zero, List.set_cons_succ]
      refine take_val (i := 54) (.pointer (some ⟨b1, o1 + i * 6, none⟩)) rfl (by kernel_rfl) (by kernel_rfl) (by kernel_rfl) (fun _ _ _ h => h) (by rfl) (fun w hSw => by go_simp) hHeld ?_
      simp only [Act.put, List.setIfInBounds_toArray, List.set_cons_zero, List.set_cons_succ]
      refine take_val (i := 55) (.pointer (some ⟨b1, o1 + i * 6 + 5, none⟩)) rfl (by kernel_rfl) (by kernel_rfl) (by kernel_rfl) (fun _ _ _ h => h) (by rfl) (fun w hSw => by go_simp) hHeld ?_
      simp only [Act.put, List.setIfInBounds_toArray, List.set_cons_zero, List.set_cons_succ]
      refine take_val (i := 56) (.slice xcp xcs.length xcc) rfl (by kernel_rfl) (by kernel_rfl) (by kernel_rfl) (fun _ _ _ h => h) (by rfl) (fun w hSw => by go_simp) hHeld ?_
      simp only [Act.put, List.setIfInBounds_toArray, List.set_cons_zero, List.set_cons_succ]
      refine take_val (i := 57) (.slice (some ⟨b2, o2, none⟩) d.length cap') rfl (by kernel_rfl) (by kernel_rfl) (by kernel_rfl) (fun _ _ _ h => h) (by rfl) (fun w hSw => by go_simp) hHeld ?_
      simp only [Act.put, List.setIfInBounds_toArray, List.set_cons_zero, List.set_cons_succ]
      refine take_val (i := 58) (.int .i64 i) rfl (by kernel_rfl) (by kernel_rfl) (by kernel_rfl) (fun _ _ _ h => h) (by rfl) (fun w hSw => by go_simp) hHeld ?_
      simp only [Act.put, List.setIfInBounds_toArray, List.set_cons_zero, List.set_cons_succ]
      refine take_val (i := 59) (.pointer (some ⟨b2, o2 + i * 6, none⟩)) rfl (by kernel_rfl) (by kernel_rfl) (by kernel_rfl) (fun _ _ _ h => h) (by rfl) (fun w hSw => by go_simp) hHeld ?_
      simp only [Act.put, List.setIfInBounds_toArray, List.set_cons_zero, List.set_cons_succ]
      refine take_val (i := 60) (.pointer (some ⟨b2, o2 + i * 6 + 5, none⟩)) rfl (by kernel_rfl) (by kernel_rfl) (by kernel_rfl) (fun _ _ _ h => h) (by rfl) (fun w hSw => by go_simp) hHeld ?_
      simp only [Act.put, List.setIfInBounds_toArray, List.set_cons_zero, List.set_cons_succ]
      refine take_val (i := 61) (.slice ycp ycs.length ycc) rfl (by kernel_rfl) (by kernel_rfl) (by kernel_rfl) (fun _ _ _ h => h) (by rfl) (fun w hSw => by go_simp) hHeld ?_
      simp only [Act.put, List.setIfInBounds_toArray, List.set_cons_zero, List.set_cons_succ]
      clear hHeld
      refine wpAnyH_ready (rs := [62]) (by kernel_rfl) (by simp) ?_
      refine AllReadyH.cons (at_drop0 rfl) (fun K hK => ?_) AllReadyH.nil
      rw [if_pos (by rfl)]
      go_simp
      refine (HC2.out _ HB1.out).mono ?_
      rintro z w2 ⟨rfl, hq⟩
      have HB2 : Hid (Below w.heap.size w w2) := bel_then HB1.out (HB1.out).size hq
      clear hq
      go_wp2_with fail
      refine hK.out _ _ ((by have := HS.out _ HB2.out; simpa only [and_assoc] using this)) (fun hHeld => ?_)
      clear hK K
      try simp only [Act.put, List.setIfInBounds_toArray, List.set_cons_zero, List.set_cons_succ]
      refine take_val (i := 63) (.bool false) rfl (by kernel_rfl) (by kernel_rfl) (by kernel_rfl) (fun _ _ _ h => h) (by rfl) (fun w hSw => by go_simp) hHeld ?_
      simp only [Act.put, List.setIfInBounds_toArray, List.set_cons_zero, List.set_cons_succ]
      refine take_val (i := 64) (.bool false) rfl (by kernel_rfl) (by kernel_rfl) (by kernel_rfl) (fun _ _ _ h => h) (by rfl) (fun w hSw => by go_simp) hHeld ?_
      simp only [Act.put, List.setIfInBounds_toArray, List.set_cons_zero, List.set_cons_succ]
      refine wpAnyH_done (by kernel_rfl) ?_ _
      clear hHeld
      go_wp2_with fail
      go_roundg (d.length - (i + 1))
      case measure => omega
      exact ⟨i + 1, by go_num, by omega, by omega, HB2.out⟩
    · have hltz : ¬ (i : Int) < (d.length : Int) := by omega
      go_wp2_with fail
      go_ret
      exact ⟨rfl, HW.out⟩

end Go.Proofs.Ytmihddbnddgfhaa

/-
  The reference of stage 13: changes that are copied, one after the other. No walk.
-/
namespace Go.Proofs.Ytmihddbnddgfhaa
open Go.RowKit

theorem fit_same13 {o d : List Fx} (h : o.map Fx.fld = d.map Fx.fld) (hf : FitX d) : FitX o :=
  fitX_of h (by have := congrArg List.length h; simp at this; have h4 := hf.1; omega) fun f hf' => by
    obtain ⟨y, hy, rfl⟩ := List.mem_map.1 hf'
    exact hf.2 y hy
theorem copyX_same13 {o d : List Fx} (h : o.map Fx.fld = d.map Fx.fld) (hc : CopyX d) : CopyX o := by
  refine ⟨?_, fun x hx => ?_⟩
  · have := congrArg List.length h
    rw [List.length_map, List.length_map] at this
    rw [this]
    exact hc.1
  · have hm : x.fld ∈ d.map Fx.fld := by rw [← h]; exact List.mem_map_of_mem hx
    obtain ⟨y, hy, e⟩ := List.mem_map.1 hm
    have e2 : y.txt = x.txt := congrArg Prod.snd e
    rw [← e2]
    exact hc.2 y hy

/-- What Changes answers. -/
def ChPost (W : World) (l : List Ch) (e : Ending) (w' : World) : Prop :=
  ∃ p c cs, e = .returned (.slice p cs.length c) ∧ KCx.Own W.heap.size w' (.slice p cs.length c) cs ∧ (∀ x ∈ cs, COwn W.heap.size w' x ∧ CopyX x.wo ∧ CopyX x.io ∧ ∀ b, BlkCx x b → ¬ (Value.slice p cs.length c).ownBlock = some b) ∧ (cs.Pairwise fun c d => ∀ k, BlkCx c k → ¬ BlkCx d k) ∧ cs.map Cx.ch = l ∧ Below W.heap.size W w'

/-- Between two changes: those that were copied. -/
structure CcSt (W : World) (L : List Cx) (p : Option Addr) (c : Nat) (w : World) : Prop where
  row : RowSt KCx W.heap.size W (.slice p L.length c) L w
  each : ∀ x ∈ L, COwn W.heap.size w x ∧ CopyX x.wo ∧ CopyX x.io ∧ ∀ b, BlkCx x b → ¬ (Value.slice p L.length c).ownBlock = some b
  apart : L.Pairwise fun c d => ∀ k, BlkCx c k → ¬ BlkCx d k

theorem COwn.fr {N : Nat} {w w' : World} {x : Cx} {P : Nat → Prop} (h : COwn N w x) (f : Fr P w w') (hP : ∀ k, BlkCx x k → ¬ P k) : COwn N w' x :=
  ⟨ownJ_fr h.was f fun k hk => hP k (Or.inl hk), ownJ_fr h.is f fun k hk => hP k (Or.inr hk), h.wfit, h.ifit, h.apart, h.wcp, h.icp⟩
theorem COwn.on {N : Nat} {w w' : World} {x : Cx} (h : COwn N w x) (hb : Below w.heap.size w w') : COwn N w' x := h.fr (P := fun _ => False) (Fr.of_below hb) fun _ _ k => k
theorem COwn.blk {N : Nat} {w : World} {x : Cx} (h : COwn N w x) (k : Nat) (hk : BlkCx x k) : N ≤ k ∧ k < w.heap.size := hk.elim (ownJ_blk h.was k) (ownJ_blk h.is k)
theorem COwn.weak {N M : Nat} {w : World} {x : Cx} (h : COwn N w x) (hM : M ≤ N) : COwn M w x := ⟨own_weakJ h.was hM, own_weakJ h.is hM, h.wfit, h.ifit, h.apart, h.wcp, h.icp⟩
theorem COwn.inn {N : Nat} {w : World} {x : Cx} (h : COwn N w x) : CIn w x := ⟨h.was.1.is, h.wfit, h.is.1.is, h.ifit, h.wcp, h.icp⟩

theorem CcSt.on {W : World} {L : List Cx} {p : Option Addr} {c : Nat} {w w' : World} (h : CcSt W L p c w) (hb : Below w.heap.size w w') : CcSt W L p c w' :=
  ⟨h.row.on hb, fun x hx => ⟨(h.each x hx).1.on hb, (h.each x hx).2⟩, h.apart⟩
theorem CcSt.nil (W : World) : CcSt W [] none 0 W := ⟨RowSt.nil KCx (Below.refl _ _) (Nat.le_refl _), (fun x hx => by cases hx), List.Pairwise.nil⟩

/-- One more. -/
theorem CcSt.push {W : World} {L : List Cx} {p : Option Addr} {c : Nat} {w w' : World} {g c' : Nat} {x : Cx} (h : CcSt W L p c w) (hx : COwn W.heap.size w x) (hcx : CopyX x.wo ∧ CopyX x.io) (hxo : ∀ b, BlkCx x b → ¬ (Value.slice p L.length c).ownBlock = some b ∧ ∀ y ∈ L, ¬ BlkCx y b)
    (hst : RowSt KCx W.heap.size W (.slice (some ⟨g, 0, none⟩) (L.length + 1) c') (L ++ [x]) w') (hg : w.grownBy w' (Value.slice p L.length c).ownBlock) (hn : (Value.slice p L.length c).ownBlock = some g ∨ g = w.heap.size) : CcSt W (L ++ [x]) (some ⟨g, 0, none⟩) c' w' := by
  have hlen : (L ++ [x]).length = L.length + 1 := by simp
  have hf : Fr (fun b => (Value.slice p L.length c).ownBlock = some b) w w' := Fr.of_grown hg fun k hk => hk
  have hall : ∀ y ∈ L ++ [x], COwn W.heap.size w y ∧ CopyX y.wo ∧ CopyX y.io ∧ ∀ b, BlkCx y b → ¬ (Value.slice p L.length c).ownBlock = some b := fun y hy => by
    rcases List.mem_append.1 hy with h1 | h1
    · exact h.each y h1
    · rw [List.mem_singleton.1 h1]
      exact ⟨hx, hcx.1, hcx.2, fun b hb => (hxo b hb).1⟩
  refine ⟨by rw [hlen]; exact hst, fun y hy => ⟨(hall y hy).1.fr hf (hall y hy).2.2.2, (hall y hy).2.1, (hall y hy).2.2.1, fun b hb hb2 => ?_⟩, ?_⟩
  · rw [hlen] at hb2
    have e : b = g := by
      unfold Value.ownBlock at hb2
      simp at hb2
      omega
    subst e
    rcases hn with hn | hn
    · exact (hall y hy).2.2.2 b hb hn
    · have := ((hall y hy).1.blk b hb).2
      omega
  · rw [List.pairwise_append]
    refine ⟨h.apart, List.pairwise_singleton _ _, fun y hy z hz k h1 h2 => ?_⟩
    rw [List.mem_singleton] at hz
    subst hz
    exact (hxo k h2).2 y hy h1

/-- A change whose two values are being copied: k of calls and stores are done, fl of the loads. -/
structure ChSt13 (V : World) (G : Nat) (x : Cx) (k : Nat) (fl : List Bool) (t1 t2 t3 t4 : Value) (w : World) : Prop where
  fr : Fr (fun b => b = G) V w
  box : w.heap[G]? = some (.cells #[.string x.a, .string x.b, .bool x.wl, if 3 ≤ k then t2 else .slice x.wp x.wo.length x.wc, .bool x.il, if 4 ≤ k then t4 else .slice x.ip x.io.length x.ic] 70 (0, 0))
  f1 : fl[0]? = some true → t1 = .slice x.wp x.wo.length x.wc
  f2 : fl[1]? = some true → t3 = .slice x.ip x.io.length x.ic
  d1 : 1 ≤ k → fl[0]? = some true
  d2 : 2 ≤ k → fl[1]? = some true
  c1 : 1 ≤ k → ∃ o, OwnJ V.heap.size w t2 o ∧ o.map Fx.fld = x.wo.map Fx.fld ∧ (2 ≤ k → ∃ o', OwnJ V.heap.size w t4 o' ∧ o'.map Fx.fld = x.io.map Fx.fld ∧ ∀ b, BlkX t2 o b → ¬ BlkX t4 o' b)

section
variable {V : World} {G : Nat} {x : Cx} {k : Nat} {fl : List Bool} {t1 t2 t3 t4 : Value} {w : World}
theorem ch13_start (hb : V.heap[G]? = some (.cells #[.string x.a, .string x.b, .bool x.wl, .slice x.wp x.wo.length x.wc, .bool x.il, .slice x.ip x.io.length x.ic] 70 (0, 0))) (t1 t2 t3 t4 : Value) : ChSt13 V G x 0 [false, false] t1 t2 t3 t4 V :=
  ⟨Fr.refl _ _, hb, (fun h => by cases h), (fun h => by cases h), (fun h => by omega), (fun h => by omega), (fun h => by omega)⟩
theorem ch13_load1 {f2 : Bool} (h : ChSt13 V G x 0 [false, f2] t1 t2 t3 t4 w) : ChSt13 V G x 0 [true, f2] (.slice x.wp x.wo.length x.wc) t2 t3 t4 w :=
  ⟨h.fr, h.box, (fun _ => rfl), h.f2, (fun h => by omega), (fun h => by omega), (fun h => by omega)⟩
theorem ch13_load2 {f1 : Bool} (h : ChSt13 V G x k [f1, false] t1 t2 t3 t4 w) : ChSt13 V G x k [f1, true] t1 t2 (.slice x.ip x.io.length x.ic) t4 w :=
  ⟨h.fr, h.box, h.f1, (fun _ => rfl), h.d1, (fun _ => rfl), h.c1⟩
theorem ch13_call1 {f2 : Bool} {w' : World} {u : Value} {o : List Fx} (h : ChSt13 V G x 0 [true, f2] t1 t2 t3 t4 w) (hG : G < V.heap.size) (hb : Below w.heap.size w w') (ho : OwnJ w.heap.size w' u o) (hm : o.map Fx.fld = x.wo.map Fx.fld) : ChSt13 V G x 1 [true, f2] t1 u t3 t4 w' :=
  ⟨h.fr.then (Fr.of_below (P := fun _ => False) hb) fun _ h => h.elim, (hb.block G (by have := h.fr.size; omega)).trans h.box, h.f1, h.f2, (fun _ => rfl), (fun h => by omega), fun _ => ⟨o, own_weakJ ho h.fr.size, hm, fun h => by omega⟩⟩
theorem ch13_call2 {w' : World} {u : Value} {o : List Fx} (h : ChSt13 V G x 1 [true, true] t1 t2 t3 t4 w) (hG : G < V.heap.size) (hb : Below w.heap.size w w') (ho : OwnJ w.heap.size w' u o) (hm : o.map Fx.fld = x.io.map Fx.fld) : ChSt13 V G x 2 [true, true] t1 t2 t3 u w' := by
  obtain ⟨o1, h1, h2, _⟩ := h.c1 (Nat.le_refl _)
  refine ⟨h.fr.then (Fr.of_below (P := fun _ => False) hb) fun _ h => h.elim, (hb.block G (by have := h.fr.size; omega)).trans h.box, h.f1, h.f2, (fun _ => rfl), (fun _ => rfl), fun _ => ⟨o1, ownJ_fr h1 (Fr.of_below (P := fun _ => False) hb) fun _ _ k => k, h2, fun _ => ⟨o, own_weakJ ho h.fr.size, hm, fun b hb1 hb2 => ?_⟩⟩⟩
  have q1 := (ownJ_blk h1 b hb1).2
  have q2 := (ownJ_blk ho b hb2).1
  omega
theorem ch13_own {w' : World} (hf : Fr (fun b => b = G) w w') (hG : G < V.heap.size) (h : ∃ o, OwnJ V.heap.size w t2 o ∧ o.map Fx.fld = x.wo.map Fx.fld ∧ (2 ≤ k → ∃ o', OwnJ V.heap.size w t4 o' ∧ o'.map Fx.fld = x.io.map Fx.fld ∧ ∀ b, BlkX t2 o b → ¬ BlkX t4 o' b)) (hk : 2 ≤ k) :
    ∃ o, OwnJ V.heap.size w' t2 o ∧ o.map Fx.fld = x.wo.map Fx.fld ∧ ∃ o', OwnJ V.heap.size w' t4 o' ∧ o'.map Fx.fld = x.io.map Fx.fld ∧ ∀ b, BlkX t2 o b → ¬ BlkX t4 o' b := by
  obtain ⟨o, h1, h2, h3⟩ := h
  obtain ⟨o', h4, h5, h6⟩ := h3 hk
  exact ⟨o, ownJ_fr h1 hf fun b hb e => by have := (ownJ_blk h1 b hb).1; omega, h2, o', ownJ_fr h4 hf fun b hb e => by have := (ownJ_blk h4 b hb).1; omega, h5, h6⟩
theorem fr_set (w : World) (G j : Nat) (u : Value) : Fr (fun b => b = G) w (w.setCell ⟨G, j, none⟩ u) := by
  have hb : Below G w (w.setCell ⟨G, j, none⟩ u) := (Below.refl G w).setCell (Nat.le_refl _) _
  exact ⟨hb.os, hb.tape, hb.output, hb.size, fun k _ hn => heap_setCell_other _ _ k _ hn⟩
theorem ch13_store1 (h : ChSt13 V G x 2 [true, true] t1 t2 t3 t4 w) (hG : G < V.heap.size) : ChSt13 V G x 3 [true, true] t1 t2 t3 t4 (w.setCell ⟨G, 3, none⟩ t2) := by
  obtain ⟨o, h1, h2, o', h3⟩ := ch13_own (k := 2) (fr_set w G 3 t2) hG (h.c1 (by omega)) (Nat.le_refl _)
  exact ⟨h.fr.then (fr_set w G 3 t2) fun _ h => Or.inl h, heap_setCell_same _ G _ _ _ _ h.box, h.f1, h.f2, (fun _ => rfl), (fun _ => rfl), fun _ => ⟨o, h1, h2, fun _ => ⟨o', h3⟩⟩⟩
theorem ch13_store2 (h : ChSt13 V G x 3 [true, true] t1 t2 t3 t4 w) (hG : G < V.heap.size) : ChSt13 V G x 4 [true, true] t1 t2 t3 t4 (w.setCell ⟨G, 5, none⟩ t4) := by
  obtain ⟨o, h1, h2, o', h3⟩ := ch13_own (k := 3) (fr_set w G 5 t4) hG (h.c1 (by omega)) (by omega)
  exact ⟨h.fr.then (fr_set w G 5 t4) fun _ h => Or.inl h, heap_setCell_same _ G _ _ _ _ h.box, h.f1, h.f2, (fun _ => rfl), (fun _ => rfl), fun _ => ⟨o, h1, h2, fun _ => ⟨o', h3⟩⟩⟩
end

end Go.Proofs.Ytmihddbnddgfhaa

/-
  The reference of stage 13: Changes, a copy.
-/
namespace Go.Proofs.Ytmihddbnddgfhaa
open Go.RowKit

theorem Try.infoCx13 : (Try.prog.info? 70).map (fun i => (i.zero, i.size, i.bytes)) = some (some (.agg #[.string ⟨#[]⟩, .string ⟨#[]⟩, .bool false, .slice none 0 0, .bool false, .slice none 0 0]), 6, 96) := by kernel_rfl

/-- How far calls and stores are, behind k operations of the region. -/
def kk13 : Nat → Nat
  | 0 => 0
  | 1 => 1
  | 2 => 2
  | 3 => 3
  | 4 => 3
  | _ + 5 => 4

set_option linter.unusedSimpArgs false in
set_option maxHeartbeats 8000000 in
set_option maxRecDepth 100000 in
theorem changes13_any (v : Value) (l : List Cx) (w : World) (hv : ChgIn w v l) (hl : l.length ≤ 1466015503658) (hcp : ∀ x ∈ l, CopyX x.wo ∧ CopyX x.io) :
    Calls Try.prog 40 #[v] w fun e w' => ChPost w (l.map Cx.ch) e w' := by
  obtain ⟨i0, hi0, hz0, hz1, hz2⟩ := info_parts Try.infoCx13
  have HI0 := hid hi0
  clear hi0
  obtain ⟨⟨p, cap, rfl, hd⟩, hec⟩ := hv
  have HD := hid hd
  have HC := hid hec
  have HP := hid hcp
  clear hd hec hcp
  go_enter Try.func40, Try.ntmps40
  go_wp2_with fail
  go_loopg [3, 4] l.length (fun g vr vi wr => ∃ (i : Nat) (L : List Cx) (lp : Option Addr) (lc : Nat), vr = .slice lp L.length lc ∧ vi = .int .i64 i ∧ i ≤ l.length ∧ l.length - i ≤ g ∧ L.length ≤ i ∧ Hid (CcSt w L lp lc wr ∧ L.map Cx.ch = (l.take i).map Cx.ch))
  case atStart => exact ⟨0, [], none, 0, rfl, rfl, by omega, by omega, by simp, CcSt.nil w, by simp⟩
  case round =>
    obtain ⟨i, L, lp, lc, rfl, rfl, hi, hgk, hLi, HS⟩ := hrel
    by_cases hlt : i < l.length
    · have i1 : (0 : Int) ≤ ↑i := by omega
      have i2 : (↑i : Int) < ↑l.length := by omega
      obtain ⟨b1, o1, rfl, k1⟩ : ∃ b off, p = some ⟨b, off, none⟩ ∧ KCx.At w b off l := by
        rcases HD.out with h | h
        · rw [h] at hlt; simp at hlt
        · exact h
      have hbw : Below w.heap.size w wr := HS.out.1.row.bel
      obtain ⟨c0, c1, c2, c3, c4, c5⟩ := kcx_at (Kind.at_kept k1 hbw) i hlt
      have hx := HC.out _ (List.getElem_mem hlt)
      have hxp := HP.out _ (List.getElem_mem hlt)
      have HTK : Hid ((l.take (i + 1)).map Cx.ch = (l.take i).map Cx.ch ++ [(l[i]).ch]) := by
        show _ = _
        rw [List.take_succ_eq_append_getElem hlt, List.map_append]
        rfl
      generalize l[i] = x at *
      obtain ⟨G, hG⟩ : ∃ G, wr.heap.size = G := ⟨_, rfl⟩
      obtain ⟨V, hV⟩ : ∃ V, wr.alloc (.cells #[.string x.a, .string x.b, .bool x.wl, .slice x.wp x.wo.length x.wc, .bool x.il, .slice x.ip x.io.length x.ic] 70) = V := ⟨_, rfl⟩
      have hbV : Below wr.heap.size wr V.drew := by rw [← hV]; exact ((Below.refl _ _).alloc (Nat.le_refl _) _).drew
      have HBX : Hid (V.drew.heap[G]? = some (.cells #[.string x.a, .string x.b, .bool x.wl, .slice x.wp x.wo.length x.wc, .bool x.il, .slice x.ip x.io.length x.ic] 70 (0, 0))) := by
        show V.heap[G]? = _
        rw [← hV, ← hG]
        exact heap_alloc_new wr _
      have hsV : G < V.drew.heap.size := (Array.getElem?_eq_some_iff.1 HBX.out).1
      have HBL : Hid (∀ W', Fr (fun b => b = G) V.drew W' → Below wr.heap.size wr W' ∧ Below w.heap.size w W') := fun W' f => by
        have h1 : Below wr.heap.size wr W' := hbV.trans (f.below hbV.size fun k hk => by omega)
        exact ⟨h1, bel_then hbw hbw.size h1⟩
      have hsW : w.heap.size ≤ G := by rw [← hG]; exact hbw.size
      have HF1 : Hid (∀ W', Fr (fun b => b = G) V.drew W' → Calls Try.prog 56 #[.slice x.wp x.wo.length x.wc] W' fun e w' => ∃ u o, e = .returned u ∧ OwnJ W'.heap.size w' u o ∧ o.map Fx.fld = x.wo.map Fx.fld ∧ Below W'.heap.size W' w') := fun W' f => fields_any _ x.wo W' (hx.was.kept (HBL.out W' f).2) hx.wfit hxp.1
      have HF2 : Hid (∀ W', Fr (fun b => b = G) V.drew W' → Calls Try.prog 56 #[.slice x.ip x.io.length x.ic] W' fun e w' => ∃ u o, e = .returned u ∧ OwnJ W'.heap.size w' u o ∧ o.map Fx.fld = x.io.map Fx.fld ∧ Below W'.heap.size W' w') := fun W' f => fields_any _ x.io W' (hx.is.kept (HBL.out W' f).2) hx.ifit hxp.2
      have HXP := hid hxp
      have HX := hid hx
      clear k1 hbw hbV hx hxp
      go_upto_region 6 with fail
      try rw [hV]
      try rw [hG]
      clear c0 c1 c2 c3 c4 c5 hV
      have HG := hid hG
      clear hG
      refine wp_region_held_drew (S := fun _ => True) (by kernel_rfl) trivial (fun hHeld => ?_)
      refine take_val (i := 0) (.pointer (some ⟨G, 3, none⟩)) rfl (by kernel_rfl) (by kernel_rfl) (by kernel_rfl) (fun _ _ _ h => h) (by rfl) (fun w hSw => by go_simp) hHeld ?_
      simp only [Act.put, List.setIfInBounds_toArray, List.set_cons_zero, List.set_cons_succ]
      refine take_val (i := 3) (.pointer (some ⟨G, 5, none⟩)) rfl (by kernel_rfl) (by kernel_rfl) (by kernel_rfl) (fun _ _ _ h => h) (by rfl) (fun w hSw => by go_simp) hHeld ?_
      simp only [Act.put, List.setIfInBounds_toArray, List.set_cons_zero, List.set_cons_succ]
      clear hHeld
      refine wpAnyH_floats [2, 5, 7, 8, 9] [1, 4, 6] (fun a0 k fl a w' => ∃ t1 t2 t3 t4 t5 t6, a = putS a0 [(17, t1), (18, t2), (20, t3), (21, t4), (22, t5), (23, t6)] ∧ ChSt13 V.drew G x (kk13 k) (fl.take 2) t1 t2 t3 t4 w' ∧ (fl[2]? = some true → t5 = .pointer (some ⟨G, 3, none⟩)) ∧ (4 ≤ k → t6 = .pointer (some ⟨G, 5, none⟩))) (by kernel_rfl) (by decide) ⟨_, _, _, _, _, _, (putS_self _ [17, 18, 20, 21, 22, 23]).symm, ch13_start HBX.out _ _ _ _, (fun h => by cases h), (fun h => by omega)⟩ ?hS ?hmain ?halloc ?hend
      case hS =>
        intros
        trivial
      case hmain =>
        rintro k i' fl a w' hk hfl hrd ⟨t1, t2, t3, t4, t5, t6, rfl, hst, hp5, hp6⟩
        obtain ⟨f1, f2, f3, rfl⟩ : ∃ f1 f2 f3, fl = [f1, f2, f3] := by
          match fl, hfl with
          | [f1, f2, f3], _ => exact ⟨f1, f2, f3, rfl⟩
        rcases k with _ | _ | _ | _ | _ | k
        · obtain rfl : i' = 2 := by simpa using hk.symm
          cases f1 with
          | false => exact (not_ready hrd (by cases f2 <;> cases f3 <;> kernel_rfl)).elim
          | true =>
            obtain rfl := hst.f1 rfl
            have HST := hid hst
            have HP5 := hid hp5
            clear hst hrd hk hfl hp5 hp6
            refine ⟨_, at_drop0 rfl, fun K hK => ?_⟩
            simp only [putS, List.foldl_cons, List.foldl_nil, Act.put, List.setIfInBounds_toArray, List.set_cons_zero, List.set_cons_succ]
            rw [if_pos (by rfl)]
            go_simp
            refine (HF1.out w' HST.out.fr).mono ?_
            rintro e w2 ⟨u, o, rfl, ho, hm, hb2⟩
            have HS2 := hid (ch13_call1 HST.out hsV hb2 ho hm)
            clear ho hm hb2
            go_wp2_with fail
            exact hK.out _ _ ⟨_, u, t3, t4, t5, t6, rfl, HS2.out, HP5.out, (fun h => by omega)⟩
        · obtain rfl : i' = 5 := by simpa using hk.symm
          have h1 := hst.d1 (by decide)
          obtain rfl : f1 = true := by simpa using h1
          cases f2 with
          | false => exact (not_ready hrd (by cases f3 <;> kernel_rfl)).elim
          | true =>
            obtain rfl := hst.f2 rfl
            have HST := hid hst
            have HP5 := hid hp5
            clear hst hrd hk hfl h1 hp5 hp6
            refine ⟨_, at_drop0 rfl, fun K hK => ?_⟩
            simp only [putS, List.foldl_cons, List.foldl_nil, Act.put, List.setIfInBounds_toArray, List.set_cons_zero, List.set_cons_succ]
            rw [if_pos (by rfl)]
            go_simp
            refine (HF2.out w' HST.out.fr).mono ?_
            rintro e w2 ⟨u, o, rfl, ho, hm, hb2⟩
            have HS2 := hid (ch13_call2 HST.out hsV hb2 ho hm)
            clear ho hm hb2
            go_wp2_with fail
            exact hK.out _ _ ⟨t1, t2, _, u, t5, t6, rfl, HS2.out, HP5.out, (fun h => by omega)⟩
        · obtain rfl : i' = 7 := by simpa using hk.symm
          have h1 := hst.d1 (by decide)
          obtain rfl : f1 = true := by simpa using h1
          have h2 := hst.d2 (by decide)
          obtain rfl : f2 = true := by simpa using h2
          obtain ⟨o, q1, _⟩ := hst.c1 (by decide)
          obtain ⟨pu, cu, rfl⟩ := ownJ_slice q1
          have c0 : w'.cell? ⟨G, 3, none⟩ = some (.slice x.wp x.wo.length x.wc) := by rw [Lib.cell_of_heap hst.box]; rfl
          have z0 : w'.frozen? ⟨G, 3, none⟩ = false := Lib.frozen_of_heap hst.box 3
          have HS2 := hid (ch13_store1 hst hsV)
          cases f3 with
          | false => exact (not_ready hrd (by kernel_rfl)).elim
          | true =>
          obtain rfl := hp5 rfl
          clear hst hrd hk hfl h1 h2 q1 hp5 hp6
          refine ⟨_, at_drop0 rfl, fun K hK => ?_⟩
          simp only [putS, List.foldl_cons, List.foldl_nil, Act.put, List.setIfInBounds_toArray, List.set_cons_zero, List.set_cons_succ]
          rw [if_pos (by rfl)]
          go_simp
          go_wp2_with fail
          exact hK.out _ _ ⟨t1, _, t3, t4, _, t6, rfl, HS2.out, (fun _ => rfl), (fun h => by omega)⟩
        · obtain rfl : i' = 8 := by simpa using hk.symm
          have HST := hid hst
          have HP5 := hid hp5
          clear hst hrd hk hfl hp5 hp6
          refine ⟨_, at_drop0 rfl, fun K hK => ?_⟩
          simp only [putS, List.foldl_cons, List.foldl_nil, Act.put, List.setIfInBounds_toArray, List.set_cons_zero, List.set_cons_succ]
          rw [if_pos (by rfl)]
          go_simp
          go_wp2_with fail
          exact hK.out _ _ ⟨t1, t2, t3, t4, t5, _, rfl, HST.out, HP5.out, (fun _ => rfl)⟩
        · obtain rfl : i' = 9 := by simpa using hk.symm
          have h1 := hst.d1 (by decide)
          obtain rfl : f1 = true := by simpa using h1
          have h2 := hst.d2 (by decide)
          obtain rfl : f2 = true := by simpa using h2
          obtain ⟨o, _, _, q1⟩ := hst.c1 (by decide)
          obtain ⟨o', q2, _⟩ := q1 (by decide)
          obtain ⟨pu, cu, rfl⟩ := ownJ_slice q2
          have c0 : w'.cell? ⟨G, 5, none⟩ = some (.slice x.ip x.io.length x.ic) := by rw [Lib.cell_of_heap hst.box]; rfl
          have z0 : w'.frozen? ⟨G, 5, none⟩ = false := Lib.frozen_of_heap hst.box 5
          have HS2 := hid (ch13_store2 hst hsV)
          obtain rfl := hp6 (by omega)
          have HP5 := hid hp5
          clear hst hrd hk hfl h1 h2 q1 q2 hp5 hp6
          refine ⟨_, at_drop0 rfl, fun K hK => ?_⟩
          simp only [putS, List.foldl_cons, List.foldl_nil, Act.put, List.setIfInBounds_toArray, List.set_cons_zero, List.set_cons_succ]
          rw [if_pos (by rfl)]
          go_simp
          go_wp2_with fail
          exact hK.out _ _ ⟨t1, t2, t3, _, t5, _, rfl, HS2.out, HP5.out, (fun _ => rfl)⟩
        · simp at hk
      case halloc =>
        rintro j i' k fl a w' hj hk hfl hf ⟨t1, t2, t3, t4, t5, t6, rfl, hst, hp5, hp6⟩
        have HP5 := hid hp5
        have HP6 := hid hp6
        clear hp5 hp6
        obtain ⟨f1, f2, f3, rfl⟩ : ∃ f1 f2 f3, fl = [f1, f2, f3] := by
          match fl, hfl with
          | [f1, f2, f3], _ => exact ⟨f1, f2, f3, rfl⟩
        rcases j with _ | _ | _ | j
        · obtain rfl : i' = 1 := by simpa using hj.symm
          obtain rfl : f1 = false := by simpa using hf
          have hk0 : kk13 k = 0 := by
            rcases Nat.eq_zero_or_pos (kk13 k) with h | h
            · exact h
            · have := hst.d1 h
              simp at this
          rw [hk0] at hst
          have HK0 := hid hk0
          clear hk0
          have c0 : w'.cell? ⟨G, 3, none⟩ = some (.slice x.wp x.wo.length x.wc) := by rw [Lib.cell_of_heap hst.box]; rfl
          have HS2 := hid (ch13_load1 hst)
          clear hst hf hj hk hfl
          refine ⟨_, at_drop0 rfl, fun K hK => ?_⟩
          simp only [putS, List.foldl_cons, List.foldl_nil, Act.put, List.setIfInBounds_toArray, List.set_cons_zero, List.set_cons_succ]
          rw [if_pos (by rfl)]
          go_simp
          go_wp2_with fail
          exact hK.out _ _ ⟨_, t2, t3, t4, t5, t6, rfl, by rw [HK0.out]; exact HS2.out, HP5.out, HP6.out⟩
        · obtain rfl : i' = 4 := by simpa using hj.symm
          obtain rfl : f2 = false := by simpa using hf
          have hk0 : ¬ 4 ≤ kk13 k := fun h => by
            have := hst.d2 (by omega)
            simp at this
          have c0 : w'.cell? ⟨G, 5, none⟩ = some (.slice x.ip x.io.length x.ic) := by
            rw [Lib.cell_of_heap hst.box, if_neg hk0]; rfl
          have HS2 := hid (ch13_load2 hst)
          clear hst hf hj hk hfl hk0
          refine ⟨_, at_drop0 rfl, fun K hK => ?_⟩
          simp only [putS, List.foldl_cons, List.foldl_nil, Act.put, List.setIfInBounds_toArray, List.set_cons_zero, List.set_cons_succ]
          rw [if_pos (by rfl)]
          go_simp
          go_wp2_with fail
          exact hK.out _ _ ⟨t1, t2, _, t4, t5, t6, rfl, HS2.out, HP5.out, HP6.out⟩
        · obtain rfl : i' = 6 := by simpa using hj.symm
          have HST := hid hst
          clear hst hf hj hk hfl
          refine ⟨_, at_drop0 rfl, fun K hK => ?_⟩
          simp only [putS, List.foldl_cons, List.foldl_nil, Act.put, List.setIfInBounds_toArray, List.set_cons_zero, List.set_cons_succ]
          rw [if_pos (by rfl)]
          go_simp
          go_wp2_with fail
          exact hK.out _ _ ⟨t1, t2, t3, t4, _, t6, rfl, HST.out, (fun _ => rfl), HP6.out⟩
        · simp at hj
      case hend =>
        rintro a w3 ⟨t1, t2, t3, t4, t5, t6, rfl, hst, _, _⟩
        obtain ⟨o, q1, q2, q3⟩ := hst.c1 (by decide)
        obtain ⟨o', q4, q5, q6⟩ := q3 (by decide)
        obtain ⟨pu, cu, rfl⟩ := ownJ_slice q1
        obtain ⟨pv, cv, rfl⟩ := ownJ_slice q4
        have hbx : w3.heap[G]? = some (.cells #[.string x.a, .string x.b, .bool x.wl, .slice pu o.length cu, .bool x.il, .slice pv o'.length cv] 70 (0, 0)) := hst.box
        have hb3 := HBL.out w3 hst.fr
        have hVG : wr.heap.size ≤ V.drew.heap.size := by rw [HG.out]; omega
        have HC3 := hid (HS.out.1.on hb3.1)
        have HY : Hid (COwn w.heap.size w3 ⟨x.a, x.b, x.wl, pu, cu, o, x.il, pv, cv, o'⟩ ∧ (CopyX o ∧ CopyX o') ∧ ∀ b, BlkCx ⟨x.a, x.b, x.wl, pu, cu, o, x.il, pv, cv, o'⟩ b → ¬ (Value.slice lp L.length lc).ownBlock = some b ∧ ∀ y ∈ L, ¬ BlkCx y b) := by
          refine ⟨⟨own_weakJ q1 (by omega), own_weakJ q4 (by omega), fit_same13 q2 HX.out.wfit, fit_same13 q5 HX.out.ifit, q6, copyX_same13 q2 HXP.out.1, copyX_same13 q5 HXP.out.2⟩, ⟨copyX_same13 q2 HXP.out.1, copyX_same13 q5 HXP.out.2⟩, fun b hb => ?_⟩
          have hbb : V.drew.heap.size ≤ b := hb.elim (fun h => (ownJ_blk q1 b h).1) fun h => (ownJ_blk q4 b h).1
          refine ⟨fun h => ?_, fun y hy h => ?_⟩
          · have := (World.ownsRow.lt (show wr.ownsRow w.heap.size KCx.T KCx.k (.slice lp L.length lc) L.length (KCx.cells L) from HS.out.1.row.own) b h).2
            omega
          · have := ((HS.out.1.each y hy).1.blk b h).2
            omega
        have HMP : Hid (∀ y, y = (⟨x.a, x.b, x.wl, pu, cu, o, x.il, pv, cv, o'⟩ : Cx) → (L ++ [y]).map Cx.ch = (l.take (i + 1)).map Cx.ch) := fun y hy => by
          rw [HTK.out, List.map_append, HS.out.2, hy]
          show _ ++ [Cx.ch _] = _
          simp only [Cx.ch, q2, q5]
        have d0 : w3.cell? ⟨G, 0, none⟩ = some (.string x.a) := by rw [Lib.cell_of_heap hbx]; rfl
        have d1 : w3.cell? ⟨G, 1, none⟩ = some (.string x.b) := by rw [Lib.cell_of_heap hbx]; rfl
        have d2 : w3.cell? ⟨G, 2, none⟩ = some (.bool x.wl) := by rw [Lib.cell_of_heap hbx]; rfl
        have d3 : w3.cell? ⟨G, 3, none⟩ = some (.slice pu o.length cu) := by rw [Lib.cell_of_heap hbx]; rfl
        have d4 : w3.cell? ⟨G, 4, none⟩ = some (.bool x.il) := by rw [Lib.cell_of_heap hbx]; rfl
        have d5 : w3.cell? ⟨G, 5, none⟩ = some (.slice pv o'.length cv) := by rw [Lib.cell_of_heap hbx]; rfl
        clear hst q1 q2 q3 q4 q5 q6 hbx hb3 hVG HF1 HF2 HBX HS
        simp only [putS, List.foldl_cons, List.foldl_nil, Act.put, List.setIfInBounds_toArray, List.set_cons_zero, List.set_cons_succ]
        go_wp2_with (at_builtin; refine wpList_push KCx rfl _ _ 33 rfl i0 _ 96 Try.underlying33 HI0.out hz0 hz1 hz2 rfl w.heap.size w _ L rfl (HC3.out.on ((Below.refl _ _).alloc (Nat.le_refl _) _)).row ⟨x.a, x.b, x.wl, pu, cu, o, x.il, pv, cv, o'⟩ _ _ _ rfl rfl _ _ (heap_alloc_new _ _) (by unfold maxLen; omega) (by omega) ?_; intro g8 c8 w8 hst8 hg8 hn8; have HC8 := hid ((HC3.out.on ((Below.refl _ _).alloc (Nat.le_refl _) _)).push (HY.out.1.on ((Below.refl _ _).alloc (Nat.le_refl _) _)) HY.out.2.1 HY.out.2.2 hst8 hg8 hn8); clear hst8 hg8 hn8)
        go_roundg (l.length - (i + 1))
        case measure => omega
        exact ⟨i + 1, L ++ [⟨x.a, x.b, x.wl, pu, cu, o, x.il, pv, cv, o'⟩], some ⟨g8, 0, none⟩, c8, by rw [List.length_append]; rfl, by go_num, by omega, by omega, by rw [List.length_append, List.length_singleton]; omega, HC8.out, HMP.out _ rfl⟩
    · have hltz : ¬ (i : Int) < (l.length : Int) := by omega
      have HE : Hid (L.map Cx.ch = l.map Cx.ch) := by
        have := HS.out.2
        rw [List.take_of_length_le (by omega)] at this
        exact this
      go_wp2_with fail
      go_ret
      exact ⟨lp, lc, L, rfl, HS.out.1.row.own, HS.out.1.each, HS.out.1.apart, HE.out, HS.out.1.row.bel⟩

end Go.Proofs.Ytmihddbnddgfhaa

/-
  Marks that two calls answer, kept apart from the variables they are laid into (stage 12). No function.
-/
namespace Go.Proofs.Ytmihddbnddgfhaa
open Go.RowKit

/-- Ranges, keys that lie in what was there at V. -/
def PrV (V : World) (r : Rx) : Prop := ∀ W', Below V.heap.size V W' → r.at W'
def KrV (V : World) (v : Value) (l : List Ky) : Prop := ∀ W', Below V.heap.size V W' → KK.Is W' v l

theorem mark_fr {V w w2 w' : World} {m : Mx} {P : Nat → Prop} (hV : Below V.heap.size V w) (hb2 : Below w.heap.size w w2) (hk : KK.Own w.heap.size w2 m.ksl m.ks ∨ (KK.Is w m.ksl m.ks ∧ KrV V m.ksl m.ks)) (hr : KRx.Own w.heap.size w2 m.rsl m.rs) (he : ∀ r ∈ m.rs, r.atP (PrV V) w)
    (hP : ∀ b, P b → V.heap.size ≤ b ∧ b < w.heap.size) (f : Fr P w2 w') : MIn w' m := by
  have hbV : Below V.heap.size V w' := (bel_then hV hV.size hb2).trans (f.below (by have := hV.size; have := hb2.size; omega) fun b hb => (hP b hb).1)
  refine ⟨?_, ?_, fun r hr' => (he r hr').2 w' hbV⟩
  · rcases hk with hk | hk
    · exact Kind.own_is (f.row (show w2.ownsRow w.heap.size KK.T KK.k m.ksl m.ks.length (KK.cells m.ks) from hk) fun k h1 h2 => by
        have := (World.ownsRow.lt (show w2.ownsRow w.heap.size KK.T KK.k m.ksl m.ks.length (KK.cells m.ks) from hk) k h1).1
        have := (hP k h2).2
        omega)
    · exact hk.2 w' hbV
  · exact Kind.own_is (f.row (show w2.ownsRow w.heap.size KRx.T KRx.k m.rsl m.rs.length (KRx.cells m.rs) from hr) fun k h1 h2 => by
      have := (World.ownsRow.lt (show w2.ownsRow w.heap.size KRx.T KRx.k m.rsl m.rs.length (KRx.cells m.rs) from hr) k h1).1
      have := (hP k h2).2
      omega)
/-- Marks that say mk. -/
def GMk (mk : Mk) (W : World) (m : Mx) : Prop := MIn W m ∧ m.mk' = mk
theorem gmk_own {V w w2 : World} {m : Mx} {mk : Mk} (ho : MOwn w.heap.size w2 m) (hk : m.mk' = mk) (P : Nat → Prop) (w' : World) (hP : ∀ b, P b → V.heap.size ≤ b ∧ b < w.heap.size) (f : Fr P w2 w') : GMk mk w' m := ⟨(ho.fr f fun k h => (hP k h).2).inn, hk⟩
theorem gmk_ref {V w w2 : World} {m : Mx} {mk : Mk} (hV : Below V.heap.size V w) (hb2 : Below w.heap.size w w2) (hk : m.mk' = mk) (hks : KK.Own w.heap.size w2 m.ksl m.ks ∨ (KK.Is w m.ksl m.ks ∧ KrV V m.ksl m.ks)) (hr : KRx.Own w.heap.size w2 m.rsl m.rs) (he : ∀ r ∈ m.rs, r.atP (PrV V) w) (P : Nat → Prop) (w' : World) (hP : ∀ b, P b → V.heap.size ≤ b ∧ b < w.heap.size) (f : Fr P w2 w') : GMk mk w' m := ⟨mark_fr hV hb2 hks hr he hP f, hk⟩
def encA (m : Mx) : Array Value := #[m.ksl, m.rsl]
/-- Two variables of marks. -/
abbrev TwoM (V : World) (mk1 mk2 : Mk) := TwoSt V encA 32 #[.slice none 0 0, .slice none 0 0] encA 32 #[.slice none 0 0, .slice none 0 0] (GMk mk1) (GMk mk2) (fun _ _ => False) (fun _ _ => False)
abbrev TwoMEnd (V : World) (mk1 mk2 : Mk) := TwoEnd V encA 32 encA 32 (GMk mk1) (GMk mk2) (fun _ _ => False) (fun _ _ => False)

end Go.Proofs.Ytmihddbnddgfhaa

/-
  'a, b = append(a, x), append(b, x)': two rows of one's own grow in one statement. No program.
-/
namespace Go.Proofs.Ytmihddbnddgfhaa
open Go.RowKit

/-- Two rows of one's own, apart. -/
structure Row2 {α : Type} (K : Kind α) (N : Nat) (W : World) (va : Value) (la : List α) (vb : Value) (lb : List α) (w : World) : Prop where
  a : RowSt K N W va la w
  b : RowSt K N W vb lb w
  ne : ∀ k, va.ownBlock = some k → ¬ vb.ownBlock = some k

section
variable {α : Type} {K : Kind α} {N : Nat} {W : World} {va vb : Value} {la lb : List α} {w : World}
theorem Row2.on {w' : World} (h : Row2 K N W va la vb lb w) (hb : Below w.heap.size w w') : Row2 K N W va la vb lb w' := ⟨h.a.on hb, h.b.on hb, h.ne⟩
theorem Row2.nil (hb : Below N W w) (hN : N ≤ w.heap.size) : Row2 K N W (.slice none 0 0) [] (.slice none 0 0) [] w := ⟨RowSt.nil K hb hN, RowSt.nil K hb hN, fun k h => by cases h⟩
theorem Row2.turn (h : Row2 K N W va la vb lb w) : Row2 K N W vb lb va la w := ⟨h.b, h.a, fun k h1 h2 => h.ne k h2 h1⟩
theorem Row2.push {w' : World} {va' : Value} {la' : List α} (h : Row2 K N W va la vb lb w) (hst : RowSt K N W va' la' w') (hg : w.grownBy w' va.ownBlock) (hat : ∀ k, va'.ownBlock = some k → va.ownBlock = some k ∨ k = w.heap.size) : Row2 K N W va' la' vb lb w' := by
  have hf : Fr (fun k => va.ownBlock = some k) w w' := Fr.of_grown hg fun k hk => hk
  refine ⟨hst, ⟨hf.row (show w.ownsRow N K.T K.k vb lb.length (K.cells lb) from h.b.own) fun k h1 h2 => h.ne k h2 h1, hst.bel, hst.base⟩, fun k h1 h2 => ?_⟩
  rcases hat k h1 with h3 | h3
  · exact h.ne k h3 h2
  · have := (World.ownsRow.lt (show w.ownsRow N K.T K.k vb lb.length (K.cells lb) from h.b.own) k h2).2
    omega
end

theorem slice_own {g n c k : Nat} (hk : (Value.slice (some ⟨g, 0, none⟩) n c).ownBlock = some k) : k = g := by
  have h1 : (Value.slice (some ⟨g, 0, none⟩) n c).ownBlock = some g ∨ (Value.slice (some ⟨g, 0, none⟩) n c).ownBlock = none := by
    unfold Value.ownBlock
    simp
  rcases h1 with h1 | h1
  · rw [h1] at hk; injection hk with hk; exact hk.symm
  · rw [h1] at hk; cases hk
theorem Row2.pushed {α : Type} {K : Kind α} {N : Nat} {W : World} {va vb : Value} {la lb : List α} {w : World} {g c : Nat} {w' : World} {n : Nat} {la' : List α} (h : Row2 K N W va la vb lb w) (hst : RowSt K N W (.slice (some ⟨g, 0, none⟩) n c) la' w') (hg : w.grownBy w' va.ownBlock) (hat : va.ownBlock = some g ∨ g = w.heap.size) : Row2 K N W (.slice (some ⟨g, 0, none⟩) n c) la' vb lb w' :=
  h.push hst hg fun k hk => by rw [slice_own hk]; exact hat

/-- 'l = append(l, x)' where the operation is at hand. -/
theorem wp_push {P : Program} {α : Type} {w : World} {o : Oper} {a : Act} {Q : Exit → Act → World → Prop} {Kx : Act → World → Prop} (K : Kind α) (hgd : o.guard = none) (s x : Operand) (t : TypeId) (ho : o.op = .call { callee := .builtin .append, args := #[s, x], argTypes := #[t, t] })
    (i : TypeInfo) (z : Value) (bytes : Nat) (ht : P.underlying t = some (.slice K.T)) (hi : P.info? K.T = some i) (hz : i.zero = some z) (hsize : i.size = K.k) (hby : i.bytes = bytes) (hzs : z.cells.size = K.k)
    (N : Nat) (W : World) (v : Value) (l : List α) (hs : a.eval s = v) (hst : RowSt K N W v l w) (y : α) (B m c : Nat) (hm : m = 1) (hx : a.eval x = .slice (some ⟨B, 0, none⟩) m c) (te : TypeId) (fz : Nat × Nat) (hB : w.heap[B]? = some (.cells (K.enc y).toArray te fz))
    (hlen : l.length + 1 ≤ maxLen) (hbytes : (l.length + 1) * bytes ≤ 140737488355328)
    (h : ∀ g cap w', RowSt K N W (.slice (some ⟨g, 0, none⟩) (l.length + 1) cap) (l ++ [y]) w' → w.grownBy w' v.ownBlock → (v.ownBlock = some g ∨ g = w.heap.size) → Kx (a.put o.dst (.slice (some ⟨g, 0, none⟩) (l.length + 1) cap)) w') :
    Oper.wp P o a w Kx Q := by
  have := step_push (ops := #[]) (E := True) (Q := Q) K hgd s x t ho i z bytes ht hi hz hsize hby hzs N W v l hs hst y B m c hm hx te fz hB hlen hbytes h
  rwa [if_pos (by unfold Region.wanted; rw [hgd])] at this

/-- k of the two appends are done, fl of the boxes laid. -/
structure Pu2At {α : Type} (K : Kind α) (T : TypeId) (N : Nat) (W : World) (x : α) (la lb : List α) (va vb : Value) (k : Nat) (fl : List Bool) (p1 p2 s1 s2 : Value) (w : World) (Z1 Z2 : Nat) : Prop where
  rows : Row2 K N W (if 1 ≤ k then p1 else va) (if 1 ≤ k then la ++ [x] else la) (if 2 ≤ k then p2 else vb) (if 2 ≤ k then lb ++ [x] else lb) w
  b1 : fl[0]? = some true → s1 = .slice (some ⟨Z1, 0, none⟩) 1 1 ∧ (k = 0 → w.heap[Z1]? = some (.cells (K.enc x).toArray T (0, 0)))
  b2 : fl[1]? = some true → s2 = .slice (some ⟨Z2, 0, none⟩) 1 1 ∧ (k ≤ 1 → w.heap[Z2]? = some (.cells (K.enc x).toArray T (0, 0)) ∧ (k = 0 → ¬ va.ownBlock = some Z2))
def Pu2 {α : Type} (K : Kind α) (T : TypeId) (N : Nat) (W : World) (x : α) (la lb : List α) (va vb : Value) (k : Nat) (fl : List Bool) (p1 p2 s1 s2 : Value) (w : World) : Prop := ∃ Z1 Z2, Pu2At K T N W x la lb va vb k fl p1 p2 s1 s2 w Z1 Z2

section
variable {α : Type} {K : Kind α} {T : TypeId} {N : Nat} {W : World} {x : α} {la lb : List α} {va vb : Value} {k : Nat} {p1 p2 s1 s2 : Value} {w : World}
theorem pu2_start (p1 p2 s1 s2 : Value) (h : Row2 K N W va la vb lb w) : Pu2 K T N W x la lb va vb 0 [false, false] p1 p2 s1 s2 w := ⟨0, 0, h, (fun e => by cases e), (fun e => by cases e)⟩
theorem pu2_bel {fl : List Bool} (h : Pu2 K T N W x la lb va vb k fl p1 p2 s1 s2 w) : Below N W w ∧ N ≤ w.heap.size := by
  obtain ⟨_, _, h⟩ := h
  exact ⟨h.rows.a.bel, h.rows.a.base⟩
theorem pu2_box1 {f2 : Bool} (h : Pu2 K T N W x la lb va vb k [false, f2] p1 p2 s1 s2 w) : Pu2 K T N W x la lb va vb k [true, f2] p1 p2 (.slice (some ⟨w.heap.size, 0, none⟩) 1 1) s2 (w.alloc (.cells (K.enc x).toArray T)) := by
  obtain ⟨Z1, Z2, h⟩ := h
  have hal : Below w.heap.size w (w.alloc (.cells (K.enc x).toArray T)) := (Below.refl _ _).alloc (Nat.le_refl _) _
  refine ⟨w.heap.size, Z2, h.rows.on hal, (fun _ => ⟨rfl, fun _ => heap_alloc_new w _⟩), (fun e => ?_)⟩
  obtain ⟨q1, q2⟩ := h.b2 e
  refine ⟨q1, fun hk => ?_⟩
  obtain ⟨q3, q4⟩ := q2 hk
  exact ⟨(hal.block Z2 (Array.getElem?_eq_some_iff.1 q3).1).trans q3, q4⟩
theorem pu2_box2 {f1 : Bool} (h : Pu2 K T N W x la lb va vb k [f1, false] p1 p2 s1 s2 w) : Pu2 K T N W x la lb va vb k [f1, true] p1 p2 s1 (.slice (some ⟨w.heap.size, 0, none⟩) 1 1) (w.alloc (.cells (K.enc x).toArray T)) := by
  obtain ⟨Z1, Z2, h⟩ := h
  have hal : Below w.heap.size w (w.alloc (.cells (K.enc x).toArray T)) := (Below.refl _ _).alloc (Nat.le_refl _) _
  refine ⟨Z1, w.heap.size, h.rows.on hal, (fun e => ?_), (fun _ => ⟨rfl, fun hk => ⟨heap_alloc_new w _, fun hk e => ?_⟩⟩)⟩
  · obtain ⟨q1, q2⟩ := h.b1 e
    refine ⟨q1, fun hk => ?_⟩
    have q3 := q2 hk
    exact (hal.block Z1 (Array.getElem?_eq_some_iff.1 q3).1).trans q3
  · subst hk
    have h2 : K.Own N w va la := h.rows.a.own
    have := (World.ownsRow.lt (show w.ownsRow N K.T K.k va la.length (K.cells la) from h2) _ e).2
    omega
theorem pu2_row1 {f2 : Bool} (h : Pu2 K T N W x la lb va vb 0 [true, f2] p1 p2 s1 s2 w) : ∃ Z1, s1 = .slice (some ⟨Z1, 0, none⟩) 1 1 ∧ w.heap[Z1]? = some (.cells (K.enc x).toArray T (0, 0)) ∧ RowSt K N W va la w := by
  obtain ⟨Z1, Z2, h⟩ := h
  obtain ⟨q1, q2⟩ := h.b1 rfl
  exact ⟨Z1, q1, q2 rfl, h.rows.a⟩
theorem pu2_row2 {f1 : Bool} (h : Pu2 K T N W x la lb va vb 1 [f1, true] p1 p2 s1 s2 w) : ∃ Z2, s2 = .slice (some ⟨Z2, 0, none⟩) 1 1 ∧ w.heap[Z2]? = some (.cells (K.enc x).toArray T (0, 0)) ∧ RowSt K N W vb lb w := by
  obtain ⟨Z1, Z2, h⟩ := h
  obtain ⟨q1, q2⟩ := h.b2 rfl
  exact ⟨Z2, q1, (q2 (Nat.le_refl _)).1, h.rows.b⟩
theorem pu2_push1 {f2 : Bool} {g cap : Nat} {w' : World} (h : Pu2 K T N W x la lb va vb 0 [true, f2] p1 p2 s1 s2 w) (hst : RowSt K N W (.slice (some ⟨g, 0, none⟩) (la.length + 1) cap) (la ++ [x]) w') (hg : w.grownBy w' va.ownBlock) (hat : va.ownBlock = some g ∨ g = w.heap.size) : Pu2 K T N W x la lb va vb 1 [true, f2] (.slice (some ⟨g, 0, none⟩) (la.length + 1) cap) p2 s1 s2 w' := by
  obtain ⟨Z1, Z2, h⟩ := h
  have hr : Row2 K N W va la vb lb w := h.rows
  refine ⟨Z1, Z2, hr.push hst hg (fun k hk => ?_), (fun _ => ⟨(h.b1 rfl).1, fun hk => by omega⟩), (fun e => ?_)⟩
  · have hk : (Value.slice (some ⟨g, 0, none⟩) (la.length + 1) cap).ownBlock = some k := hk
    have : k = g := by
      have h1 : (Value.slice (some ⟨g, 0, none⟩) (la.length + 1) cap).ownBlock = some g ∨ (Value.slice (some ⟨g, 0, none⟩) (la.length + 1) cap).ownBlock = none := by
        unfold Value.ownBlock
        simp
      rcases h1 with h1 | h1
      · rw [h1] at hk; injection hk with hk; exact hk.symm
      · rw [h1] at hk; cases hk
    subst this
    exact hat
  · obtain ⟨q1, q2⟩ := h.b2 e
    refine ⟨q1, fun _ => ?_⟩
    obtain ⟨q3, q4⟩ := q2 (by omega)
    exact ⟨(hg.block Z2 (Array.getElem?_eq_some_iff.1 q3).1 (fun e => q4 rfl e.symm)).trans q3, fun hk => by omega⟩
theorem pu2_push2 {f1 : Bool} {g cap : Nat} {w' : World} (h : Pu2 K T N W x la lb va vb 1 [f1, true] p1 p2 s1 s2 w) (hst : RowSt K N W (.slice (some ⟨g, 0, none⟩) (lb.length + 1) cap) (lb ++ [x]) w') (hg : w.grownBy w' vb.ownBlock) (hat : vb.ownBlock = some g ∨ g = w.heap.size) : Pu2 K T N W x la lb va vb 2 [f1, true] p1 (.slice (some ⟨g, 0, none⟩) (lb.length + 1) cap) s1 s2 w' := by
  obtain ⟨Z1, Z2, h⟩ := h
  have hr : Row2 K N W p1 (la ++ [x]) vb lb w := h.rows
  refine ⟨Z1, Z2, (hr.turn.push hst hg (fun k hk => ?_)).turn, (fun e => ⟨(h.b1 e).1, fun hk => by omega⟩), (fun _ => ⟨(h.b2 rfl).1, fun hk => by omega⟩)⟩
  have : k = g := by
    have h1 : (Value.slice (some ⟨g, 0, none⟩) (lb.length + 1) cap).ownBlock = some g ∨ (Value.slice (some ⟨g, 0, none⟩) (lb.length + 1) cap).ownBlock = none := by
      unfold Value.ownBlock
      simp
    rcases h1 with h1 | h1
    · rw [h1] at hk; injection hk with hk; exact hk.symm
    · rw [h1] at hk; cases hk
  subst this
  exact hat
/-- The assignments turn nothing. -/
theorem pu2_on {fl : List Bool} {k' : Nat} (h : Pu2 K T N W x la lb va vb k fl p1 p2 s1 s2 w) (hk : 2 ≤ k) (hk' : 2 ≤ k') : Pu2 K T N W x la lb va vb k' fl p1 p2 s1 s2 w := by
  obtain ⟨Z1, Z2, h⟩ := h
  refine ⟨Z1, Z2, ?_, (fun e => ⟨(h.b1 e).1, fun hk' => by omega⟩), (fun e => ⟨(h.b2 e).1, fun hk' => by omega⟩)⟩
  have hr := h.rows
  rw [if_pos (by omega), if_pos (by omega), if_pos (by omega), if_pos (by omega)] at hr
  rw [if_pos (by omega), if_pos (by omega), if_pos (by omega), if_pos (by omega)]
  exact hr
theorem pu2_more {fl : List Bool} (h : Pu2 K T N W x la lb va vb 2 fl p1 p2 s1 s2 w) (k : Nat) (hk : 2 ≤ k) : Pu2 K T N W x la lb va vb k fl p1 p2 s1 s2 w := by
  obtain ⟨Z1, Z2, h⟩ := h
  refine ⟨Z1, Z2, ?_, (fun e => ⟨(h.b1 e).1, fun hk' => by omega⟩), (fun e => ⟨(h.b2 e).1, fun hk' => by omega⟩)⟩
  have hr := h.rows
  rw [if_pos (by omega), if_pos (by omega), if_pos (by omega), if_pos (by omega)] at hr
  rw [if_pos (by omega), if_pos (by omega), if_pos (by omega), if_pos (by omega)]
  exact hr
theorem pu2_end {fl : List Bool} (h : Pu2 K T N W x la lb va vb k fl p1 p2 s1 s2 w) (hk : 2 ≤ k) : Row2 K N W p1 (la ++ [x]) p2 (lb ++ [x]) w := by
  obtain ⟨Z1, Z2, h⟩ := h
  have hr := h.rows
  rw [if_pos (by omega), if_pos (by omega), if_pos (by omega), if_pos (by omega)] at hr
  exact hr
end

end Go.Proofs.Ytmihddbnddgfhaa

/-
  'r.F = append(r.F, x)' in a region that draws: r lies in a box, its field owns a row; the field's load and x's box float. No program.
-/
namespace Go.Proofs.Ytmihddbnddgfhaa
open Go.RowKit

/-- k of append, address and store are done; fl: the load, x's box. -/
structure PbAt {α : Type} (K : Kind α) (T : TypeId) (N : Nat) (W : World) (x : α) (l : List α) (v : Value) (G f : Nat) (c : Array Value) (TG : TypeId) (w0 : World) (k : Nat) (fl : List Bool) (u s p : Value) (w : World) (Z : Nat) : Prop where
  row : RowSt K N W (if 1 ≤ k then p else v) (if 1 ≤ k then l ++ [x] else l) w
  ld : fl[0]? = some true → u = v
  bx : fl[1]? = some true → s = .slice (some ⟨Z, 0, none⟩) 1 1 ∧ (k = 0 → w.heap[Z]? = some (.cells (K.enc x).toArray T (0, 0)))
  box : w.heap[G]? = some (.cells (if 3 ≤ k then c.setIfInBounds f p else c) TG (0, 0))
  own : 1 ≤ k → ∀ b, p.ownBlock = some b → v.ownBlock = some b ∨ w0.heap.size ≤ b
  fr : Fr (fun b => b = G ∨ v.ownBlock = some b) w0 w
def Pb {α : Type} (K : Kind α) (T : TypeId) (N : Nat) (W : World) (x : α) (l : List α) (v : Value) (G f : Nat) (c : Array Value) (TG : TypeId) (w0 : World) (k : Nat) (fl : List Bool) (u s p : Value) (w : World) : Prop := ∃ Z, PbAt K T N W x l v G f c TG w0 k fl u s p w Z

section
variable {α : Type} {K : Kind α} {T : TypeId} {N : Nat} {W : World} {x : α} {l : List α} {v : Value} {G f : Nat} {c : Array Value} {TG : TypeId} {w0 : World} {k : Nat} {fl : List Bool} {u s p : Value} {w : World}
theorem pb_start (u s p : Value) (h : RowSt K N W v l w) (hG : w.heap[G]? = some (.cells c TG (0, 0))) : Pb K T N W x l v G f c TG w 0 [false, false] u s p w :=
  ⟨0, h, (fun e => by cases e), (fun e => by cases e), hG, (fun e => by omega), Fr.refl _ _⟩
theorem pb_fr (h : Pb K T N W x l v G f c TG w0 k fl u s p w) : Fr (fun b => b = G ∨ v.ownBlock = some b) w0 w := by
  obtain ⟨Z, h⟩ := h
  exact h.fr
theorem pb_bel (h : Pb K T N W x l v G f c TG w0 k fl u s p w) : Below N W w := by
  obtain ⟨Z, h⟩ := h
  exact h.row.bel
/-- The field's load. -/
theorem pb_load {f2 : Bool} (h : Pb K T N W x l v G f c TG w0 k [false, f2] u s p w) (hk : k ≤ 2) : w.heap[G]? = some (.cells c TG (0, 0)) ∧ Pb K T N W x l v G f c TG w0 k [true, f2] v s p w := by
  obtain ⟨Z, h⟩ := h
  have hb := h.box
  rw [if_neg (by omega)] at hb
  exact ⟨hb, Z, h.row, (fun _ => rfl), h.bx, h.box, h.own, h.fr⟩
/-- x's box. -/
theorem pb_box {f1 : Bool} (h : Pb K T N W x l v G f c TG w0 k [f1, false] u s p w) : Pb K T N W x l v G f c TG w0 k [f1, true] u (.slice (some ⟨w.heap.size, 0, none⟩) 1 1) p (w.alloc (.cells (K.enc x).toArray T)) := by
  obtain ⟨Z, h⟩ := h
  have hal : Below w.heap.size w (w.alloc (.cells (K.enc x).toArray T)) := (Below.refl _ _).alloc (Nat.le_refl _) _
  exact ⟨w.heap.size, h.row.on hal, h.ld, (fun _ => ⟨rfl, fun _ => heap_alloc_new w _⟩), (hal.block G (Array.getElem?_eq_some_iff.1 h.box).1).trans h.box, h.own, h.fr.then (Fr.of_below hal) fun b hb => Or.inl hb⟩
theorem pb_row (h : Pb K T N W x l v G f c TG w0 0 [true, true] u s p w) : ∃ Z, u = v ∧ s = .slice (some ⟨Z, 0, none⟩) 1 1 ∧ w.heap[Z]? = some (.cells (K.enc x).toArray T (0, 0)) ∧ RowSt K N W v l w := by
  obtain ⟨Z, h⟩ := h
  exact ⟨Z, h.ld rfl, (h.bx rfl).1, (h.bx rfl).2 rfl, h.row⟩
theorem pb_push {g cap : Nat} {w' : World} (h : Pb K T N W x l v G f c TG w0 0 [true, true] u s p w) (hG : ∀ b, v.ownBlock = some b → b ≠ G) (hst : RowSt K N W (.slice (some ⟨g, 0, none⟩) (l.length + 1) cap) (l ++ [x]) w') (hg : w.grownBy w' v.ownBlock) (hat : v.ownBlock = some g ∨ g = w.heap.size) : Pb K T N W x l v G f c TG w0 1 [true, true] u s (.slice (some ⟨g, 0, none⟩) (l.length + 1) cap) w' := by
  obtain ⟨Z, h⟩ := h
  have hb : w.heap[G]? = some (.cells c TG (0, 0)) := h.box
  refine ⟨Z, hst, h.ld, (fun _ => ⟨(h.bx rfl).1, fun e => by omega⟩), (hg.block G (Array.getElem?_eq_some_iff.1 hb).1 (fun e => hG G e.symm rfl)).trans hb, (fun _ b hb => ?_), h.fr.then (Fr.of_grown hg fun k hk => hk) fun b hb => Or.inl (Or.inr hb)⟩
  rw [slice_own hb]
  rcases hat with h1 | h1
  · exact Or.inl h1
  · exact Or.inr (by have := h.fr.size; omega)
/-- The address turns nothing. -/
theorem pb_on (h : Pb K T N W x l v G f c TG w0 1 fl u s p w) : Pb K T N W x l v G f c TG w0 2 fl u s p w := by
  obtain ⟨Z, h⟩ := h
  exact ⟨Z, h.row, h.ld, (fun e => ⟨(h.bx e).1, fun e => by omega⟩), h.box, (fun _ => h.own (by omega)), h.fr⟩
/-- The store. -/
theorem pb_store (h : Pb K T N W x l v G f c TG w0 2 fl u s p w) (hNG : N ≤ G) (hG : ∀ b, p.ownBlock = some b → b ≠ G) : w.heap[G]? = some (.cells c TG (0, 0)) ∧ Pb K T N W x l v G f c TG w0 3 fl u s p (w.setCell ⟨G, f, none⟩ p) := by
  obtain ⟨Z, h⟩ := h
  have hb : w.heap[G]? = some (.cells c TG (0, 0)) := h.box
  have hr : RowSt K N W p (l ++ [x]) w := h.row
  have hf : Fr (fun b => b = G) w (w.setCell ⟨G, f, none⟩ p) := ⟨rfl, rfl, rfl, by simp, fun k _ hn => heap_setCell_other _ _ k _ hn⟩
  have hf' := h.fr.then (hf.mono (Q := fun b => b = G ∨ v.ownBlock = some b) fun b hb => Or.inl hb) fun b hb => Or.inl hb
  refine ⟨hb, Z, ⟨hf.row (show w.ownsRow N K.T K.k p (l ++ [x]).length (K.cells (l ++ [x])) from hr.own) fun b h1 h2 => hG b h1 h2, hr.bel.trans (hf.below hr.base fun b hb => by omega), by simpa using hr.base⟩, h.ld, (fun e => ⟨(h.bx e).1, fun e => by omega⟩), heap_setCell_same _ G f _ _ _ hb, (fun _ => h.own (by omega)), hf'⟩
theorem pb_shape (h : Pb K T N W x l v G f c TG w0 k fl u s p w) (hk : 1 ≤ k) : ∃ pp cc, p = .slice pp (l.length + 1) cc := by
  obtain ⟨Z, h⟩ := h
  have hr := h.row.own
  rw [if_pos hk, if_pos hk] at hr
  obtain ⟨pp, cc, e⟩ := Kind.own_shape hr
  exact ⟨pp, cc, by rw [e, List.length_append]; rfl⟩
theorem pb_shape2 (h : Pb K T N W x l v G f c TG w0 k fl u s p w) (hk : 1 ≤ k) : ∃ g cc, p = .slice (some ⟨g, 0, none⟩) (l.length + 1) cc := by
  obtain ⟨Z, h⟩ := h
  have hr := h.row.own
  rw [if_pos hk, if_pos hk] at hr
  have h1 : w.ownsRow N K.T K.k p (l ++ [x]).length (K.cells (l ++ [x])) := hr
  rcases h1.2 with ⟨_, h2⟩ | ⟨g, cap, cur, h2, _⟩
  · simp at h2
  · exact ⟨g, cap, by rw [h2, List.length_append]; rfl⟩
theorem pb_off (h : Pb K T N W x l v G f c TG w0 k fl u s p w) (hk : 1 ≤ k) (hG : ∀ b, v.ownBlock = some b → b ≠ G) (hlt : G < w0.heap.size) : ∀ b, p.ownBlock = some b → b ≠ G := fun b hb => by
  obtain ⟨Z, h⟩ := h
  rcases h.own hk b hb with h1 | h1
  · exact hG b h1
  · omega
theorem pb_end (h : Pb K T N W x l v G f c TG w0 3 fl u s p w) : RowSt K N W p (l ++ [x]) w ∧ w.heap[G]? = some (.cells (c.setIfInBounds f p) TG (0, 0)) ∧ Fr (fun b => b = G ∨ v.ownBlock = some b) w0 w ∧ ∀ b, p.ownBlock = some b → v.ownBlock = some b ∨ w0.heap.size ≤ b := by
  obtain ⟨Z, h⟩ := h
  exact ⟨h.row, h.box, h.fr, h.own (by omega)⟩
end

end Go.Proofs.Ytmihddbnddgfhaa

/-
  The reference's marks (stage 12): Marks, a copy. (Written by mkmr6.py.)
-/
namespace Go.Proofs.Ytmihddbnddgfhaa
open Go.RowKit

theorem Try.infoKy12 : (Try.prog.info? 67).map (fun i => (i.zero, i.size, i.bytes)) = some (some (.agg #[.string ⟨#[]⟩, .string ⟨#[]⟩]), 2, 32) := by kernel_rfl
theorem Try.infoTm12 : (Try.prog.info? 87).map (fun i => (i.zero, i.size, i.bytes)) = some (some (.agg #[.string ⟨#[]⟩, .int .i64 0, .string ⟨#[]⟩]), 3, 40) := by kernel_rfl

/-- Between two keys: G holds them, in a row of their own. -/
structure CpK (V : World) (G : Nat) (l : List Ky) (p : Option Addr) (c : Nat) (w : World) : Prop where
  box : w.heap[G]? = some (.cells #[.slice p l.length c, .slice none 0 0] 32 (0, 0))
  row : RowSt KK G V (.slice p l.length c) l w
  off : ∀ b, (Value.slice p l.length c).ownBlock = some b → b ≠ G

/-- Between two ranges. -/
structure CpR (V : World) (G : Nat) (ks : List Ky) (kp : Option Addr) (kc : Nat) (L : List Rx) (p : Option Addr) (c : Nat) (w : World) : Prop where
  box : w.heap[G]? = some (.cells #[.slice kp ks.length kc, .slice p L.length c] 32 (0, 0))
  keys : RowSt KK G V (.slice kp ks.length kc) ks w
  koff : ∀ b, (Value.slice kp ks.length kc).ownBlock = some b → b ≠ G
  row : RowSt KRx G V (.slice p L.length c) L w
  off : ∀ b, (Value.slice p L.length c).ownBlock = some b → b ≠ G ∧ ¬ (Value.slice kp ks.length kc).ownBlock = some b
  each : ∀ r ∈ L, KM.Own (G + 1) w r.sl r.tm ∧ FitP r.tm ∧ ∀ b, r.sl.ownBlock = some b → ¬ (Value.slice p L.length c).ownBlock = some b
  apart : ApartR L

theorem CpR.on {V : World} {G : Nat} {ks : List Ky} {kp : Option Addr} {kc : Nat} {L : List Rx} {p : Option Addr} {c : Nat} {w w' : World} (h : CpR V G ks kp kc L p c w) (hb : Below w.heap.size w w') : CpR V G ks kp kc L p c w' :=
  ⟨(hb.block G (Array.getElem?_eq_some_iff.1 h.box).1).trans h.box, h.keys.on hb, h.koff, h.row.on hb, h.off, fun r hr => ⟨Kind.own_on (h.each r hr).1 hb, (h.each r hr).2⟩, h.apart⟩

/-- One range more. -/
theorem CpR.push {V : World} {G : Nat} {ks : List Ky} {kp : Option Addr} {kc : Nat} {L : List Rx} {p : Option Addr} {c : Nat} {w w' : World} {g c' : Nat} {x : Rx} {n : Nat} (h : CpR V G ks kp kc L p c w) (hn : n = L.length + 1)
    (hst : RowSt KRx G V (.slice (some ⟨g, 0, none⟩) n c') (L ++ [x]) w') (hbox : w'.heap[G]? = some (.cells #[.slice kp ks.length kc, .slice (some ⟨g, 0, none⟩) n c'] 32 (0, 0)))
    (hf : Fr (fun b => b = G ∨ (Value.slice p L.length c).ownBlock = some b) w w') (hg : (Value.slice p L.length c).ownBlock = some g ∨ w.heap.size ≤ g)
    (hx : KM.Own (G + 1) w x.sl x.tm ∧ FitP x.tm) (hxo : ∀ b, x.sl.ownBlock = some b → ¬ (Value.slice p L.length c).ownBlock = some b ∧ ∀ r ∈ L, ¬ r.sl.ownBlock = some b) : CpR V G ks kp kc (L ++ [x]) (some ⟨g, 0, none⟩) c' w' := by
  subst hn
  have hlt : ∀ {α : Type} {K : Kind α} {N : Nat} {v : Value} {l : List α}, K.Own N w v l → ∀ b, v.ownBlock = some b → N ≤ b ∧ b < w.heap.size := fun {α} {K} {N} {v} {l} ho b hb => World.ownsRow.lt (show w.ownsRow N K.T K.k v l.length (K.cells l) from ho) b hb
  have hG := (Array.getElem?_eq_some_iff.1 h.box).1
  have hown : ∀ b, (Value.slice (some ⟨g, 0, none⟩) (L.length + 1) c').ownBlock = some b → (Value.slice p L.length c).ownBlock = some b ∨ w.heap.size ≤ b := fun b hb => by rw [slice_own hb]; exact hg
  have hlen : (L ++ [x]).length = L.length + 1 := by simp
  refine ⟨by rw [hlen]; exact hbox, ⟨hf.row (show w.ownsRow G KK.T KK.k _ ks.length (KK.cells ks) from h.keys.own) fun b h1 h2 => ?_, hst.bel, hst.base⟩, h.koff, by rw [hlen]; exact hst, fun b hb => ?_, fun r hr => ?_, ?_⟩
  · rcases h2 with h2 | h2
    · exact h.koff b h1 h2
    · exact (h.off b h2).2 h1
  · rw [hlen] at hb
    rcases hown b hb with h1 | h1
    · exact h.off b h1
    · refine ⟨by omega, fun h2 => ?_⟩
      have := (hlt h.keys.own b h2).2
      omega
  · have hr' : KM.Own (G + 1) w r.sl r.tm ∧ FitP r.tm ∧ ∀ b, r.sl.ownBlock = some b → ¬ (Value.slice p L.length c).ownBlock = some b := by
      rcases List.mem_append.1 hr with h1 | h1
      · exact h.each r h1
      · rw [List.mem_singleton] at h1
        subst h1
        exact ⟨hx.1, hx.2, fun b hb => (hxo b hb).1⟩
    refine ⟨hf.row (show w.ownsRow (G + 1) KM.T KM.k r.sl r.tm.length (KM.cells r.tm) from hr'.1) fun b h1 h2 => ?_, hr'.2.1, fun b hb h2 => ?_⟩
    · rcases h2 with h2 | h2
      · have := (hlt hr'.1 b h1).1
        omega
      · exact hr'.2.2 b h1 h2
    · rw [hlen] at h2
      rcases hown b h2 with h3 | h3
      · exact hr'.2.2 b hb h3
      · have := (hlt hr'.1 b hb).2
        omega
  · unfold ApartR
    rw [List.pairwise_append]
    refine ⟨h.apart, List.pairwise_singleton _ _, fun r hr y hy k h1 h2 => ?_⟩
    rw [List.mem_singleton] at hy
    subst hy
    exact (hxo k h2).2 r hr h1
/-- Keys that are copied make room for ranges. -/
theorem CpK.done {V : World} {G : Nat} {l : List Ky} {p : Option Addr} {c : Nat} {w : World} (h : CpK V G l p c w) : CpR V G l p c [] none 0 w :=
  ⟨h.box, h.row, h.off, RowSt.nil KRx h.row.bel h.row.base, (fun b hb => by cases hb), (fun r hr => by cases hr), List.Pairwise.nil⟩

set_option linter.unusedSimpArgs false in
set_option maxHeartbeats 16000000 in
set_option maxRecDepth 100000 in
theorem marks12_any (m : Mx) (w : World) (hm : MIn w m) (hw : LotM m) (hft : ∀ r ∈ m.rs, r.tm.length ≤ 3518437208800) :
    Calls Try.prog 39 #[.agg (encMx m).toArray] w fun e w' => MOwnPost w m.mk' e w' := by
  obtain ⟨i0, hi0, hz0, hz1, hz2⟩ := info_parts Try.infoKy12
  obtain ⟨i1, hi1, hy0, hy1, hy2⟩ := info_parts Try.infoRx
  obtain ⟨i2, hi2, hx0, hx1, hx2⟩ := info_parts Try.infoTm12
  have HIi0 := hid hi0
  have HIi1 := hid hi1
  have HIi2 := hid hi2
  obtain ⟨V, hV⟩ : ∃ V, ((w.alloc (.cells (encMx m).toArray 32)).alloc (.cells #[.slice none 0 0, .slice none 0 0] 32)).alloc (.cells #[.slice none 0 0, .slice none 0 0] 32) = V := ⟨_, rfl⟩
  obtain ⟨M, hM⟩ : ∃ M, w.heap.size = M := ⟨_, rfl⟩
  obtain ⟨hbV, h1, h2, h3, hs⟩ := three_boxes w _ _ _ _ _ _ V hV
  rw [hM] at h1 h2 h3 hs
  have HIN : Hid (∀ W', Below (M + 2) V W' → MIn W' m ∧ Below w.heap.size w W' ∧ (W'.cell? ⟨M, 0, none⟩ = some m.ksl ∧ W'.cell? ⟨M, 1, none⟩ = some m.rsl) ∧ W'.heap[M + 1]? = some (.cells #[.slice none 0 0, .slice none 0 0] 32 (0, 0))) := fun W' hW => by
    have hb : Below w.heap.size w W' := hbV.trans (hW.mono (by omega))
    have e1 := (hW.block M (by omega)).trans h1
    exact ⟨hm.on hb, hb, ⟨by rw [Lib.cell_of_heap e1]; rfl, by rw [Lib.cell_of_heap e1]; rfl⟩, (hW.block (M + 1) (by omega)).trans h2⟩
  have HC0 : Hid (CpK V (M + 2) (m.ks.take 0) none 0 V) := ⟨h3, RowSt.nil KK (Below.refl _ _) (by omega), fun b hb => by cases hb⟩
  obtain ⟨hw1, hw2⟩ := hw
  have HFT := hid hft
  obtain ⟨_, _, ⟨a0, a1⟩, _⟩ := HIN.out V (Below.refl _ _)
  clear hm hbV h1 h2 h3 hi0 hi1 hi2 hft
  obtain ⟨kp, kc, ks, rp, rc, rs⟩ := m
  simp only [encMx, Mx.ksl, Mx.rsl] at *
  go_enter Try.func39, Try.ntmps39
  go_wp2_with fail
  try rw [hV]
  try rw [hM]
  try simp only [Nat.add_assoc, Nat.reduceAdd]
  clear hV a0 a1
  go_loopg [4] ks.length (fun gg vi wr => ∃ (i : Nat) (p : Option Addr) (c : Nat), vi = .int .i64 i ∧ i ≤ ks.length ∧ ks.length - i ≤ gg ∧ Hid (CpK V (M + 2) (ks.take i) p c wr))
  case atStart => exact ⟨0, none, 0, rfl, by omega, by omega, HC0.out⟩
  case round =>
    clear HC0
    obtain ⟨i, p, c, rfl, hi, hgk, HI⟩ := hrel
    obtain ⟨hma, _, ⟨a0, a1⟩, _⟩ := HIN.out wr HI.out.row.bel
    by_cases hlt : i < ks.length
    · have hltz : (i : Int) < (ks.length : Int) := by omega
      have hiz : (0 : Int) ≤ i := by omega
      obtain ⟨b7, o7, rfl, _⟩ : ∃ b off, kp = some ⟨b, off, none⟩ ∧ KK.At wr b off ks := by
        obtain ⟨p', c', he, h⟩ := hma.keys
        injection he with e1 _ _
        subst e1
        rcases h with h | h
        · have h' : ks = [] := h
          rw [h'] at hlt; simp at hlt
        · exact h
      have HCE : Hid (∀ W, Below (M + 2) V W → W.cell? ⟨M, 0, none⟩ = some (.slice (some ⟨b7, o7, none⟩) ks.length kc) ∧ W.cell? ⟨b7, o7 + i * 2, none⟩ = some (.string (ks[i]).1) ∧ W.cell? ⟨b7, o7 + i * 2 + 1, none⟩ = some (.string (ks[i]).2)) := fun W hW => by
        obtain ⟨hq, _, ⟨q0, _⟩, _⟩ := HIN.out W hW
        obtain ⟨p', c', he, h⟩ := hq.keys
        injection he with e1 _ _
        subst e1
        rcases h with h | ⟨b', o', e2, h⟩
        · have h' : ks = [] := h
          rw [h'] at hlt; simp at hlt
        · injection e2 with e2
          injection e2 with e3 e4 e5
          subst e3 e4
          exact ⟨q0, h i hlt 0 _ rfl, h i hlt 1 _ rfl⟩
      have HTK : Hid (ks.take (i + 1) = ks.take i ++ [ks[i]]) := List.take_succ_eq_append_getElem hlt
      have hal : (ks.take i).length ≤ i := by rw [List.length_take]; omega
      generalize ks[i] = k at *
      generalize ks.take i = A at *
      have HROW : Hid (RowSt KK (M + 2) V (.slice p A.length c) A wr.drew) := HI.out.row.on (bel_drewN (Below.refl _ _) 1)
      have HBX : Hid (wr.drew.heap[M + 2]? = some (.cells #[.slice p A.length c, .slice none 0 0] 32 (0, 0))) := HI.out.box
      have HOF := hid HI.out.off
      have HLT : Hid (M + 2 < wr.drew.heap.size) := (Array.getElem?_eq_some_iff.1 HI.out.box).1
      clear hma HI
      obtain ⟨ka, kb⟩ := k
      go_upto_region 5 with fail
      clear a0 a1
      refine wp_region_held_drew (S := fun W => W.cell? ⟨M, 0, none⟩ = some (.slice (some ⟨b7, o7, none⟩) ks.length kc) ∧ W.cell? ⟨b7, o7 + i * 2, none⟩ = some (.string ka) ∧ W.cell? ⟨b7, o7 + i * 2 + 1, none⟩ = some (.string kb)) (by kernel_rfl) (HCE.out wr.drew HROW.out.bel) (fun hHeld => ?_)
      refine take_val (i := 0) (.pointer (some ⟨M + 2, 0, none⟩)) rfl (by kernel_rfl) (by kernel_rfl) (by kernel_rfl) (fun _ _ _ h => h) (by rfl) (fun w hSw => by go_simp) hHeld ?_
      simp only [Act.put, List.setIfInBounds_toArray, List.set_cons_zero, List.set_cons_succ]
      refine take_val (i := 2) (.pointer (some ⟨M, 0, none⟩)) rfl (by kernel_rfl) (by kernel_rfl) (by kernel_rfl) (fun _ _ _ h => h) (by rfl) (fun w hSw => by go_simp) hHeld ?_
      simp only [Act.put, List.setIfInBounds_toArray, List.set_cons_zero, List.set_cons_succ]
      refine take_val (i := 3) (.slice (some ⟨b7, o7, none⟩) ks.length kc) rfl (by kernel_rfl) (by kernel_rfl) (by kernel_rfl) (fun _ _ _ h => h) (by rfl) (fun w hSw => by go_simp) hHeld ?_
      simp only [Act.put, List.setIfInBounds_toArray, List.set_cons_zero, List.set_cons_succ]
      refine take_val (i := 4) (.int .i64 i) rfl (by kernel_rfl) (by kernel_rfl) (by kernel_rfl) (fun _ _ _ h => h) (by rfl) (fun w hSw => by go_simp) hHeld ?_
      simp only [Act.put, List.setIfInBounds_toArray, List.set_cons_zero, List.set_cons_succ]
      refine take_val (i := 5) (.pointer (some ⟨b7, o7 + i * 2, none⟩)) rfl (by kernel_rfl) (by kernel_rfl) (by kernel_rfl) (fun _ _ _ h => h) (by rfl) (fun w hSw => by go_simp) hHeld ?_
      simp only [Act.put, List.setIfInBounds_toArray, List.set_cons_zero, List.set_cons_succ]
      refine take_val (i := 6) (.agg #[.string ka, .string kb]) rfl (by kernel_rfl) (by kernel_rfl) (by kernel_rfl) (fun _ _ _ h => h) (by rfl) (fun w hSw => by go_simp) hHeld ?_
      simp only [Act.put, List.setIfInBounds_toArray, List.set_cons_zero, List.set_cons_succ]
      clear hHeld
      refine wpAnyH_floats [8, 9, 10] [1, 7] (fun a0 k fl a w' => ∃ tu ts tp tq, a = putS a0 [(16, tu), (22, ts), (23, tp), (24, tq)] ∧ Pb KK 67 (M + 2) V (ka, kb) A (.slice p A.length c) (M + 2) 0 #[.slice p A.length c, .slice none 0 0] 32 wr.drew k fl tu ts tp w' ∧ (2 ≤ k → tq = .pointer (some ⟨(M + 2), 0, none⟩)) ∧ (1 ≤ k → fl = [true, true])) (by kernel_rfl) (by decide) ⟨_, _, _, _, (putS_self _ [16, 22, 23, 24]).symm, pb_start _ _ _ HROW.out HBX.out, (fun h => by omega), (fun h => by omega)⟩ ?hS ?hmain ?halloc ?hend
      case hS =>
        rintro k fl a w' ⟨tu, ts, tp, tq, _, h, _⟩
        exact HCE.out w' (pb_bel h)
      case hmain =>
        rintro k i' fl a w' hk hfl hrd ⟨tu, ts, tp, tq, rfl, hst, hq, hfe⟩
        obtain ⟨f1, f2, rfl⟩ : ∃ f1 f2, fl = [f1, f2] := by
          match fl, hfl with
          | [f1, f2], _ => exact ⟨f1, f2, rfl⟩
        rcases k with _ | _ | _ | k
        · obtain rfl : i' = 8 := by simpa using hk.symm
          cases f1 with
          | false => exact (not_ready hrd (by cases f2 <;> kernel_rfl)).elim
          | true =>
            cases f2 with
            | false => exact (not_ready hrd (by kernel_rfl)).elim
            | true =>
              obtain ⟨Z1, rfl, rfl, hbx, hrow⟩ := pb_row hst
              refine ⟨_, at_drop0 rfl, fun K hK => ?_⟩
              simp only [putS, List.foldl_cons, List.foldl_nil, Act.put, List.setIfInBounds_toArray, List.set_cons_zero, List.set_cons_succ]
              rw [if_pos (by rfl)]
              refine wp_push KK rfl _ _ 29 rfl i0 _ 32 Try.underlying29 HIi0.out hz0 hz1 hz2 rfl (M + 2) V (.slice p A.length c) A (by rfl) hrow (ka, kb) Z1 1 1 rfl (by rfl) 67 (0, 0) hbx (by unfold maxLen; omega) (by omega) ?_
              intro g cc w3 h1 h2 h3
              exact hK.out _ _ ⟨_, _, _, tq, rfl, pb_push hst HOF.out h1 h2 h3, (fun h => by omega), (fun _ => rfl)⟩
        · obtain rfl : i' = 9 := by simpa using hk.symm
          have HST2 := hid (pb_on hst)
          have HFE := hid (hfe (by omega))
          clear hrd hst hq hfe
          refine ⟨_, at_drop0 rfl, fun K hK => ?_⟩
          simp only [putS, List.foldl_cons, List.foldl_nil, Act.put, List.setIfInBounds_toArray, List.set_cons_zero, List.set_cons_succ]
          rw [if_pos (by rfl)]
          go_simp
          go_wp2_with fail
          exact hK.out _ _ ⟨tu, ts, tp, _, rfl, HST2.out, (fun _ => rfl), (fun _ => HFE.out)⟩
        · obtain rfl : i' = 10 := by simpa using hk.symm
          obtain rfl : tq = .pointer (some ⟨(M + 2), 0, none⟩) := hq (by omega)
          obtain ⟨hb2, hst2⟩ := pb_store hst (Nat.le_refl _) (pb_off hst (by omega) HOF.out HLT.out)
          obtain ⟨pp, cc, rfl⟩ := pb_shape hst (by omega)
          have HST2 := hid hst2
          have HFE := hid (hfe (by omega))
          have c0 : w'.cell? ⟨(M + 2), 0, none⟩ = some (.slice p A.length c) := by rw [Lib.cell_of_heap hb2]; rfl
          have z0 : w'.frozen? ⟨(M + 2), 0, none⟩ = false := Lib.frozen_of_heap hb2 0
          clear hrd hst hq hfe hst2 hb2
          refine ⟨_, at_drop0 rfl, fun K hK => ?_⟩
          simp only [putS, List.foldl_cons, List.foldl_nil, Act.put, List.setIfInBounds_toArray, List.set_cons_zero, List.set_cons_succ]
          rw [if_pos (by rfl)]
          go_simp
          go_wp2_with fail
          exact hK.out _ _ ⟨tu, ts, _, _, rfl, HST2.out, (fun _ => rfl), (fun _ => HFE.out)⟩
        · simp at hk
      case halloc =>
        rintro j i' k fl a w' hj hk hfl hf ⟨tu, ts, tp, tq, rfl, hst, hq, hfe⟩
        obtain ⟨f1, f2, rfl⟩ : ∃ f1 f2, fl = [f1, f2] := by
          match fl, hfl with
          | [f1, f2], _ => exact ⟨f1, f2, rfl⟩
        have hk0 : k = 0 := by
          rcases Nat.eq_zero_or_pos k with h | h
          · exact h
          · have := hfe h
            rcases j with _ | _ | j
            · simp at this hf; simp_all
            · simp at this hf; simp_all
            · simp at hj
        subst hk0
        rcases j with _ | _ | j
        · obtain rfl : i' = 1 := by simpa using hj.symm
          obtain rfl : f1 = false := by simpa using hf
          obtain ⟨hb2, hst2⟩ := pb_load hst (by omega)
          have HST2 := hid hst2
          have c0 : w'.cell? ⟨(M + 2), 0, none⟩ = some (.slice p A.length c) := by rw [Lib.cell_of_heap hb2]; rfl
          clear hst hf hj hk hq hst2 hfe hb2
          refine ⟨_, at_drop0 rfl, fun K hK => ?_⟩
          simp only [putS, List.foldl_cons, List.foldl_nil, Act.put, List.setIfInBounds_toArray, List.set_cons_zero, List.set_cons_succ]
          rw [if_pos (by rfl)]
          go_simp
          go_wp2_with fail
          exact hK.out _ _ ⟨_, ts, tp, tq, rfl, HST2.out, (fun h => by omega), (fun h => by omega)⟩
        · obtain rfl : i' = 7 := by simpa using hj.symm
          obtain rfl : f2 = false := by simpa using hf
          have HST2 := hid (pb_box hst)
          clear hst hf hj hk hq hfe
          refine ⟨_, at_drop0 rfl, fun K hK => ?_⟩
          simp only [putS, List.foldl_cons, List.foldl_nil, Act.put, List.setIfInBounds_toArray, List.set_cons_zero, List.set_cons_succ]
          rw [if_pos (by rfl)]
          go_simp
          go_wp2_with fail
          exact hK.out _ _ ⟨tu, _, tp, tq, rfl, HST2.out, (fun h => by omega), (fun h => by omega)⟩
        · simp at hj
      case hend =>
        rintro a w3 ⟨u, s, p2, q, rfl, hst, _, _⟩
        obtain ⟨q1, q2, q3, q4⟩ := pb_end hst
        have q5 := pb_off hst (by decide) HOF.out HLT.out
        obtain ⟨pp, cc, rfl⟩ := Kind.own_shape q1.own
        have HE : Hid (CpK V (M + 2) (ks.take (i + 1)) pp cc w3) := by
          rw [HTK.out]
          exact ⟨q2, q1, q5⟩
        clear hst q1 q2 q3 q4 q5
        simp only [putS, List.foldl_cons, List.foldl_nil, Act.put, List.setIfInBounds_toArray, List.set_cons_zero, List.set_cons_succ]
        go_wp2_with fail
        go_roundg (ks.length - (i + 1))
        case measure => omega
        exact ⟨i + 1, pp, cc, by go_num, by omega, by omega, HE.out⟩
    · have hltz : ¬ (i : Int) < (ks.length : Int) := by omega
      have hti : ks.take i = ks := List.take_of_length_le (by omega)
      have HR0 : Hid (CpR V (M + 2) ks p c [] none 0 wr) := by
        have := HI.out
        rw [hti] at this
        exact this.done
      clear HI hti
      go_wp2_with fail
      clear a0 a1 hma hltz hlt hi hgk
      go_loopg [5] rs.length (fun gg vi wr => ∃ (i : Nat) (L : List Rx) (lp : Option Addr) (lc : Nat), vi = .int .i64 i ∧ i ≤ rs.length ∧ rs.length - i ≤ gg ∧ L.length ≤ i ∧ Hid (CpR V (M + 2) ks p c L lp lc wr ∧ L.map Rx.rg = (rs.take i).map Rx.rg))
      case atStart => exact ⟨0, [], none, 0, rfl, by omega, by omega, by simp, HR0.out, by simp⟩
      case round =>
        clear HR0
        obtain ⟨i2', L, lp, lc, rfl, hi, hgk, hLl, HI⟩ := hrel
        rename World => W2
        obtain ⟨hma, _, ⟨a0, a1⟩, hres⟩ := HIN.out W2 HI.out.1.row.bel
        by_cases hlt : i2' < rs.length
        · have hltz : (i2' : Int) < (rs.length : Int) := by omega
          have hiz : (0 : Int) ≤ i2' := by omega
          obtain ⟨b8, o8, rfl, _⟩ : ∃ b off, rp = some ⟨b, off, none⟩ ∧ KRx.At W2 b off rs := by
            obtain ⟨p', c', he, h⟩ := hma.rows
            injection he with e1 _ _
            subst e1
            rcases h with h | h
            · have h' : rs = [] := h
              rw [h'] at hlt; simp at hlt
            · exact h
          have HCE : Hid (∀ W, Below (M + 2) V W → (W.cell? ⟨M, 1, none⟩ = some (.slice (some ⟨b8, o8, none⟩) rs.length rc) ∧ W.cell? ⟨b8, o8 + i2' * 2, none⟩ = some (.string (rs[i2']).typ) ∧ W.cell? ⟨b8, o8 + i2' * 2 + 1, none⟩ = some (rs[i2']).sl) ∧ (rs[i2']).at W) := fun W hW => by
            obtain ⟨hq, _, ⟨_, q1⟩, _⟩ := HIN.out W hW
            obtain ⟨p', c', he, h⟩ := hq.rows
            injection he with e1 _ _
            subst e1
            rcases h with h | ⟨b', o', e2, h⟩
            · have h' : rs = [] := h
              rw [h'] at hlt; simp at hlt
            · injection e2 with e2
              injection e2 with e3 e4 e5
              subst e3 e4
              exact ⟨⟨q1, h i2' hlt 0 _ rfl, h i2' hlt 1 _ rfl⟩, hq.each _ (List.getElem_mem hlt)⟩
          have HTK : Hid ((rs.take (i2' + 1)).map Rx.rg = (rs.take i2').map Rx.rg ++ [(rs[i2']).rg]) := by
            show _ = _
            rw [List.take_succ_eq_append_getElem hlt, List.map_append]
            rfl
          have hrt := HFT.out _ (List.getElem_mem hlt)
          generalize rs[i2'] = r at *
          have HP0 : Hid (RowSt KM W2.heap.size W2 (.slice none 0 0) (r.tm.take 0) W2) := RowSt.nil KM (Below.refl _ _) (Nat.le_refl _)
          have HBV : Hid (∀ W, Below W2.heap.size W2 W → Below (M + 2) V W) := fun W hW => HI.out.1.row.bel.trans (hW.mono HI.out.1.row.base)
          clear hma
          obtain ⟨xt, xp, xc, xm⟩ := r
          simp only [Rx.sl] at *
          go_wp2_with fail
          clear a0 a1
          go_loopg [6, 7] xm.length (fun gg v6 vj wr => ∃ (j : Nat) (pp : Option Addr) (pc : Nat), vj = .int .i64 j ∧ v6 = .slice pp (xm.take j).length pc ∧ j ≤ xm.length ∧ xm.length - j ≤ gg ∧ Hid (RowSt KM W2.heap.size W2 (.slice pp (xm.take j).length pc) (xm.take j) wr))
          case atStart => exact ⟨0, none, 0, rfl, rfl, by omega, by omega, HP0.out⟩
          case round =>
            clear HP0
            obtain ⟨j, pp, pc, rfl, rfl, hj, hgj, HJ⟩ := hrel
            obtain ⟨⟨c0, c1, c2⟩, hat⟩ := HCE.out wr (HBV.out wr HJ.out.bel)
            by_cases hjt : j < xm.length
            · have hjz : (j : Int) < (xm.length : Int) := by omega
              have hj0 : (0 : Int) ≤ j := by omega
              obtain ⟨b9, o9, rfl, k9⟩ : ∃ b off, xp = some ⟨b, off, none⟩ ∧ KM.At wr b off xm := by
                obtain ⟨p', c', he, h⟩ := hat.1
                unfold Rx.sl at he
                injection he with e1 _ _
                subst e1
                rcases h with h | h
                · have h' : xm = [] := h
                  rw [h'] at hjt; simp at hjt
                · exact h
              have y0 : wr.cell? ⟨b9, o9 + j * 3, none⟩ = some (.string (xm[j]).1) := k9 j hjt 0 _ rfl
              have y1 : wr.cell? ⟨b9, o9 + j * 3 + 1, none⟩ = some (.int .i64 (xm[j]).2.1) := k9 j hjt 1 _ rfl
              have y2 : wr.cell? ⟨b9, o9 + j * 3 + 2, none⟩ = some (.string (xm[j]).2.2) := k9 j hjt 2 _ rfl
              have HTJ : Hid (xm.take (j + 1) = xm.take j ++ [xm[j]]) := List.take_succ_eq_append_getElem hjt
              have hkl : (xm.take j).length ≤ j := by rw [List.length_take]; omega
              generalize xm[j] = t at *
              generalize xm.take j = Bt at *
              obtain ⟨tf, tn, tx⟩ := t
              simp only at y0 y1 y2
              obtain ⟨W1, hW1⟩ : ∃ W1, wr.alloc (.cells #[.string tf, .int .i64 tn, .string tx] 87) = W1 := ⟨_, rfl⟩
              have hb1 : Below wr.heap.size wr W1 := by rw [← hW1]; exact (Below.refl _ _).alloc (Nat.le_refl _) _
              have HN1 : Hid (W1.heap[wr.heap.size]? = some (.cells #[.string tf, .int .i64 tn, .string tx] 87 (0, 0))) := by rw [← hW1]; exact heap_alloc_new wr _
              have HO1 := hid (HJ.out.on hb1)
              clear hb1 HJ k9 hat
              go_wp2_with (at_builtin; refine wpList_push KM rfl _ _ 83 rfl i2 _ 40 Try.underlying83 HIi2.out hx0 hx1 hx2 rfl W2.heap.size W2 _ Bt rfl HO1.out (tf, tn, tx) _ _ _ rfl rfl _ _ HN1.out (by unfold maxLen; omega) (by omega) ?_
                           intro g3 c3 w3 hst3 _ _
                           have HS3 := hid hst3
                           clear hst3)
              go_roundg (xm.length - (j + 1))
              case measure => omega
              exact ⟨j + 1, some ⟨g3, 0, none⟩, c3, by go_num, by rw [HTJ.out, List.length_append]; rfl, by omega, by omega, by rw [HTJ.out, List.length_append]; exact HS3.out⟩
            · have hjz : ¬ (j : Int) < (xm.length : Int) := by omega
              have htj : xm.take j = xm := List.take_of_length_le (by omega)
              rw [htj] at HJ ⊢
              have hbJ := HJ.out.bel
              have hC := HI.out.1.on hbJ
              have HROW : Hid (RowSt KRx (M + 2) V (.slice lp L.length lc) L wr.drew) := hC.row.on (bel_drewN (Below.refl _ _) 1)
              have HBX : Hid (wr.drew.heap[M + 2]? = some (.cells #[.slice p ks.length c, .slice lp L.length lc] 32 (0, 0))) := hC.box
              have HOF : Hid (∀ b, (Value.slice lp L.length lc).ownBlock = some b → b ≠ M + 2) := fun b hb => (hC.off b hb).1
              have HLT : Hid (M + 2 < wr.drew.heap.size) := (Array.getElem?_eq_some_iff.1 hC.box).1
              have HC := hid hC
              have HFM := hid hat.2
              have HEO : Hid (∀ b, (Value.slice pp xm.length pc).ownBlock = some b → ¬ (Value.slice lp L.length lc).ownBlock = some b ∧ ∀ r ∈ L, ¬ r.sl.ownBlock = some b) := fun b hb => by
                have h1 := (World.ownsRow.lt (show wr.ownsRow W2.heap.size KM.T KM.k (.slice pp xm.length pc) xm.length (KM.cells xm) from HJ.out.own) b hb).1
                refine ⟨fun h2 => ?_, fun r hr h2 => ?_⟩
                · have := (World.ownsRow.lt (show W2.ownsRow (M + 2) KRx.T KRx.k (.slice lp L.length lc) L.length (KRx.cells L) from HI.out.1.row.own) b h2).2
                  omega
                · have := (World.ownsRow.lt (show W2.ownsRow (M + 2 + 1) KM.T KM.k r.sl r.tm.length (KM.cells r.tm) from (HI.out.1.each r hr).1) b h2).2
                  omega
              have HPO : Hid (KM.Own (M + 2 + 1) wr (.slice pp xm.length pc) xm) := Kind.own_weak HJ.out.own (by have := (Array.getElem?_eq_some_iff.1 HI.out.1.box).1; omega)
              have HLE := hid HI.out.2
              have HS : Hid (∀ W, Below (M + 2) V W → W.cell? ⟨M, 1, none⟩ = some (.slice (some ⟨b8, o8, none⟩) rs.length rc) ∧ W.cell? ⟨b8, o8 + i2' * 2, none⟩ = some (.string xt) ∧ W.cell? ⟨b8, o8 + i2' * 2 + 1, none⟩ = some (.slice xp xm.length xc)) := fun W hW => (HCE.out W hW).1
              clear htj hbJ hC hat HI HJ
              go_upto_region 14 with fail
              clear c0 c1 c2
              refine wp_region_held_drew (S := fun W => W.cell? ⟨M, 1, none⟩ = some (.slice (some ⟨b8, o8, none⟩) rs.length rc) ∧ W.cell? ⟨b8, o8 + i2' * 2, none⟩ = some (.string xt) ∧ W.cell? ⟨b8, o8 + i2' * 2 + 1, none⟩ = some (.slice xp xm.length xc)) (by kernel_rfl) (HS.out wr.drew HROW.out.bel) (fun hHeld => ?_)
              refine take_val (i := 0) (.pointer (some ⟨M + 2, 1, none⟩)) rfl (by kernel_rfl) (by kernel_rfl) (by kernel_rfl) (fun _ _ _ h => h) (by rfl) (fun w hSw => by go_simp) hHeld ?_
              simp only [Act.put, List.setIfInBounds_toArray, List.set_cons_zero, List.set_cons_succ]
              refine take_val (i := 2) (.pointer (some ⟨M, 1, none⟩)) rfl (by kernel_rfl) (by kernel_rfl) (by kernel_rfl) (fun _ _ _ h => h) (by rfl) (fun w hSw => by go_simp) hHeld ?_
              simp only [Act.put, List.setIfInBounds_toArray, List.set_cons_zero, List.set_cons_succ]
              refine take_val (i := 3) (.slice (some ⟨b8, o8, none⟩) rs.length rc) rfl (by kernel_rfl) (by kernel_rfl) (by kernel_rfl) (fun _ _ _ h => h) (by rfl) (fun w hSw => by go_simp) hHeld ?_
              simp only [Act.put, List.setIfInBounds_toArray, List.set_cons_zero, List.set_cons_succ]
              refine take_val (i := 4) (.int .i64 i2') rfl (by kernel_rfl) (by kernel_rfl) (by kernel_rfl) (fun _ _ _ h => h) (by rfl) (fun w hSw => by go_simp) hHeld ?_
              simp only [Act.put, List.setIfInBounds_toArray, List.set_cons_zero, List.set_cons_succ]
              refine take_val (i := 5) (.pointer (some ⟨b8, o8 + i2' * 2, none⟩)) rfl (by kernel_rfl) (by kernel_rfl) (by kernel_rfl) (fun _ _ _ h => h) (by rfl) (fun w hSw => by go_simp) hHeld ?_
              simp only [Act.put, List.setIfInBounds_toArray, List.set_cons_zero, List.set_cons_succ]
              refine take_val (i := 6) (.pointer (some ⟨b8, o8 + i2' * 2, none⟩)) rfl (by kernel_rfl) (by kernel_rfl) (by kernel_rfl) (fun _ _ _ h => h) (by rfl) (fun w hSw => by go_simp) hHeld ?_
              simp only [Act.put, List.setIfInBounds_toArray, List.set_cons_zero, List.set_cons_succ]
              refine take_val (i := 7) (.string xt) rfl (by kernel_rfl) (by kernel_rfl) (by kernel_rfl) (fun _ _ _ h => h) (by rfl) (fun w hSw => by go_simp) hHeld ?_
              simp only [Act.put, List.setIfInBounds_toArray, List.set_cons_zero, List.set_cons_succ]
              refine take_val (i := 8) (.slice pp xm.length pc) rfl (by kernel_rfl) (by kernel_rfl) (by kernel_rfl) (fun _ _ _ h => h) (by rfl) (fun w hSw => by go_simp) hHeld ?_
              simp only [Act.put, List.setIfInBounds_toArray, List.set_cons_zero, List.set_cons_succ]
              refine take_val (i := 9) (.agg #[.string xt, .slice pp xm.length pc]) rfl (by kernel_rfl) (by kernel_rfl) (by kernel_rfl) (fun _ _ _ h => h) (by rfl) (fun w hSw => by go_simp) hHeld ?_
              simp only [Act.put, List.setIfInBounds_toArray, List.set_cons_zero, List.set_cons_succ]
              clear hHeld
              refine wpAnyH_floats [11, 12, 13] [1, 10] (fun a0 k fl a w' => ∃ tu ts tp tq, a = putS a0 [(56, tu), (65, ts), (66, tp), (67, tq)] ∧ Pb KRx 85 (M + 2) V ⟨xt, pp, pc, xm⟩ L (.slice lp L.length lc) (M + 2) 1 #[.slice p ks.length c, .slice lp L.length lc] 32 wr.drew k fl tu ts tp w' ∧ (2 ≤ k → tq = .pointer (some ⟨(M + 2), 1, none⟩)) ∧ (1 ≤ k → fl = [true, true])) (by kernel_rfl) (by decide) ⟨_, _, _, _, (putS_self _ [56, 65, 66, 67]).symm, pb_start _ _ _ HROW.out HBX.out, (fun h => by omega), (fun h => by omega)⟩ ?hS ?hmain ?halloc ?hend
              case hS =>
                rintro k fl a w' ⟨tu, ts, tp, tq, _, h, _⟩
                exact HS.out w' (pb_bel h)
              case hmain =>
                rintro k i' fl a w' hk hfl hrd ⟨tu, ts, tp, tq, rfl, hst, hq, hfe⟩
                obtain ⟨f1, f2, rfl⟩ : ∃ f1 f2, fl = [f1, f2] := by
                  match fl, hfl with
                  | [f1, f2], _ => exact ⟨f1, f2, rfl⟩
                rcases k with _ | _ | _ | k
                · obtain rfl : i' = 11 := by simpa using hk.symm
                  cases f1 with
                  | false => exact (not_ready hrd (by cases f2 <;> kernel_rfl)).elim
                  | true =>
                    cases f2 with
                    | false => exact (not_ready hrd (by kernel_rfl)).elim
                    | true =>
                      obtain ⟨Z1, rfl, rfl, hbx, hrow⟩ := pb_row hst
                      refine ⟨_, at_drop0 rfl, fun K hK => ?_⟩
                      simp only [putS, List.foldl_cons, List.foldl_nil, Act.put, List.setIfInBounds_toArray, List.set_cons_zero, List.set_cons_succ]
                      rw [if_pos (by rfl)]
                      refine wp_push KRx rfl _ _ 30 rfl i1 _ 40 Try.underlying30 HIi1.out hy0 hy1 hy2 rfl (M + 2) V (.slice lp L.length lc) L (by rfl) hrow ⟨xt, pp, pc, xm⟩ Z1 1 1 rfl (by rfl) 85 (0, 0) hbx (by unfold maxLen; omega) (by omega) ?_
                      intro g cc w3 h1 h2 h3
                      exact hK.out _ _ ⟨_, _, _, tq, rfl, pb_push hst HOF.out h1 h2 h3, (fun h => by omega), (fun _ => rfl)⟩
                · obtain rfl : i' = 12 := by simpa using hk.symm
                  have HST2 := hid (pb_on hst)
                  have HFE := hid (hfe (by omega))
                  clear hrd hst hq hfe
                  refine ⟨_, at_drop0 rfl, fun K hK => ?_⟩
                  simp only [putS, List.foldl_cons, List.foldl_nil, Act.put, List.setIfInBounds_toArray, List.set_cons_zero, List.set_cons_succ]
                  rw [if_pos (by rfl)]
                  go_simp
                  go_wp2_with fail
                  exact hK.out _ _ ⟨tu, ts, tp, _, rfl, HST2.out, (fun _ => rfl), (fun _ => HFE.out)⟩
                · obtain rfl : i' = 13 := by simpa using hk.symm
                  obtain rfl : tq = .pointer (some ⟨(M + 2), 1, none⟩) := hq (by omega)
                  obtain ⟨hb2, hst2⟩ := pb_store hst (Nat.le_refl _) (pb_off hst (by omega) HOF.out HLT.out)
                  obtain ⟨pp, cc, rfl⟩ := pb_shape hst (by omega)
                  have HST2 := hid hst2
                  have HFE := hid (hfe (by omega))
                  have c0 : w'.cell? ⟨(M + 2), 1, none⟩ = some (.slice lp L.length lc) := by rw [Lib.cell_of_heap hb2]; rfl
                  have z0 : w'.frozen? ⟨(M + 2), 1, none⟩ = false := Lib.frozen_of_heap hb2 1
                  clear hrd hst hq hfe hst2 hb2
                  refine ⟨_, at_drop0 rfl, fun K hK => ?_⟩
                  simp only [putS, List.foldl_cons, List.foldl_nil, Act.put, List.setIfInBounds_toArray, List.set_cons_zero, List.set_cons_succ]
                  rw [if_pos (by rfl)]
                  go_simp
                  go_wp2_with fail
                  exact hK.out _ _ ⟨tu, ts, _, _, rfl, HST2.out, (fun _ => rfl), (fun _ => HFE.out)⟩
                · simp at hk
              case halloc =>
                rintro j i' k fl a w' hj hk hfl hf ⟨tu, ts, tp, tq, rfl, hst, hq, hfe⟩
                obtain ⟨f1, f2, rfl⟩ : ∃ f1 f2, fl = [f1, f2] := by
                  match fl, hfl with
                  | [f1, f2], _ => exact ⟨f1, f2, rfl⟩
                have hk0 : k = 0 := by
                  rcases Nat.eq_zero_or_pos k with h | h
                  · exact h
                  · have := hfe h
                    rcases j with _ | _ | j
                    · simp at this hf; simp_all
                    · simp at this hf; simp_all
                    · simp at hj
                subst hk0
                rcases j with _ | _ | j
                · obtain rfl : i' = 1 := by simpa using hj.symm
                  obtain rfl : f1 = false := by simpa using hf
                  obtain ⟨hb2, hst2⟩ := pb_load hst (by omega)
                  have HST2 := hid hst2
                  have c0 : w'.cell? ⟨(M + 2), 1, none⟩ = some (.slice lp L.length lc) := by rw [Lib.cell_of_heap hb2]; rfl
                  clear hst hf hj hk hq hst2 hfe hb2
                  refine ⟨_, at_drop0 rfl, fun K hK => ?_⟩
                  simp only [putS, List.foldl_cons, List.foldl_nil, Act.put, List.setIfInBounds_toArray, List.set_cons_zero, List.set_cons_succ]
                  rw [if_pos (by rfl)]
                  go_simp
                  go_wp2_with fail
                  exact hK.out _ _ ⟨_, ts, tp, tq, rfl, HST2.out, (fun h => by omega), (fun h => by omega)⟩
                · obtain rfl : i' = 10 := by simpa using hj.symm
                  obtain rfl : f2 = false := by simpa using hf
                  have HST2 := hid (pb_box hst)
                  clear hst hf hj hk hq hfe
                  refine ⟨_, at_drop0 rfl, fun K hK => ?_⟩
                  simp only [putS, List.foldl_cons, List.foldl_nil, Act.put, List.setIfInBounds_toArray, List.set_cons_zero, List.set_cons_succ]
                  rw [if_pos (by rfl)]
                  go_simp
                  go_wp2_with fail
                  exact hK.out _ _ ⟨tu, _, tp, tq, rfl, HST2.out, (fun h => by omega), (fun h => by omega)⟩
                · simp at hj
              case hend =>
                rintro a w3 ⟨tu, ts, tp, tq, rfl, hst, _, _⟩
                obtain ⟨q1, q2, q3, q4⟩ := pb_end hst
                obtain ⟨g, cc, rfl⟩ := pb_shape2 hst (by decide)
                have hown : (Value.slice (some ⟨g, 0, none⟩) (L.length + 1) cc).ownBlock = some g := rfl
                have hCd := HC.out.on (bel_drewN (Below.refl wr.heap.size wr) 1)
                have HE : Hid (CpR V (M + 2) ks p c (L ++ [⟨xt, pp, pc, xm⟩]) (some ⟨g, 0, none⟩) cc w3) := hCd.push rfl q1 q2 q3 (q4 g hown) ⟨Kind.own_on HPO.out (bel_drewN (Below.refl wr.heap.size wr) 1), HFM.out⟩ HEO.out
                have HE2 : Hid ((L ++ [(⟨xt, pp, pc, xm⟩ : Rx)]).map Rx.rg = (rs.take (i2' + 1)).map Rx.rg) := by
                  show _ = _
                  rw [HTK.out, List.map_append, HLE.out]
                  rfl
                clear hst q1 q2 q3 q4 hCd hown
                simp only [putS, List.foldl_cons, List.foldl_nil, Act.put, List.setIfInBounds_toArray, List.set_cons_zero, List.set_cons_succ]
                go_wp2_with fail
                go_roundg (rs.length - (i2' + 1))
                case measure => omega
                exact ⟨i2' + 1, L ++ [⟨xt, pp, pc, xm⟩], some ⟨g, 0, none⟩, cc, by go_num, by omega, by omega, by rw [List.length_append]; simp; omega, HE.out, HE2.out⟩
        · have hltz : ¬ (i2' : Int) < (rs.length : Int) := by omega
          have hti : rs.take i2' = rs := List.take_of_length_le (by omega)
          rw [hti] at HI
          obtain ⟨W5, hW5⟩ : ∃ W5, (W2.setCell ⟨M + 1, 0, none⟩ (.slice p ks.length c)).setCell ⟨M + 1, 1, none⟩ (.slice lp L.length lc) = W5 := ⟨_, rfl⟩
          have hC := HI.out.1
          have r0 : W2.cell? ⟨M + 2, 0, none⟩ = some (.slice p ks.length c) := by rw [Lib.cell_of_heap hC.box]; rfl
          have r1 : W2.cell? ⟨M + 2, 1, none⟩ = some (.slice lp L.length lc) := by rw [Lib.cell_of_heap hC.box]; rfl
          obtain ⟨⟨d0, d1, f0, f1⟩, e5, fr5⟩ := store_two (a := .slice p ks.length c) (b := .slice lp L.length lc) hres
          rw [hW5] at e5 fr5
          have g0 : W5.cell? ⟨M + 1, 0, none⟩ = some (.slice p ks.length c) := by rw [Lib.cell_of_heap e5]; rfl
          have g1 : W5.cell? ⟨M + 1, 1, none⟩ = some (.slice lp L.length lc) := by rw [Lib.cell_of_heap e5]; rfl
          have HG := hid (And.intro g0 g1)
          have HB5 : Hid (Below w.heap.size w W5) := by
            have h9 := (HIN.out W2 hC.row.bel).2.1
            refine h9.trans (fr5.below (by have := h9.size; omega) fun k hk => by omega)
          have HO5 : Hid (MOwn w.heap.size W5 ⟨p, c, ks, lp, lc, L⟩) := by
            refine ⟨fr5.row (show W2.ownsRow w.heap.size KK.T KK.k (.slice p ks.length c) ks.length (KK.cells ks) from Kind.own_weak hC.keys.own (by omega)) fun k h1 h2 => ?_, fr5.row (show W2.ownsRow w.heap.size KRx.T KRx.k (.slice lp L.length lc) L.length (KRx.cells L) from Kind.own_weak hC.row.own (by omega)) fun k h1 h2 => ?_, fun r hr => ⟨fr5.row (show W2.ownsRow w.heap.size KM.T KM.k r.sl r.tm.length (KM.cells r.tm) from Kind.own_weak (hC.each r hr).1 (by omega)) fun k h1 h2 => ?_, (hC.each r hr).2.1⟩, hC.apart⟩
            · have := (World.ownsRow.lt (show W2.ownsRow (M + 2) KK.T KK.k (.slice p ks.length c) ks.length (KK.cells ks) from hC.keys.own) k h1).1
              omega
            · have := (World.ownsRow.lt (show W2.ownsRow (M + 2) KRx.T KRx.k (.slice lp L.length lc) L.length (KRx.cells L) from hC.row.own) k h1).1
              omega
            · have := (World.ownsRow.lt (show W2.ownsRow (M + 2 + 1) KM.T KM.k r.sl r.tm.length (KM.cells r.tm) from (hC.each r hr).1) k h1).1
              omega
          have HLE := hid HI.out.2
          clear hC HI hti g0 g1 e5 fr5 hma
          go_wp2_with fail
          try rw [hW5]
          obtain ⟨g0, g1⟩ := HG.out
          refine bodyPost_ret (v := .agg #[.slice p ks.length c, .slice lp L.length lc]) (by simp [results, Try.results39, go_sem, g0, g1]) rfl ⟨⟨p, c, ks, lp, lc, L⟩, rfl, HO5.out, ?_, HB5.out⟩
          exact congrArg (Prod.mk ks) HLE.out

end Go.Proofs.Ytmihddbnddgfhaa

/-
  The reference of stage 13: Done, a copy.
-/
namespace Go.Proofs.Ytmihddbnddgfhaa
open Go.RowKit

/-- What can be copied. -/
structure FewD (x : Dx) : Prop where
  few : LotM x.m
  terms : ∀ r ∈ x.m.rs, r.tm.length ≤ 3518437208800
  chg : x.cs.length ≤ 1466015503658
/-- What came in can be copied. -/
theorem SzD.few {x : Dx} (h : SzD x.m x.cs) : FewD x := ⟨⟨by have := h.keys; omega, by have := h.rows; omega⟩, fun r hr => by have := h.terms r hr; omega, h.chg⟩

theorem SzD.same {m m' : Mx} {cs cs' : List Cx} (h : SzD m cs) (hm : m'.mk' = m.mk') (hc : cs'.map Cx.ch = cs.map Cx.ch) (hcp : ∀ x ∈ cs', CopyX x.wo ∧ CopyX x.io) : SzD m' cs' := by
  have h1 : m'.ks = m.ks := congrArg Prod.fst hm
  have h2 : m'.rs.map Rx.rg = m.rs.map Rx.rg := congrArg Prod.snd hm
  have h3 : m'.rs.length = m.rs.length := by have := congrArg List.length h2; simpa using this
  have h4 : cs'.length = cs.length := by have := congrArg List.length hc; simpa using this
  refine ⟨by rw [h1]; exact h.keys, by rw [h3]; exact h.rows, fun r hr => ?_, by rw [h4]; exact h.chg, hcp, by rw [h1]; exact h.kfit, fun c hc' => ?_⟩
  · have : r.rg ∈ m.rs.map Rx.rg := by rw [← h2]; exact List.mem_map_of_mem hr
    obtain ⟨r', hr', e⟩ := List.mem_map.1 this
    have e2 : r'.tm = r.tm := congrArg Prod.snd e
    rw [← e2]
    exact h.terms r' hr'
  · have : c.ch ∈ cs.map Cx.ch := by rw [← hc]; exact List.mem_map_of_mem hc'
    obtain ⟨c', hc2, e⟩ := List.mem_map.1 this
    have e2 : (c'.a, c'.b) = (c.a, c.b) := congrArg Ch.key e
    rw [← e2]
    exact h.cfit c' hc2

/-- What Done answers. -/
def DnPost (W : World) (x : Dx) (e : Ending) (w' : World) : Prop :=
  ∃ y : Dx, e = .returned (.agg (encDx y).toArray) ∧ DOwn W.heap.size w' y ∧ y.dn = x.dn ∧ SzD y.m y.cs ∧ Below W.heap.size W w'

theorem DOwn.fr {N : Nat} {w w' : World} {x : Dx} {P : Nat → Prop} (h : DOwn N w x) (f : Fr P w w') (hP : ∀ k, P k → k < N) : DOwn N w' x :=
  ⟨h.mrk.fr f hP, f.row (show w.ownsRow N KCx.T KCx.k x.csl x.cs.length (KCx.cells x.cs) from h.row) fun k hk hp => by
    have h1 := (World.ownsRow.lt (show w.ownsRow N KCx.T KCx.k x.csl x.cs.length (KCx.cells x.cs) from h.row) k hk).1
    have h2 := hP k hp
    omega, fun c hc => (h.each c hc).fr f fun k hk hp => by
    have h1 := ((h.each c hc).blk k hk).1
    have h2 := hP k hp
    omega, h.apart⟩
theorem MOwn.weak {N M : Nat} {W : World} {m : Mx} (h : MOwn N W m) (hM : M ≤ N) : MOwn M W m := ⟨Kind.own_weak h.keys hM, Kind.own_weak h.rows hM, fun r hr => ⟨Kind.own_weak (h.each r hr).1 hM, (h.each r hr).2⟩, h.apart⟩
theorem DOwn.weak {N M : Nat} {w : World} {x : Dx} (h : DOwn N w x) (hM : M ≤ N) : DOwn M w x := ⟨h.mrk.weak hM, Kind.own_weak h.row hM, fun c hc => (h.each c hc).weak hM, h.apart⟩
theorem DOwn.inn {N : Nat} {w : World} {x : Dx} (h : DOwn N w x) : MIn w x.m ∧ ChgIn w x.csl x.cs := ⟨h.mrk.inn, Kind.own_is h.row, fun c hc => (h.each c hc).inn⟩

set_option linter.unusedSimpArgs false in
set_option maxHeartbeats 8000000 in
set_option maxRecDepth 100000 in
theorem done13_any (x : Dx) (w : World) (hx : DIn w x) (hf : FewD x) : Calls Try.prog 24 #[.agg (encDx x).toArray] w fun e w' => DnPost w x e w' := by
  obtain ⟨V, hV⟩ : ∃ V, w.alloc (.cells (encDx x).toArray 35) = V := ⟨_, rfl⟩
  obtain ⟨V2, hV2⟩ : ∃ V2, V.alloc (.cells #[.int .u64 0, .int .u64 0, .bool false, .slice none 0 0, .slice none 0 0, .slice none 0 0] 35) = V2 := ⟨_, rfl⟩
  obtain ⟨M, hM⟩ : ∃ M, w.heap.size = M := ⟨_, rfl⟩
  have hbV : Below w.heap.size w V := by rw [← hV]; exact (Below.refl _ _).alloc (Nat.le_refl _) _
  have hbV2 : Below V.heap.size V V2 := by rw [← hV2]; exact (Below.refl _ _).alloc (Nat.le_refl _) _
  have hobj : V.heap[M]? = some (.cells (encDx x).toArray 35 (0, 0)) := by rw [← hV, ← hM]; exact heap_alloc_new w _
  have hsV : V.heap.size = M + 1 := by rw [← hV, ← hM]; simp
  have hsV2 : V2.heap.size = M + 2 := by rw [← hV2]; simp [hsV]
  have hobj2 : V2.heap[M + 1]? = some (.cells #[.int .u64 0, .int .u64 0, .bool false, .slice none 0 0, .slice none 0 0, .slice none 0 0] 35 (0, 0)) := by rw [← hV2, ← hsV]; exact heap_alloc_new V _
  have hobj1 : V2.heap[M]? = some (.cells (encDx x).toArray 35 (0, 0)) := (hbV2.block M (by omega)).trans hobj
  have HBV := hid (bel_then hbV hbV.size hbV2)
  have HIN : Hid (∀ W, Below w.heap.size w W → MIn W x.m ∧ ChgIn W x.csl x.cs) := fun W hW => ⟨hx.mrk.on hW, hx.chg.on hW⟩
  have HSZ := hid hx.sz
  have HF := hid hf
  clear hx hf hbV hobj hbV2
  obtain ⟨xs, xt, xo, xm, xcp, xcc, xcs⟩ := x
  have HM := hid (marks12_any xm V2 (HIN.out V2 HBV.out).1 HF.out.few HF.out.terms)
  simp only [Dx.csl] at HIN
  have HCH : Hid (∀ W, Below w.heap.size w W → Calls Try.prog 40 #[.slice xcp xcs.length xcc] W fun e w' => ChPost W (xcs.map Cx.ch) e w') := fun W hW => changes13_any _ xcs W (HIN.out W hW).2 HF.out.chg HSZ.out.copy
  obtain ⟨mkp, mkc, mks, mrp, mrc, mrs⟩ := xm
  simp only [encDx, Mx.ksl, Mx.rsl, Dx.csl, encMx] at *
  have HBOX : Hid (∀ W : World, W.heap[M]? = V2.heap[M]? → (W.cell? ⟨M, 3, none⟩ = some (.slice mkp mks.length mkc) ∧ W.cell? ⟨M, 4, none⟩ = some (.slice mrp mrs.length mrc)) ∧ W.frozen? ⟨M, 3, none⟩ = false ∧ W.frozen? ⟨M, 4, none⟩ = false) := fun W he => by
    have := he.trans hobj1
    exact ⟨⟨by rw [Lib.cell_of_heap this]; rfl, by rw [Lib.cell_of_heap this]; rfl⟩, Lib.frozen_of_heap this 3, Lib.frozen_of_heap this 4⟩
  obtain ⟨⟨c3, c4⟩, _, _⟩ := HBOX.out V2 rfl
  go_enter Try.func24, Try.ntmps24
  go_wp2_with fail
  refine HM.out.mono ?_
  rintro e w1 ⟨m, rfl, hmo, hmm, hb1⟩
  clear c3 c4 HM
  obtain ⟨⟨c3, c4⟩, z3, z4⟩ := HBOX.out w1 (hb1.block M (by omega))
  have hob1 : w1.heap[M]? = some (.cells #[.int .u64 xs, .int .u64 xt, .bool xo, .slice mkp mks.length mkc, .slice mrp mrs.length mrc, .slice xcp xcs.length xcc] 35 (0, 0)) := (hb1.block M (by omega)).trans hobj1
  have hoc1 := (hb1.block (M + 1) (by omega)).trans hobj2
  obtain ⟨nkp, nkc, nks, nrp, nrc, nrs⟩ := m
  simp only [encMx, Mx.ksl, Mx.rsl] at *
  obtain ⟨W1, hW1⟩ : ∃ W1, (w1.setCell ⟨M, 3, none⟩ (.slice nkp nks.length nkc)).setCell ⟨M, 4, none⟩ (.slice nrp nrs.length nrc) = W1 := ⟨_, rfl⟩
  have ho1 : W1.heap[M]? = some (.cells #[.int .u64 xs, .int .u64 xt, .bool xo, .slice nkp nks.length nkc, .slice nrp nrs.length nrc, .slice xcp xcs.length xcc] 35 (0, 0)) := by
    rw [← hW1]
    exact heap_setCell_same _ M 4 _ _ _ (heap_setCell_same w1 M 3 _ _ _ hob1)
  have hf1 : Fr (fun b => b = M) w1 W1 := by
    rw [← hW1]
    exact (fr_set w1 M 3 _).then (fr_set _ M 4 _) fun k hk => Or.inl hk
  have ho2 : W1.heap[M + 1]? = _ := (hf1.block (M + 1) (Array.getElem?_eq_some_iff.1 hoc1).1 (by omega)).trans hoc1
  have hbW1 : Below w.heap.size w W1 := (bel_then HBV.out HBV.out.size hb1).trans (hf1.below (by have := hb1.size; omega) fun k hk => by omega)
  have HMO : Hid (MOwn (M + 2) W1 ⟨nkp, nkc, nks, nrp, nrc, nrs⟩) := by
    have := hmo.fr hf1 fun k hk => by omega
    rw [hsV2] at this
    exact this
  have HMM := hid hmm
  have HC1 := hid (HCH.out W1 hbW1)
  have HW1 := hid hbW1
  have hs1 : M + 2 ≤ W1.heap.size := by have := hb1.size; have := hf1.size; omega
  have d5 : W1.cell? ⟨M, 5, none⟩ = some (.slice xcp xcs.length xcc) := by rw [Lib.cell_of_heap ho1]; rfl
  have HO1 := hid ho1
  have HO2 := hid ho2
  clear hmo hmm hb1 hob1 hoc1 hf1 hbW1 HCH ho1 ho2 hobj1 hobj2 HBOX
  go_wp2_with fail
  try rw [hW1]
  clear c3 c4 z3 z4 hW1
  refine HC1.out.mono ?_
  rintro e w2 ⟨p, c, cs, rfl, hco, hce, hca, hcm, hb2⟩
  clear d5 HC1
  have ho1 := (hb2.block M (by omega)).trans HO1.out
  have ho2 := (hb2.block (M + 1) (by omega)).trans HO2.out
  obtain ⟨W2, hW2⟩ : ∃ W2, w2.setCell ⟨M, 5, none⟩ (.slice p cs.length c) = W2 := ⟨_, rfl⟩
  have ho3 : W2.heap[M]? = some (.cells #[.int .u64 xs, .int .u64 xt, .bool xo, .slice nkp nks.length nkc, .slice nrp nrs.length nrc, .slice p cs.length c] 35 (0, 0)) := by
    rw [← hW2]
    exact heap_setCell_same _ M 5 _ _ _ ho1
  have hf2 : Fr (fun b => b = M) w2 W2 := by rw [← hW2]; exact fr_set w2 M 5 _
  have ho4 : W2.heap[M + 1]? = _ := (hf2.block (M + 1) (Array.getElem?_eq_some_iff.1 ho2).1 (by omega)).trans ho2
  have HD : Hid (DOwn (M + 2) W2 ⟨xs, xt, xo, ⟨nkp, nkc, nks, nrp, nrc, nrs⟩, p, c, cs⟩ ∧ SzD ⟨nkp, nkc, nks, nrp, nrc, nrs⟩ cs ∧ Below w.heap.size w W2 ∧ cs.map Cx.ch = xcs.map Cx.ch) := by
    refine ⟨⟨(HMO.out.on hb2).fr hf2 fun k hk => by omega, ?_, fun y hy => ?_, hca⟩, HSZ.out.same HMM.out hcm fun y hy => ⟨(hce y hy).2.1, (hce y hy).2.2.1⟩, ?_, hcm⟩
    · have := hf2.row (show w2.ownsRow W1.heap.size KCx.T KCx.k (.slice p cs.length c) cs.length (KCx.cells cs) from hco) fun k hk hp => by
        have h1 := (World.ownsRow.lt (show w2.ownsRow W1.heap.size KCx.T KCx.k (.slice p cs.length c) cs.length (KCx.cells cs) from hco) k hk).1
        omega
      exact Kind.own_weak (K := KCx) this hs1
    · exact ((hce y hy).1.fr hf2 fun k hk hp => by have := ((hce y hy).1.blk k hk).1; omega).weak hs1
    · exact (bel_then HW1.out HW1.out.size hb2).trans (hf2.below (by have := hb2.size; omega) fun k hk => by omega)
  have c5 : w2.cell? ⟨M, 5, none⟩ = some (.slice xcp xcs.length xcc) := by rw [Lib.cell_of_heap ho1]; rfl
  have z5 : w2.frozen? ⟨M, 5, none⟩ = false := Lib.frozen_of_heap ho1 5
  have a0 : W2.cell? ⟨M, 0, none⟩ = some (.int .u64 xs) := by rw [Lib.cell_of_heap ho3]; rfl
  have a1 : W2.cell? ⟨M, 1, none⟩ = some (.int .u64 xt) := by rw [Lib.cell_of_heap ho3]; rfl
  have a2 : W2.cell? ⟨M, 2, none⟩ = some (.bool xo) := by rw [Lib.cell_of_heap ho3]; rfl
  have a3 : W2.cell? ⟨M, 3, none⟩ = some (.slice nkp nks.length nkc) := by rw [Lib.cell_of_heap ho3]; rfl
  have a4 : W2.cell? ⟨M, 4, none⟩ = some (.slice nrp nrs.length nrc) := by rw [Lib.cell_of_heap ho3]; rfl
  have a5 : W2.cell? ⟨M, 5, none⟩ = some (.slice p cs.length c) := by rw [Lib.cell_of_heap ho3]; rfl
  have q0 : W2.cell? ⟨M + 1, 0, none⟩ = some (.int .u64 0) := by rw [Lib.cell_of_heap ho4]; rfl
  have q1 : W2.cell? ⟨M + 1, 1, none⟩ = some (.int .u64 0) := by rw [Lib.cell_of_heap ho4]; rfl
  have q2 : W2.cell? ⟨M + 1, 2, none⟩ = some (.bool false) := by rw [Lib.cell_of_heap ho4]; rfl
  have q3 : W2.cell? ⟨M + 1, 3, none⟩ = some (.slice none 0 0) := by rw [Lib.cell_of_heap ho4]; rfl
  have q4 : W2.cell? ⟨M + 1, 4, none⟩ = some (.slice none 0 0) := by rw [Lib.cell_of_heap ho4]; rfl
  have q5 : W2.cell? ⟨M + 1, 5, none⟩ = some (.slice none 0 0) := by rw [Lib.cell_of_heap ho4]; rfl
  have r0 : W2.frozen? ⟨M + 1, 0, none⟩ = false := Lib.frozen_of_heap ho4 0
  have r1 : W2.frozen? ⟨M + 1, 1, none⟩ = false := Lib.frozen_of_heap ho4 1
  have r2 : W2.frozen? ⟨M + 1, 2, none⟩ = false := Lib.frozen_of_heap ho4 2
  have r3 : W2.frozen? ⟨M + 1, 3, none⟩ = false := Lib.frozen_of_heap ho4 3
  have r4 : W2.frozen? ⟨M + 1, 4, none⟩ = false := Lib.frozen_of_heap ho4 4
  have r5 : W2.frozen? ⟨M + 1, 5, none⟩ = false := Lib.frozen_of_heap ho4 5
  clear hco hce hca hcm hb2 ho1 ho2 ho3 ho4 hf2 HO1 HO2
  go_wp2_with fail
  refine bodyPost_ret (v := .agg #[.int .u64 xs, .int .u64 xt, .bool xo, .slice nkp nks.length nkc, .slice nrp nrs.length nrc, .slice p cs.length c]) (by simp [results, Try.results24, go_sem, q0, q1, q2, q3, q4, q5]) rfl ⟨⟨xs, xt, xo, ⟨nkp, nkc, nks, nrp, nrc, nrs⟩, p, c, cs⟩, rfl, ?_, ?_, HD.out.2.1, ?_⟩
  · have hfr : Fr (fun b => b = M + 1) W2 ((((((W2.setCell ⟨M + 1, 0, none⟩ (.int .u64 xs)).setCell ⟨M + 1, 1, none⟩ (.int .u64 xt)).setCell ⟨M + 1, 2, none⟩ (.bool xo)).setCell ⟨M + 1, 3, none⟩ (.slice nkp nks.length nkc)).setCell ⟨M + 1, 4, none⟩ (.slice nrp nrs.length nrc)).setCell ⟨M + 1, 5, none⟩ (.slice p cs.length c)) :=
      (((((fr_set _ _ _ _).then (fr_set _ _ _ _) fun k hk => Or.inl hk).then (fr_set _ _ _ _) fun k hk => Or.inl hk).then (fr_set _ _ _ _) fun k hk => Or.inl hk).then (fr_set _ _ _ _) fun k hk => Or.inl hk).then (fr_set _ _ _ _) fun k hk => Or.inl hk
    rw [hM]
    exact (HD.out.1.fr hfr fun k hk => by omega).weak (by omega)
  · simp only [Dx.dn, HMM.out, HD.out.2.2.2]
  · have := HD.out.2.2.1
    rw [hM] at this ⊢
    exact (((((this.setCell (Nat.le_succ M) _).setCell (Nat.le_succ M) _).setCell (Nat.le_succ M) _).setCell (Nat.le_succ M) _).setCell (Nat.le_succ M) _).setCell (Nat.le_succ M) _

end Go.Proofs.Ytmihddbnddgfhaa

/-
  The reference's tracker in memory (stage 13): New, Len, List.
-/
namespace Go.Proofs.Ytmihddbnddgfhaa
open Go.RowKit

def KB13 : Kind Bool := ⟨4, 1, fun x => [.bool x], fun _ => rfl, by decide, fun x u hu => by simp at hu; subst hu; rfl⟩
theorem kb13_at {w : World} {b off : Nat} {d : List Bool} (h : KB13.At w b off d) (i : Nat) (hi : i < d.length) : w.cell? ⟨b, off + i, none⟩ = some (.bool d[i]) := by
  have := h i hi 0 _ rfl
  simpa [KB13] using this
theorem Try.infoDx13 : (Try.prog.info? 35).map (fun i => (i.zero, i.size, i.bytes)) = some (some (.agg #[.int .u64 0, .int .u64 0, .bool false, .slice none 0 0, .slice none 0 0, .slice none 0 0]), 6, 96) := by kernel_rfl
theorem Try.infoBool13 : (Try.prog.info? 4).map (fun i => (i.zero, i.size, i.bytes)) = some (some (.bool false), 1, 1) := by kernel_rfl

theorem DOwn.frB {N : Nat} {w w' : World} {x : Dx} {P : Nat → Prop} (h : DOwn N w x) (f : Fr P w w') (hP : ∀ k, BlkD13 x k → ¬ P k) : DOwn N w' x :=
  ⟨⟨f.row (show w.ownsRow N KK.T KK.k x.m.ksl x.m.ks.length (KK.cells x.m.ks) from h.mrk.keys) fun k hk => hP k (Or.inl hk),
    f.row (show w.ownsRow N KRx.T KRx.k x.m.rsl x.m.rs.length (KRx.cells x.m.rs) from h.mrk.rows) fun k hk => hP k (Or.inr (Or.inl hk)),
    fun r hr => ⟨f.row (show w.ownsRow N KM.T KM.k r.sl r.tm.length (KM.cells r.tm) from (h.mrk.each r hr).1) fun k hk => hP k (Or.inr (Or.inr (Or.inl ⟨r, hr, hk⟩))), (h.mrk.each r hr).2⟩, h.mrk.apart⟩,
    f.row (show w.ownsRow N KCx.T KCx.k x.csl x.cs.length (KCx.cells x.cs) from h.row) fun k hk => hP k (Or.inr (Or.inr (Or.inr (Or.inl hk)))),
    fun c hc => (h.each c hc).fr f fun k hk => hP k (Or.inr (Or.inr (Or.inr (Or.inr ⟨c, hc, hk⟩)))), h.apart⟩
theorem DOwn.blk {N : Nat} {w : World} {x : Dx} (h : DOwn N w x) (k : Nat) (hk : BlkD13 x k) : N ≤ k ∧ k < w.heap.size := by
  rcases hk with hk | hk | ⟨r, hr, hk⟩ | hk | ⟨c, hc, hk⟩
  · exact World.ownsRow.lt (show w.ownsRow N KK.T KK.k x.m.ksl x.m.ks.length (KK.cells x.m.ks) from h.mrk.keys) k hk
  · exact World.ownsRow.lt (show w.ownsRow N KRx.T KRx.k x.m.rsl x.m.rs.length (KRx.cells x.m.rs) from h.mrk.rows) k hk
  · exact World.ownsRow.lt (show w.ownsRow N KM.T KM.k r.sl r.tm.length (KM.cells r.tm) from (h.mrk.each r hr).1) k hk
  · exact World.ownsRow.lt (show w.ownsRow N KCx.T KCx.k x.csl x.cs.length (KCx.cells x.cs) from h.row) k hk
  · exact (h.each c hc).blk k hk

/-- The document's tracker in block g. -/
structure RefT (n0 : Nat) (W : World) (g : Nat) (most : Nat) (ds : List Dx) (gn : List Bool) (sum : Int) (va vg : Value) : Prop where
  obj : W.heap[g]? = some (.cells #[.int .i64 (most : Nat), va, vg, .int .u64 sum] 44 (0, 0))
  low : n0 ≤ g
  all : KDx.Own n0 W va ds
  gone : KB13.Own n0 W vg gn
  each : ∀ d ∈ ds, DOwn n0 W d ∧ SzD d.m d.cs ∧ (0 ≤ d.snap ∧ d.snap ≤ 18446744073709551615) ∧ 0 ≤ d.stamp ∧ d.stamp ≤ 18446744073709551615
  len : gn.length = ds.length

def BlkT (g : Nat) (ds : List Dx) (va vg : Value) (k : Nat) : Prop := k = g ∨ va.ownBlock = some k ∨ vg.ownBlock = some k ∨ ∃ d ∈ ds, BlkD13 d k

section
variable {n0 : Nat} {W : World} {g : Nat} {most : Nat} {ds : List Dx} {gn : List Bool} {sum : Int} {va vg : Value}
theorem RefT.lt (h : RefT n0 W g most ds gn sum va vg) : g < W.heap.size := (Array.getElem?_eq_some_iff.1 h.obj).1
theorem RefT.blk (h : RefT n0 W g most ds gn sum va vg) (k : Nat) (hk : BlkT g ds va vg k) : n0 ≤ k ∧ k < W.heap.size := by
  rcases hk with rfl | hk | hk | ⟨x, hx, hk⟩
  · exact ⟨h.low, h.lt⟩
  · exact World.ownsRow.lt (show W.ownsRow n0 KDx.T KDx.k va ds.length (KDx.cells ds) from h.all) k hk
  · exact World.ownsRow.lt (show W.ownsRow n0 KB13.T KB13.k vg gn.length (KB13.cells gn) from h.gone) k hk
  · exact (h.each x hx).1.blk k hk
theorem RefT.fr {W' : World} {P : Nat → Prop} (h : RefT n0 W g most ds gn sum va vg) (f : Fr P W W') (hP : ∀ k, BlkT g ds va vg k → ¬ P k) : RefT n0 W' g most ds gn sum va vg :=
  ⟨(f.block g h.lt (hP g (Or.inl rfl))).trans h.obj, h.low, f.row (show W.ownsRow n0 KDx.T KDx.k va ds.length (KDx.cells ds) from h.all) fun k hk => hP k (Or.inr (Or.inl hk)), f.row (show W.ownsRow n0 KB13.T KB13.k vg gn.length (KB13.cells gn) from h.gone) fun k hk => hP k (Or.inr (Or.inr (Or.inl hk))), fun x hx => ⟨(h.each x hx).1.frB f fun k hk => hP k (Or.inr (Or.inr (Or.inr ⟨x, hx, hk⟩))), (h.each x hx).2⟩, h.len⟩
theorem RefT.on {W' : World} (h : RefT n0 W g most ds gn sum va vg) (hb : Below W.heap.size W W') : RefT n0 W' g most ds gn sum va vg :=
  h.fr (P := fun _ => False) (Fr.of_below hb) fun _ _ k => k
theorem RefT.shape (h : RefT n0 W g most ds gn sum va vg) : (∃ p c, va = .slice p ds.length c) ∧ ∃ p c, vg = .slice p gn.length c := ⟨Kind.own_shape h.all, Kind.own_shape h.gone⟩
theorem RefT.rd (h : RefT n0 W g most ds gn sum va vg) : ∀ d ∈ ds, DRd W d := fun d hd => ⟨(h.each d hd).1.inn.1, (h.each d hd).1.inn.2, (h.each d hd).2.1.len, by have := (h.each d hd).2.1.chg; omega⟩
end

set_option maxHeartbeats 4000000 in
set_option maxRecDepth 100000 in
theorem rnew13_any (n0 : Nat) (w : World) (hn : n0 ≤ w.heap.size) (most : Int) : Calls Try.prog 11 #[.int .i64 most] w fun e w' => e = .returned (.pointer (some ⟨w.heap.size, 0, none⟩)) ∧ RefT n0 w' w.heap.size (roomT most) [] [] 0 (.slice none 0 0) (.slice none 0 0) ∧ Below w.heap.size w w' := by
  have hfin : ∀ m : Int, m = (roomT most : Nat) → RefT n0 (w.alloc (.cells #[.int .i64 m, .slice none 0 0, .slice none 0 0, .int .u64 0] 44)) w.heap.size (roomT most) [] [] 0 (.slice none 0 0) (.slice none 0 0) := fun m hm =>
    ⟨by rw [hm]; exact heap_alloc_new w _, hn, Kind.own_nil _ _ _, Kind.own_nil _ _ _, (fun d hd => by cases hd), rfl⟩
  have hb : ∀ m : Int, Below w.heap.size w (w.alloc (.cells #[.int .i64 m, .slice none 0 0, .slice none 0 0, .int .u64 0] 44)) := fun m => (Below.refl _ _).alloc (Nat.le_refl _) _
  have HF := hid hfin
  have HB := hid hb
  clear hfin hb
  by_cases h0 : most < 0
  · have HE : Hid ((0 : Int) = (roomT most : Nat)) := by show _ = _; unfold roomT; omega
    go_enter Try.func11, Try.ntmps11
    go_wp2_with fail
    go_ret
    exact ⟨rfl, HF.out 0 HE.out, HB.out 0⟩
  · by_cases h6 : 64 < most
    · have HE : Hid ((64 : Int) = (roomT most : Nat)) := by show _ = _; unfold roomT; omega
      go_enter Try.func11, Try.ntmps11
      go_wp2_with fail
      go_ret
      exact ⟨rfl, HF.out 64 HE.out, HB.out 64⟩
    · have HE : Hid (most = (roomT most : Nat)) := by show _ = _; unfold roomT; omega
      go_enter Try.func11, Try.ntmps11
      go_wp2_with fail
      go_ret
      exact ⟨rfl, HF.out most HE.out, HB.out most⟩

set_option maxHeartbeats 4000000 in
set_option maxRecDepth 100000 in
theorem rlen13_any {n0 : Nat} {W : World} {g : Nat} {most : Nat} {ds : List Dx} {gn : List Bool} {sum : Int} {va vg : Value} (hR : RefT n0 W g most ds gn sum va vg) (hl : ds.length ≤ 9000000000000000000) :
    Calls Try.prog 14 #[.pointer (some ⟨g, 0, none⟩)] W fun e w' => e = .returned (.int .i64 ((keptG (ds.map Dx.dn) gn).length : Nat)) ∧ Below W.heap.size W w' := by
  obtain ⟨⟨pa, ca, rfl⟩, pg, cg, rfl⟩ := hR.shape
  have HR := hid hR
  have hgl : gn.length ≤ 9000000000000000000 := by rw [hR.len]; exact hl
  have HLN : Hid (gn.length = (ds.map Dx.dn).length) := by rw [List.length_map]; exact hR.len
  have z0 : W.cell? ⟨g, 2, none⟩ = some (.slice pg gn.length cg) := by rw [Lib.cell_of_heap hR.obj]; rfl
  clear hR
  go_enter Try.func14, Try.ntmps14
  go_wp2_with fail
  clear z0
  go_loopg [3, 4] gn.length (fun gg vn vi wr => ∃ i n : Nat, vn = .int .i64 n ∧ vi = .int .i64 i ∧ i ≤ gn.length ∧ gn.length - i ≤ gg ∧ n ≤ i ∧ Hid (n = (keptG ((ds.map Dx.dn).take i) (gn.take i)).length ∧ Below W.heap.size W wr))
  case atStart => exact ⟨0, 0, rfl, rfl, by omega, by omega, by omega, by simp [keptG], Below.refl _ _⟩
  case round =>
    obtain ⟨i, n, rfl, rfl, hi, hgk, hni, HS⟩ := hrel
    have hR := HR.out.on HS.out.2
    have z0 : wr.cell? ⟨g, 2, none⟩ = some (.slice pg gn.length cg) := by rw [Lib.cell_of_heap hR.obj]; rfl
    by_cases hlt : i < gn.length
    · have i1 : (0 : Int) ≤ ↑i := by omega
      have i2 : (↑i : Int) < ↑gn.length := by omega
      obtain ⟨g2, rfl, _, _, k2, _⟩ := Kind.own_form hR.gone (by omega)
      have z1 := kb13_at k2 i hlt
      rw [Nat.zero_add] at z1
      have hk := keptG_take HLN.out (i := i) (by have := HLN.out; omega)
      cases hb : gn[i] with
      | true =>
        rw [hb] at z1 hk
        have HK : Hid (n = (keptG ((ds.map Dx.dn).take (i + 1)) (gn.take (i + 1))).length) := by
          show _ = _
          rw [hk, HS.out.1]
          simp
        clear hk hb hR k2
        go_wp2_with fail
        go_roundg (gn.length - (i + 1))
        case measure => omega
        exact ⟨i + 1, n, rfl, by go_num, by omega, by omega, by omega, HK.out, HS.out.2⟩
      | false =>
        rw [hb] at z1 hk
        have HK : Hid (n + 1 = (keptG ((ds.map Dx.dn).take (i + 1)) (gn.take (i + 1))).length) := by
          show _ = _
          rw [hk, HS.out.1]
          simp
        clear hk hb hR k2
        go_wp2_with fail
        go_roundg (gn.length - (i + 1))
        case measure => omega
        exact ⟨i + 1, n + 1, by go_num, by go_num, by omega, by omega, by omega, HK.out, HS.out.2⟩
    · have hltz : ¬ (i : Int) < (gn.length : Int) := by omega
      have HK : Hid (n = (keptG (ds.map Dx.dn) gn).length) := by
        have := HS.out.1
        rw [List.take_of_length_le (by have := HLN.out; omega), List.take_of_length_le (by omega)] at this
        exact this
      clear hR
      go_wp2_with fail
      go_ret
      exact ⟨by rw [← HK.out]; rfl, HS.out.2⟩

end Go.Proofs.Ytmihddbnddgfhaa

/-
  Package marks (stage 12): ranges in rows of their own. No walk.
-/
namespace Go.Proofs.Ytmihddbnddgfhaa
open Go.RowKit

/-- The ranges L in rows of their own, from block N on; ahead of N all is as in W. -/
structure RgSt (N : Nat) (W : World) (v : Value) (L : List Rx) (w : World) : Prop where
  row : RowSt KRx N W v L w
  each : ∀ r ∈ L, KM.Own N w r.sl r.tm ∧ FitP r.tm
  apart : ApartR L

theorem ty_mr : KM.T ≠ KRx.T := by decide
section
variable {N : Nat} {W : World} {v : Value} {L : List Rx} {w : World}
theorem RgSt.nil (hb : Below N W w) (hN : N ≤ w.heap.size) : RgSt N W (.slice none 0 0) [] w := ⟨RowSt.nil KRx hb hN, (fun _ h => by cases h), List.Pairwise.nil⟩
theorem RgSt.on {w' : World} (h : RgSt N W v L w) (hb : Below w.heap.size w w') : RgSt N W v L w' := ⟨h.row.on hb, fun r hr => ⟨Kind.own_on (h.each r hr).1 hb, (h.each r hr).2⟩, h.apart⟩
theorem RgSt.at (h : RgSt N W v L w) : ∀ r ∈ L, r.at w := fun r hr => ⟨Kind.own_is (h.each r hr).1, (h.each r hr).2⟩

/-- What was made behind a world shares no block with what was there. -/
theorem RgSt.fresh {w' : World} {x : Rx} (h : RgSt N W v L w) (hx : KM.Own w.heap.size w' x.sl x.tm) : ∀ r ∈ L, ∀ k, r.sl.ownBlock = some k → ¬ x.sl.ownBlock = some k := fun r hr k h1 h2 => by
  have q1 := (World.ownsRow.lt (show w.ownsRow N KM.T KM.k r.sl r.tm.length (KM.cells r.tm) from (h.each r hr).1) k h1).2
  have q2 := (World.ownsRow.lt (show w'.ownsRow w.heap.size KM.T KM.k x.sl x.tm.length (KM.cells x.tm) from hx) k h2).1
  omega

/-- One more. -/
theorem RgSt.push {w' : World} {g c : Nat} {x : Rx} (h : RgSt N W v L w) (hx : KM.Own N w x.sl x.tm) (hf : FitP x.tm) (hfr : ∀ r ∈ L, ∀ k, r.sl.ownBlock = some k → ¬ x.sl.ownBlock = some k)
    (hst : RowSt KRx N W (.slice (some ⟨g, 0, none⟩) (L.length + 1) c) (L ++ [x]) w') (hg : w.grownBy w' v.ownBlock) : RgSt N W (.slice (some ⟨g, 0, none⟩) (L.length + 1) c) (L ++ [x]) w' := by
  refine ⟨hst, fun r hr => ?_, ?_⟩
  · have : KM.Own N w r.sl r.tm ∧ FitP r.tm := by
      rcases List.mem_append.1 hr with h1 | h1
      · exact h.each r h1
      · rw [List.mem_singleton.1 h1]
        exact ⟨hx, hf⟩
    exact ⟨own_else (show w.ownsRow N KM.T KM.k r.sl r.tm.length (KM.cells r.tm) from this.1) (show w.ownsRow N KRx.T KRx.k v L.length (KRx.cells L) from h.row.own) ty_mr hg, this.2⟩
  · rw [ApartR, List.pairwise_append]
    refine ⟨h.apart, List.pairwise_singleton _ _, fun r hr y hy => ?_⟩
    rw [List.mem_singleton.1 hy]
    exact hfr r hr
end

/-- What a function that answers ranges leaves. -/
def RgPost (W : World) (l : List Rg) (e : Ending) (w' : World) : Prop :=
  ∃ p c L, e = .returned (.slice p L.length c) ∧ RgSt W.heap.size W (.slice p L.length c) L w' ∧ L.map Rx.rg = l

/-- Marks of one's own, of keys and ranges. -/
theorem mown_of {N : Nat} {W : World} {kp : Option Addr} {kc : Nat} {ks : List Ky} {rp : Option Addr} {rc : Nat} {rs : List Rx} (hk : KK.Own N W (.slice kp ks.length kc) ks) (hr : KRx.Own N W (.slice rp rs.length rc) rs) (he : ∀ r ∈ rs, KM.Own N W r.sl r.tm ∧ FitP r.tm) (ha : ApartR rs) : MOwn N W ⟨kp, kc, ks, rp, rc, rs⟩ := ⟨hk, hr, he, ha⟩

theorem sortK_append (a b : List Ky) : sortK (a ++ b) = b.foldl (fun acc x => insR ltKy x acc) (sortK a) := by
  unfold sortK
  rw [List.foldl_append]
theorem sortK_snoc (a : List Ky) (k : Ky) : sortK (a ++ [k]) = insR ltKy k (sortK a) := by
  rw [sortK_append]
  rfl

end Go.Proofs.Ytmihddbnddgfhaa

/-
  Package track (stage 13): a list that is made of another, each element anew. No walk.
-/
namespace Go.Proofs.Ytmihddbnddgfhaa
open Go.RowKit Go.Lib

/-- What is so of an element in memory of its own, and its blocks. -/
structure MadeK (α : Type) where
  E : Nat → World → α → Prop
  Blk : α → Nat → Prop
  fr : ∀ {N : Nat} {w w' : World} {x : α} {P : Nat → Prop}, E N w x → Fr P w w' → (∀ k, Blk x k → ¬ P k) → E N w' x
  blk : ∀ {N : Nat} {w : World} {x : α}, E N w x → ∀ k, Blk x k → N ≤ k ∧ k < w.heap.size
  weak : ∀ {N M : Nat} {w : World} {x : α}, E N w x → M ≤ N → E M w x

theorem MadeK.on {α : Type} {Q : MadeK α} {N : Nat} {w w' : World} {x : α} (h : Q.E N w x) (hb : Below w.heap.size w w') : Q.E N w' x := Q.fr (P := fun _ => False) h (Fr.of_below hb) fun _ _ k => k

/-- Between two elements: those that were made. -/
structure EachSt {α : Type} (K : Kind α) (Q : MadeK α) (W : World) (L : List α) (p : Option Addr) (c : Nat) (w : World) : Prop where
  row : RowSt K W.heap.size W (.slice p L.length c) L w
  each : ∀ x ∈ L, Q.E W.heap.size w x ∧ ∀ b, Q.Blk x b → ¬ (Value.slice p L.length c).ownBlock = some b
  apart : L.Pairwise fun c d => ∀ k, Q.Blk c k → ¬ Q.Blk d k

section
variable {α : Type} {K : Kind α} {Q : MadeK α} {W : World} {L : List α} {p : Option Addr} {c : Nat} {w : World}
theorem EachSt.on {w' : World} (h : EachSt K Q W L p c w) (hb : Below w.heap.size w w') : EachSt K Q W L p c w' :=
  ⟨h.row.on hb, fun x hx => ⟨MadeK.on (h.each x hx).1 hb, (h.each x hx).2⟩, h.apart⟩
theorem EachSt.start (h : RowSt K W.heap.size W (.slice p 0 c) [] w) : EachSt K Q W [] p c w := ⟨h, (fun x hx => by cases hx), List.Pairwise.nil⟩

/-- What was made behind a world shares no block with what was there. -/
theorem EachSt.fresh {w' : World} {x : α} (h : EachSt K Q W L p c w) (hx : Q.E w.heap.size w' x) : ∀ b, Q.Blk x b → ¬ (Value.slice p L.length c).ownBlock = some b ∧ ∀ y ∈ L, ¬ Q.Blk y b := fun b hb => by
  have h1 := (Q.blk hx b hb).1
  refine ⟨fun h2 => ?_, fun y hy h2 => ?_⟩
  · have := (World.ownsRow.lt (show w.ownsRow W.heap.size K.T K.k (.slice p L.length c) L.length (K.cells L) from h.row.own) b h2).2
    omega
  · have := (Q.blk (h.each y hy).1 b h2).2
    omega

/-- One more. -/
theorem EachSt.push {w' : World} {g c' : Nat} {x : α} (h : EachSt K Q W L p c w) (hx : Q.E W.heap.size w x) (hxo : ∀ b, Q.Blk x b → ¬ (Value.slice p L.length c).ownBlock = some b ∧ ∀ y ∈ L, ¬ Q.Blk y b)
    (hst : RowSt K W.heap.size W (.slice (some ⟨g, 0, none⟩) (L.length + 1) c') (L ++ [x]) w') (hg : w.grownBy w' (Value.slice p L.length c).ownBlock) (hn : (Value.slice p L.length c).ownBlock = some g ∨ g = w.heap.size) : EachSt K Q W (L ++ [x]) (some ⟨g, 0, none⟩) c' w' := by
  have hlen : (L ++ [x]).length = L.length + 1 := by simp
  have hf : Fr (fun b => (Value.slice p L.length c).ownBlock = some b) w w' := Fr.of_grown hg fun k hk => hk
  have hall : ∀ y ∈ L ++ [x], Q.E W.heap.size w y ∧ ∀ b, Q.Blk y b → ¬ (Value.slice p L.length c).ownBlock = some b := fun y hy => by
    rcases List.mem_append.1 hy with h1 | h1
    · exact h.each y h1
    · rw [List.mem_singleton.1 h1]
      exact ⟨hx, fun b hb => (hxo b hb).1⟩
  refine ⟨by rw [hlen]; exact hst, fun y hy => ⟨Q.fr (hall y hy).1 hf (hall y hy).2, fun b hb hb2 => ?_⟩, ?_⟩
  · rw [hlen] at hb2
    have e : b = g := by
      unfold Value.ownBlock at hb2
      simp at hb2
      omega
    subst e
    rcases hn with hn | hn
    · exact (hall y hy).2 b hb hn
    · have := (Q.blk (hall y hy).1 b hb).2
      omega
  · rw [List.pairwise_append]
    refine ⟨h.apart, List.pairwise_singleton _ _, fun y hy z hz k h1 h2 => ?_⟩
    rw [List.mem_singleton] at hz
    subst hz
    exact (hxo k h2).2 y hy h1
end

/-- What a list that is made of another is. -/
def EachPost {α β : Type} (K : Kind α) (Q : MadeK α) (key : α → β) (W : World) (l : List β) (e : Ending) (w' : World) : Prop :=
  ∃ p c L, e = .returned (.slice p L.length c) ∧ EachSt K Q W L p c w' ∧ L.map key = l

/-- What a made element is. -/
def MadePost {α β : Type} (K : Kind α) (Q : MadeK α) (key : α → β) (W : World) (l : β) (e : Ending) (w' : World) : Prop :=
  ∃ y : α, e = .returned (.agg (K.enc y).toArray) ∧ Q.E W.heap.size w' y ∧ key y = l ∧ Below W.heap.size W w'

/-- 'make([]T, 0, n)'. -/
theorem make_row {P : Program} {α : Type} (K : Kind α) (W : World) (t : TypeId) (i : TypeInfo) (z : Value) (bytes : Nat) (ht : P.underlying t = some (.slice K.T)) (hi : P.info? K.T = some i) (hz : i.zero = some z) (hsize : i.size = K.k) (hby : i.bytes = bytes) (n : Nat)
    (hn : n ≤ maxLen) (hb : n * bytes ≤ 140737488355328) :
    ∃ W', (Instr.makeSlice t (.int .i64 0) (.int .i64 (n : Int))).run P W = .ok (.slice (some ⟨W.heap.size, 0, none⟩) 0 n) W' ∧ RowSt K W.heap.size W (.slice (some ⟨W.heap.size, 0, none⟩) 0 n) [] W' := by
  obtain ⟨W', h1, h2, h3⟩ := run_make_own (P := P) W W.heap.size t K.T i z K.k ht hi hz hsize .i64 .i64 n (by rw [hby, Nat.mul_comm]; omega) hn (Nat.le_refl _)
  refine ⟨W', h1, h2, ?_, h3.size⟩
  exact (Fr.of_grown (P := fun _ => False) h3 fun k hk => by cases hk).below (Nat.le_refl _) fun k hk => hk.elim

end Go.Proofs.Ytmihddbnddgfhaa

/-
  Package track (stage 13): each, at fields, ranges, changes and done ones.
-/
namespace Go.Proofs.Ytmihddbnddgfhaa
open Go.RowKit

/-- Fields as a kind of elements. -/
def KX13 : Kind Fx := ⟨90, 2, encX, fun _ => rfl, by decide, fun x u hu => by simp [encX, Fx.sl] at hu; rcases hu with rfl | rfl <;> rfl⟩
theorem kx13_at {w : World} {b off : Nat} {d : List Fx} (h : KX13.At w b off d) (i : Nat) (hi : i < d.length) : w.cell? ⟨b, off + i * 2, none⟩ = some (.string (d[i]).name) ∧ w.cell? ⟨b, off + i * 2 + 1, none⟩ = some (d[i]).sl :=
  ⟨h i hi 0 _ rfl, h i hi 1 _ rfl⟩
theorem infoRx13 : (Try.prog.info? 85).map (fun i => (i.zero, i.size, i.bytes)) = some (some (.agg #[.string ⟨#[]⟩, .slice none 0 0]), 2, 40) := by kernel_rfl

set_option maxHeartbeats 4000000 in
set_option maxRecDepth 100000 in
theorem eachF_any {β : Type} (Q : MadeK Fx) (key : Fx → β) (k : Nat) (eg : ∀ args w, (callFunc k args).run Try.prog w = .ok (.enter k args) w) (v : Value) (l : List Fx) (w : World) (hv : KX13.Is w v l) (hl : l.length * 40 ≤ 140737488355328)
    (hk : ∀ (W : World) (x : Fx), Below w.heap.size w W → x ∈ l → Calls Try.prog k #[.agg (encX x).toArray] W fun e w' => MadePost KX13 Q key W (key x) e w') :
    Calls Try.prog 61 #[v, .func (.func k) #[] #[]] w fun e w' => EachPost KX13 Q key w (l.map key) e w' := by
  obtain ⟨i0, hi0, hz0, hz1, hz2⟩ := info_parts Try.infoFld
  have hl2 : l.length ≤ maxLen := by unfold maxLen; omega
  obtain ⟨W0, hmk, hst0⟩ := make_row (P := Try.prog) KX13 w 68 i0 _ 40 Try.underlying68 hi0 hz0 hz1 hz2 l.length hl2 hl
  have HI0 := hid hi0
  obtain ⟨p, cap, rfl, hd⟩ := hv
  have HD := hid hd
  have HK := hid hk
  have HST0 := hid hst0
  obtain ⟨M, hM⟩ : ∃ M, w.heap.size = M := ⟨_, rfl⟩
  rw [hM] at hmk
  have HM := hid hM
  clear hd hi0 hk hst0 hM hl2
  go_enter Try.func61, Try.ntmps61
  go_wp2_with fail
  clear hmk
  go_loopg [5, 13] l.length (fun gg v5 vi wr => ∃ (i : Nat) (L : List Fx) (p' : Option Addr) (c' : Nat), v5 = .slice p' L.length c' ∧ vi = .int .i64 i ∧ i ≤ l.length ∧ l.length - i ≤ gg ∧ L.length ≤ i ∧ Hid (EachSt KX13 Q w L p' c' wr ∧ L.map key = (l.take i).map key))
  case atStart => exact ⟨0, [], _, _, rfl, rfl, by omega, by omega, by simp, EachSt.start (by rw [← HM.out]; exact HST0.out), by simp⟩
  case round =>
    obtain ⟨i, L, p', c', rfl, rfl, hi, hgk, hLi, HS⟩ := hrel
    by_cases hlt : i < l.length
    · have hltz : (i : Int) < (l.length : Int) := by omega
      have hiz : (0 : Int) ≤ i := by omega
      obtain ⟨b1, o1, rfl, k1⟩ : ∃ b off, p = some ⟨b, off, none⟩ ∧ KX13.At w b off l := by
        rcases HD.out with h | h
        · rw [h] at hlt; simp at hlt
        · exact h
      have hbw : Below w.heap.size w wr := HS.out.1.row.bel
      obtain ⟨c0, c1⟩ := kx13_at (Kind.at_kept k1 hbw) i hlt
      have HTK : Hid ((l.take (i + 1)).map key = (l.take i).map key ++ [key l[i]]) := by
        show _ = _
        rw [List.take_succ_eq_append_getElem hlt, List.map_append]
        rfl
      have HC : Hid (∀ W, Below w.heap.size w W → Calls Try.prog k #[.agg (encX l[i]).toArray] W fun e w' => MadePost KX13 Q key W (key l[i]) e w') := fun W hW => HK.out W _ hW (List.getElem_mem hlt)
      generalize l[i] = x at *
      obtain ⟨V, hV⟩ : ∃ V, wr.alloc (.cells (encX x).toArray 90) = V := ⟨_, rfl⟩
      have hbV : Below wr.heap.size wr V := by rw [← hV]; exact (Below.refl _ _).alloc (Nat.le_refl _) _
      have HO := hid (HC.out V (bel_then hbw hbw.size hbV))
      have HSV := hid (HS.out.1.on hbV)
      have HN : Hid (w.heap.size ≤ V.heap.size) := by show _ ≤ _; have := hbw.size; have := hbV.size; omega
      have HE := hid HS.out.2
      obtain ⟨G, hG⟩ : ∃ G, wr.heap.size = G := ⟨_, rfl⟩
      have hn1 : V.heap[G]? = some (.cells (encX x).toArray 90 (0, 0)) := by rw [← hV, ← hG]; exact heap_alloc_new wr _
      have HKX : Hid (∀ y, key y = key x → (L ++ [y]).map key = (l.take (i + 1)).map key) := fun y hy => by
        rw [HTK.out, List.map_append, HE.out, ← hy]
        rfl
      generalize key x = kx at *
      obtain ⟨xn, xp, xc, xm⟩ := x
      simp only [encX, Fx.sl] at *
      have d0 := by have h := hn1; exact (Lib.cell_of_heap h 0).trans rfl
      have d1 := by have h := hn1; exact (Lib.cell_of_heap h 1).trans rfl
      clear k1 hbw hbV HS hn1 HC HTK HE HK
      go_upto_region 5 with fail
      try rw [hG]
      try rw [hV]
      clear hV c0 c1
      go_wp2_with (first
        | (go_at_fn k; refine HO.out.mono ?_; rintro e w1 ⟨y, rfl, hy, hky, hb1⟩; have HS1 := hid (HSV.out.on hb1); have HY := hid (Q.weak hy HN.out); have HFR := hid (HSV.out.fresh hy); have HKY := hid (HKX.out y hky); clear hy hky hb1 HO HSV HKX; obtain ⟨yn, yp, yc, ym⟩ := y; simp only [KX13, encX, Fx.sl] at *)
        | (at_builtin; refine wpList_push KX13 rfl _ _ 68 rfl i0 _ 40 Try.underlying68 HI0.out hz0 hz1 hz2 rfl w.heap.size w _ L rfl (HS1.out.row.on ((Below.refl _ _).alloc (Nat.le_refl _) _)) ⟨yn, yp, yc, ym⟩ _ _ _ rfl rfl _ _ (heap_alloc_new _ _) (by unfold maxLen; omega) (by omega) ?_; intro g8 c8 w8 hst8 hg8 hn8; have HS8 := hid ((HS1.out.on ((Below.refl _ _).alloc (Nat.le_refl _) _)).push (MadeK.on HY.out ((Below.refl _ _).alloc (Nat.le_refl _) _)) HFR.out hst8 hg8 hn8); clear hst8 hg8 hn8))
      clear d0 d1
      go_roundg (l.length - (i + 1))
      case measure => omega
      exact ⟨i + 1, L ++ [⟨yn, yp, yc, ym⟩], some ⟨g8, 0, none⟩, c8, by rw [List.length_append]; rfl, by go_num, by omega, by omega, by rw [List.length_append, List.length_singleton]; omega, HS8.out, HKY.out⟩
    · have hltz : ¬ (i : Int) < (l.length : Int) := by omega
      have hti : l.take i = l := List.take_of_length_le (by omega)
      rw [hti] at HS
      go_wp2_with fail
      go_ret
      exact ⟨p', c', L, rfl, HS.out.1, HS.out.2⟩

set_option maxHeartbeats 4000000 in
set_option maxRecDepth 100000 in
theorem eachR_any {β : Type} (Q : MadeK Rx) (key : Rx → β) (k : Nat) (eg : ∀ args w, (callFunc k args).run Try.prog w = .ok (.enter k args) w) (v : Value) (l : List Rx) (w : World) (hv : KRx.Is w v l) (hl : l.length * 40 ≤ 140737488355328)
    (hk : ∀ (W : World) (x : Rx), Below w.heap.size w W → x ∈ l → Calls Try.prog k #[.agg (encRx x).toArray] W fun e w' => MadePost KRx Q key W (key x) e w') :
    Calls Try.prog 47 #[v, .func (.func k) #[] #[]] w fun e w' => EachPost KRx Q key w (l.map key) e w' := by
  obtain ⟨i0, hi0, hz0, hz1, hz2⟩ := info_parts infoRx13
  have hl2 : l.length ≤ maxLen := by unfold maxLen; omega
  obtain ⟨W0, hmk, hst0⟩ := make_row (P := Try.prog) KRx w 30 i0 _ 40 Try.underlying30 hi0 hz0 hz1 hz2 l.length hl2 hl
  have HI0 := hid hi0
  obtain ⟨p, cap, rfl, hd⟩ := hv
  have HD := hid hd
  have HK := hid hk
  have HST0 := hid hst0
  obtain ⟨M, hM⟩ : ∃ M, w.heap.size = M := ⟨_, rfl⟩
  rw [hM] at hmk
  have HM := hid hM
  clear hd hi0 hk hst0 hM hl2
  go_enter Try.func47, Try.ntmps47
  go_wp2_with fail
  clear hmk
  go_loopg [5, 13] l.length (fun gg v5 vi wr => ∃ (i : Nat) (L : List Rx) (p' : Option Addr) (c' : Nat), v5 = .slice p' L.length c' ∧ vi = .int .i64 i ∧ i ≤ l.length ∧ l.length - i ≤ gg ∧ L.length ≤ i ∧ Hid (EachSt KRx Q w L p' c' wr ∧ L.map key = (l.take i).map key))
  case atStart => exact ⟨0, [], _, _, rfl, rfl, by omega, by omega, by simp, EachSt.start (by rw [← HM.out]; exact HST0.out), by simp⟩
  case round =>
    obtain ⟨i, L, p', c', rfl, rfl, hi, hgk, hLi, HS⟩ := hrel
    by_cases hlt : i < l.length
    · have hltz : (i : Int) < (l.length : Int) := by omega
      have hiz : (0 : Int) ≤ i := by omega
      obtain ⟨b1, o1, rfl, k1⟩ : ∃ b off, p = some ⟨b, off, none⟩ ∧ KRx.At w b off l := by
        rcases HD.out with h | h
        · rw [h] at hlt; simp at hlt
        · exact h
      have hbw : Below w.heap.size w wr := HS.out.1.row.bel
      obtain ⟨c0, c1⟩ := krx_at (Kind.at_kept k1 hbw) i hlt
      have HTK : Hid ((l.take (i + 1)).map key = (l.take i).map key ++ [key l[i]]) := by
        show _ = _
        rw [List.take_succ_eq_append_getElem hlt, List.map_append]
        rfl
      have HC : Hid (∀ W, Below w.heap.size w W → Calls Try.prog k #[.agg (encRx l[i]).toArray] W fun e w' => MadePost KRx Q key W (key l[i]) e w') := fun W hW => HK.out W _ hW (List.getElem_mem hlt)
      generalize l[i] = x at *
      obtain ⟨V, hV⟩ : ∃ V, wr.alloc (.cells (encRx x).toArray 85) = V := ⟨_, rfl⟩
      have hbV : Below wr.heap.size wr V := by rw [← hV]; exact (Below.refl _ _).alloc (Nat.le_refl _) _
      have HO := hid (HC.out V (bel_then hbw hbw.size hbV))
      have HSV := hid (HS.out.1.on hbV)
      have HN : Hid (w.heap.size ≤ V.heap.size) := by show _ ≤ _; have := hbw.size; have := hbV.size; omega
      have HE := hid HS.out.2
      obtain ⟨G, hG⟩ : ∃ G, wr.heap.size = G := ⟨_, rfl⟩
      have hn1 : V.heap[G]? = some (.cells (encRx x).toArray 85 (0, 0)) := by rw [← hV, ← hG]; exact heap_alloc_new wr _
      have HKX : Hid (∀ y, key y = key x → (L ++ [y]).map key = (l.take (i + 1)).map key) := fun y hy => by
        rw [HTK.out, List.map_append, HE.out, ← hy]
        rfl
      generalize key x = kx at *
      obtain ⟨xn, xp, xc, xm⟩ := x
      simp only [encRx, Rx.sl] at *
      have d0 := by have h := hn1; exact (Lib.cell_of_heap h 0).trans rfl
      have d1 := by have h := hn1; exact (Lib.cell_of_heap h 1).trans rfl
      clear k1 hbw hbV HS hn1 HC HTK HE HK
      go_upto_region 5 with fail
      try rw [hG]
      try rw [hV]
      clear hV c0 c1
      go_wp2_with (first
        | (go_at_fn k; refine HO.out.mono ?_; rintro e w1 ⟨y, rfl, hy, hky, hb1⟩; have HS1 := hid (HSV.out.on hb1); have HY := hid (Q.weak hy HN.out); have HFR := hid (HSV.out.fresh hy); have HKY := hid (HKX.out y hky); clear hy hky hb1 HO HSV HKX; obtain ⟨yn, yp, yc, ym⟩ := y; simp only [KRx, encRx, Rx.sl] at *)
        | (at_builtin; refine wpList_push KRx rfl _ _ 30 rfl i0 _ 40 Try.underlying30 HI0.out hz0 hz1 hz2 rfl w.heap.size w _ L rfl (HS1.out.row.on ((Below.refl _ _).alloc (Nat.le_refl _) _)) ⟨yn, yp, yc, ym⟩ _ _ _ rfl rfl _ _ (heap_alloc_new _ _) (by unfold maxLen; omega) (by omega) ?_; intro g8 c8 w8 hst8 hg8 hn8; have HS8 := hid ((HS1.out.on ((Below.refl _ _).alloc (Nat.le_refl _) _)).push (MadeK.on HY.out ((Below.refl _ _).alloc (Nat.le_refl _) _)) HFR.out hst8 hg8 hn8); clear hst8 hg8 hn8))
      clear d0 d1
      go_roundg (l.length - (i + 1))
      case measure => omega
      exact ⟨i + 1, L ++ [⟨yn, yp, yc, ym⟩], some ⟨g8, 0, none⟩, c8, by rw [List.length_append]; rfl, by go_num, by omega, by omega, by rw [List.length_append, List.length_singleton]; omega, HS8.out, HKY.out⟩
    · have hltz : ¬ (i : Int) < (l.length : Int) := by omega
      have hti : l.take i = l := List.take_of_length_le (by omega)
      rw [hti] at HS
      go_wp2_with fail
      go_ret
      exact ⟨p', c', L, rfl, HS.out.1, HS.out.2⟩

set_option maxHeartbeats 4000000 in
set_option maxRecDepth 100000 in
theorem eachC_any {β : Type} (Q : MadeK Cx) (key : Cx → β) (k : Nat) (eg : ∀ args w, (callFunc k args).run Try.prog w = .ok (.enter k args) w) (v : Value) (l : List Cx) (w : World) (hv : KCx.Is w v l) (hl : l.length * 96 ≤ 140737488355328)
    (hk : ∀ (W : World) (x : Cx), Below w.heap.size w W → x ∈ l → Calls Try.prog k #[.agg (encCx x).toArray] W fun e w' => MadePost KCx Q key W (key x) e w') :
    Calls Try.prog 49 #[v, .func (.func k) #[] #[]] w fun e w' => EachPost KCx Q key w (l.map key) e w' := by
  obtain ⟨i0, hi0, hz0, hz1, hz2⟩ := info_parts Try.infoCx13
  have hl2 : l.length ≤ maxLen := by unfold maxLen; omega
  obtain ⟨W0, hmk, hst0⟩ := make_row (P := Try.prog) KCx w 33 i0 _ 96 Try.underlying33 hi0 hz0 hz1 hz2 l.length hl2 hl
  have HI0 := hid hi0
  obtain ⟨p, cap, rfl, hd⟩ := hv
  have HD := hid hd
  have HK := hid hk
  have HST0 := hid hst0
  obtain ⟨M, hM⟩ : ∃ M, w.heap.size = M := ⟨_, rfl⟩
  rw [hM] at hmk
  have HM := hid hM
  clear hd hi0 hk hst0 hM hl2
  go_enter Try.func49, Try.ntmps49
  go_wp2_with fail
  clear hmk
  go_loopg [5, 13] l.length (fun gg v5 vi wr => ∃ (i : Nat) (L : List Cx) (p' : Option Addr) (c' : Nat), v5 = .slice p' L.length c' ∧ vi = .int .i64 i ∧ i ≤ l.length ∧ l.length - i ≤ gg ∧ L.length ≤ i ∧ Hid (EachSt KCx Q w L p' c' wr ∧ L.map key = (l.take i).map key))
  case atStart => exact ⟨0, [], _, _, rfl, rfl, by omega, by omega, by simp, EachSt.start (by rw [← HM.out]; exact HST0.out), by simp⟩
  case round =>
    obtain ⟨i, L, p', c', rfl, rfl, hi, hgk, hLi, HS⟩ := hrel
    by_cases hlt : i < l.length
    · have hltz : (i : Int) < (l.length : Int) := by omega
      have hiz : (0 : Int) ≤ i := by omega
      obtain ⟨b1, o1, rfl, k1⟩ : ∃ b off, p = some ⟨b, off, none⟩ ∧ KCx.At w b off l := by
        rcases HD.out with h | h
        · rw [h] at hlt; simp at hlt
        · exact h
      have hbw : Below w.heap.size w wr := HS.out.1.row.bel
      obtain ⟨c0, c1, c2, c3, c4, c5⟩ := kcx_at (Kind.at_kept k1 hbw) i hlt
      have HTK : Hid ((l.take (i + 1)).map key = (l.take i).map key ++ [key l[i]]) := by
        show _ = _
        rw [List.take_succ_eq_append_getElem hlt, List.map_append]
        rfl
      have HC : Hid (∀ W, Below w.heap.size w W → Calls Try.prog k #[.agg (encCx l[i]).toArray] W fun e w' => MadePost KCx Q key W (key l[i]) e w') := fun W hW => HK.out W _ hW (List.getElem_mem hlt)
      generalize l[i] = x at *
      obtain ⟨V, hV⟩ : ∃ V, wr.alloc (.cells (encCx x).toArray 70) = V := ⟨_, rfl⟩
      have hbV : Below wr.heap.size wr V := by rw [← hV]; exact (Below.refl _ _).alloc (Nat.le_refl _) _
      have HO := hid (HC.out V (bel_then hbw hbw.size hbV))
      have HSV := hid (HS.out.1.on hbV)
      have HN : Hid (w.heap.size ≤ V.heap.size) := by show _ ≤ _; have := hbw.size; have := hbV.size; omega
      have HE := hid HS.out.2
      obtain ⟨G, hG⟩ : ∃ G, wr.heap.size = G := ⟨_, rfl⟩
      have hn1 : V.heap[G]? = some (.cells (encCx x).toArray 70 (0, 0)) := by rw [← hV, ← hG]; exact heap_alloc_new wr _
      have HKX : Hid (∀ y, key y = key x → (L ++ [y]).map key = (l.take (i + 1)).map key) := fun y hy => by
        rw [HTK.out, List.map_append, HE.out, ← hy]
        rfl
      generalize key x = kx at *
      obtain ⟨xa, xb, xwl, xwp, xwc, xwo, xil, xip, xic, xio⟩ := x
      simp only [encCx] at *
      have d0 := by have h := hn1; exact (Lib.cell_of_heap h 0).trans rfl
      have d1 := by have h := hn1; exact (Lib.cell_of_heap h 1).trans rfl
      have d2 := by have h := hn1; exact (Lib.cell_of_heap h 2).trans rfl
      have d3 := by have h := hn1; exact (Lib.cell_of_heap h 3).trans rfl
      have d4 := by have h := hn1; exact (Lib.cell_of_heap h 4).trans rfl
      have d5 := by have h := hn1; exact (Lib.cell_of_heap h 5).trans rfl
      clear k1 hbw hbV HS hn1 HC HTK HE HK
      go_upto_region 5 with fail
      try rw [hG]
      try rw [hV]
      clear hV c0 c1 c2 c3 c4 c5
      go_wp2_with (first
        | (go_at_fn k; refine HO.out.mono ?_; rintro e w1 ⟨y, rfl, hy, hky, hb1⟩; have HS1 := hid (HSV.out.on hb1); have HY := hid (Q.weak hy HN.out); have HFR := hid (HSV.out.fresh hy); have HKY := hid (HKX.out y hky); clear hy hky hb1 HO HSV HKX; obtain ⟨ya, yb, ywl, ywp, ywc, ywo, yil, yip, yic, yio⟩ := y; simp only [KCx, encCx] at *)
        | (at_builtin; refine wpList_push KCx rfl _ _ 33 rfl i0 _ 96 Try.underlying33 HI0.out hz0 hz1 hz2 rfl w.heap.size w _ L rfl (HS1.out.row.on ((Below.refl _ _).alloc (Nat.le_refl _) _)) ⟨ya, yb, ywl, ywp, ywc, ywo, yil, yip, yic, yio⟩ _ _ _ rfl rfl _ _ (heap_alloc_new _ _) (by unfold maxLen; omega) (by omega) ?_; intro g8 c8 w8 hst8 hg8 hn8; have HS8 := hid ((HS1.out.on ((Below.refl _ _).alloc (Nat.le_refl _) _)).push (MadeK.on HY.out ((Below.refl _ _).alloc (Nat.le_refl _) _)) HFR.out hst8 hg8 hn8); clear hst8 hg8 hn8))
      clear d0 d1 d2 d3 d4 d5
      go_roundg (l.length - (i + 1))
      case measure => omega
      exact ⟨i + 1, L ++ [⟨ya, yb, ywl, ywp, ywc, ywo, yil, yip, yic, yio⟩], some ⟨g8, 0, none⟩, c8, by rw [List.length_append]; rfl, by go_num, by omega, by omega, by rw [List.length_append, List.length_singleton]; omega, HS8.out, HKY.out⟩
    · have hltz : ¬ (i : Int) < (l.length : Int) := by omega
      have hti : l.take i = l := List.take_of_length_le (by omega)
      rw [hti] at HS
      go_wp2_with fail
      go_ret
      exact ⟨p', c', L, rfl, HS.out.1, HS.out.2⟩

set_option maxHeartbeats 4000000 in
set_option maxRecDepth 100000 in
theorem eachD_any {β : Type} (Q : MadeK Dx) (key : Dx → β) (k : Nat) (eg : ∀ args w, (callFunc k args).run Try.prog w = .ok (.enter k args) w) (v : Value) (l : List Dx) (w : World) (hv : KDx.Is w v l) (hl : l.length * 96 ≤ 140737488355328)
    (hk : ∀ (W : World) (x : Dx), Below w.heap.size w W → x ∈ l → Calls Try.prog k #[.agg (encDx x).toArray] W fun e w' => MadePost KDx Q key W (key x) e w') :
    Calls Try.prog 32 #[v, .func (.func k) #[] #[]] w fun e w' => EachPost KDx Q key w (l.map key) e w' := by
  obtain ⟨i0, hi0, hz0, hz1, hz2⟩ := info_parts Try.infoDx13
  have hl2 : l.length ≤ maxLen := by unfold maxLen; omega
  obtain ⟨W0, hmk, hst0⟩ := make_row (P := Try.prog) KDx w 41 i0 _ 96 Try.underlying41 hi0 hz0 hz1 hz2 l.length hl2 hl
  have HI0 := hid hi0
  obtain ⟨p, cap, rfl, hd⟩ := hv
  have HD := hid hd
  have HK := hid hk
  have HST0 := hid hst0
  obtain ⟨M, hM⟩ : ∃ M, w.heap.size = M := ⟨_, rfl⟩
  rw [hM] at hmk
  have HM := hid hM
  clear hd hi0 hk hst0 hM hl2
  go_enter Try.func32, Try.ntmps32
  go_wp2_with fail
  clear hmk
  go_loopg [5, 13] l.length (fun gg v5 vi wr => ∃ (i : Nat) (L : List Dx) (p' : Option Addr) (c' : Nat), v5 = .slice p' L.length c' ∧ vi = .int .i64 i ∧ i ≤ l.length ∧ l.length - i ≤ gg ∧ L.length ≤ i ∧ Hid (EachSt KDx Q w L p' c' wr ∧ L.map key = (l.take i).map key))
  case atStart => exact ⟨0, [], _, _, rfl, rfl, by omega, by omega, by simp, EachSt.start (by rw [← HM.out]; exact HST0.out), by simp⟩
  case round =>
    obtain ⟨i, L, p', c', rfl, rfl, hi, hgk, hLi, HS⟩ := hrel
    by_cases hlt : i < l.length
    · have hltz : (i : Int) < (l.length : Int) := by omega
      have hiz : (0 : Int) ≤ i := by omega
      obtain ⟨b1, o1, rfl, k1⟩ : ∃ b off, p = some ⟨b, off, none⟩ ∧ KDx.At w b off l := by
        rcases HD.out with h | h
        · rw [h] at hlt; simp at hlt
        · exact h
      have hbw : Below w.heap.size w wr := HS.out.1.row.bel
      obtain ⟨c0, c1, c2, c3, c4, c5⟩ := kdx_at (Kind.at_kept k1 hbw) i hlt
      have HTK : Hid ((l.take (i + 1)).map key = (l.take i).map key ++ [key l[i]]) := by
        show _ = _
        rw [List.take_succ_eq_append_getElem hlt, List.map_append]
        rfl
      have HC : Hid (∀ W, Below w.heap.size w W → Calls Try.prog k #[.agg (encDx l[i]).toArray] W fun e w' => MadePost KDx Q key W (key l[i]) e w') := fun W hW => HK.out W _ hW (List.getElem_mem hlt)
      generalize l[i] = x at *
      obtain ⟨V, hV⟩ : ∃ V, wr.alloc (.cells (encDx x).toArray 35) = V := ⟨_, rfl⟩
      have hbV : Below wr.heap.size wr V := by rw [← hV]; exact (Below.refl _ _).alloc (Nat.le_refl _) _
      have HO := hid (HC.out V (bel_then hbw hbw.size hbV))
      have HSV := hid (HS.out.1.on hbV)
      have HN : Hid (w.heap.size ≤ V.heap.size) := by show _ ≤ _; have := hbw.size; have := hbV.size; omega
      have HE := hid HS.out.2
      obtain ⟨G, hG⟩ : ∃ G, wr.heap.size = G := ⟨_, rfl⟩
      have hn1 : V.heap[G]? = some (.cells (encDx x).toArray 35 (0, 0)) := by rw [← hV, ← hG]; exact heap_alloc_new wr _
      have HKX : Hid (∀ y, key y = key x → (L ++ [y]).map key = (l.take (i + 1)).map key) := fun y hy => by
        rw [HTK.out, List.map_append, HE.out, ← hy]
        rfl
      generalize key x = kx at *
      obtain ⟨xs, xt, xo, ⟨xkp, xkc, xks, xrp, xrc, xrs⟩, xcp, xcc, xcs⟩ := x
      simp only [encDx, Mx.ksl, Mx.rsl, Dx.csl] at *
      have d0 := by have h := hn1; exact (Lib.cell_of_heap h 0).trans rfl
      have d1 := by have h := hn1; exact (Lib.cell_of_heap h 1).trans rfl
      have d2 := by have h := hn1; exact (Lib.cell_of_heap h 2).trans rfl
      have d3 := by have h := hn1; exact (Lib.cell_of_heap h 3).trans rfl
      have d4 := by have h := hn1; exact (Lib.cell_of_heap h 4).trans rfl
      have d5 := by have h := hn1; exact (Lib.cell_of_heap h 5).trans rfl
      clear k1 hbw hbV HS hn1 HC HTK HE HK
      go_upto_region 5 with fail
      try rw [hG]
      try rw [hV]
      clear hV c0 c1 c2 c3 c4 c5
      go_wp2_with (first
        | (go_at_fn k; refine HO.out.mono ?_; rintro e w1 ⟨y, rfl, hy, hky, hb1⟩; have HS1 := hid (HSV.out.on hb1); have HY := hid (Q.weak hy HN.out); have HFR := hid (HSV.out.fresh hy); have HKY := hid (HKX.out y hky); clear hy hky hb1 HO HSV HKX; obtain ⟨ys, yt, yo, ⟨ykp, ykc, yks, yrp, yrc, yrs⟩, ycp, ycc, ycs⟩ := y; simp only [KDx, encDx, Mx.ksl, Mx.rsl, Dx.csl] at *)
        | (at_builtin; refine wpList_push KDx rfl _ _ 41 rfl i0 _ 96 Try.underlying41 HI0.out hz0 hz1 hz2 rfl w.heap.size w _ L rfl (HS1.out.row.on ((Below.refl _ _).alloc (Nat.le_refl _) _)) ⟨ys, yt, yo, ⟨ykp, ykc, yks, yrp, yrc, yrs⟩, ycp, ycc, ycs⟩ _ _ _ rfl rfl _ _ (heap_alloc_new _ _) (by unfold maxLen; omega) (by omega) ?_; intro g8 c8 w8 hst8 hg8 hn8; have HS8 := hid ((HS1.out.on ((Below.refl _ _).alloc (Nat.le_refl _) _)).push (MadeK.on HY.out ((Below.refl _ _).alloc (Nat.le_refl _) _)) HFR.out hst8 hg8 hn8); clear hst8 hg8 hn8))
      clear d0 d1 d2 d3 d4 d5
      go_roundg (l.length - (i + 1))
      case measure => omega
      exact ⟨i + 1, L ++ [⟨ys, yt, yo, ⟨ykp, ykc, yks, yrp, yrc, yrs⟩, ycp, ycc, ycs⟩], some ⟨g8, 0, none⟩, c8, by rw [List.length_append]; rfl, by go_num, by omega, by omega, by rw [List.length_append, List.length_singleton]; omega, HS8.out, HKY.out⟩
    · have hltz : ¬ (i : Int) < (l.length : Int) := by omega
      have hti : l.take i = l := List.take_of_length_le (by omega)
      rw [hti] at HS
      go_wp2_with fail
      go_ret
      exact ⟨p', c', L, rfl, HS.out.1, HS.out.2⟩

end Go.Proofs.Ytmihddbnddgfhaa

/-
  The contracts of cmp.Or at three, of compare, and of slices.SortFunc over it.
-/
namespace Go.Proofs.Ytmihddbnddgfhaa
open Go.RowKit Go.Sort Go.Lib

end Go.Proofs.Ytmihddbnddgfhaa

/-
  The contract of slices.Compact at terms.
-/
namespace Go.Proofs.Ytmihddbnddgfhaa
open Go.RowKit Go.Sort Go.Lib

theorem eql_term (a b : Tm) (w : World) : (binOp .eql 87 (.agg #[.string a.1, .int .i64 a.2.1, .string a.2.2]) (.agg #[.string b.1, .int .i64 b.2.1, .string b.2.2])).run Try.prog w = .ok (.bool (decide (a = b))) w := by
  obtain ⟨a1, a2, a3⟩ := a
  obtain ⟨b1, b2, b3⟩ := b
  have hS : Try.prog.underlying 87 = some (.struct (Try.prog.fieldsOf 87)) := by kernel_rfl
  have hp : Try.prog.stoodInHeld 87 = false := by kernel_rfl
  have u9 := Try.underlying9
  have a9 := Try.isAgg9
  have z9 := Try.sizeOf9
  have u3 := Try.underlying3
  have a3' := Try.isAgg3
  have z3 := Try.sizeOf3
  rw [run_eql_struct, show (10000 : Nat) = 9999 + 1 from rfl, run_equalIn_agg w 9999 87 _ _ hS hp]
  simp only [Program.fieldsOf, Try.underlying87]
  go_simp
  by_cases h1 : a1 = b1
  · subst h1
    by_cases h2 : a2 = b2
    · subst h2
      by_cases h3 : a3 = b3
      · subst h3; simp
      · have e3 := beq_eq_false_iff_ne.1 (seq_false h3)
        simp [h3, e3]
    · simp [h2]
  · have e1 := beq_eq_false_iff_ne.1 (seq_false h1)
    simp [h1, e1]

/-- clear of terms in a row. -/
theorem run_clearM (w : World) (ty : TypeId) (g o n c : Nat) (hn : 0 < n) (hc : ∀ j, j < n * 3 → (w.cell? ⟨g, o + j, none⟩).isSome = true) (hf : ∀ j, j < n * 3 → w.frozen? ⟨g, o + j, none⟩ = false) :
    ∃ zs : List Value, (Builtin.clear_ #[83] ty #[.slice (some ⟨g, o, none⟩) n c]).run Try.prog w = .ok (.tuple #[]) (w.setCells g o zs) := by
  have hv : ∀ w, (zeroValue 87).run Try.prog w = .ok (.agg #[.string ⟨#[]⟩, .int .i64 0, .string ⟨#[]⟩]) w := Try.zeroValue87
  obtain ⟨zs, hzs⟩ : ∃ zs, (Builtin.zeroCells (Value.agg #[.string ⟨#[]⟩, .int .i64 0, .string ⟨#[]⟩]).cells n).toList = zs := ⟨_, rfl⟩
  have hl : zs.length = n * 3 := by rw [← hzs, Array.length_toList, size_zeroCells]; rfl
  have h1 : ∀ v ∈ zs, v.oneCell' = true := by
    intro v hm
    rw [← hzs] at hm
    simp only [Builtin.zeroCells, Array.toList_map, List.mem_map] at hm
    obtain ⟨i, _, rfl⟩ := hm
    have h3 : i % (Value.agg #[.string ⟨#[]⟩, .int .i64 0, .string ⟨#[]⟩]).cells.size < 3 := Nat.mod_lt _ (by decide)
    obtain ⟨m, hm⟩ : ∃ m, i % (Value.agg #[.string ⟨#[]⟩, .int .i64 0, .string ⟨#[]⟩]).cells.size = m := ⟨_, rfl⟩
    rw [hm] at h3 ⊢
    rcases (show m = 0 ∨ m = 1 ∨ m = 2 by omega) with rfl | rfl | rfl <;> rfl
  refine ⟨zs, ?_⟩
  have hst := run_storeCells_cells (P := Try.prog) g o zs 0 w (by rw [hl]; simpa using hc) (by rw [hl]; simpa using hf) h1
  simp only [Nat.add_zero] at hst
  obtain ⟨m, rfl⟩ : ∃ m, n = m + 1 := ⟨n - 1, by omega⟩
  simp [Builtin.clear_, run_underlying Try.underlying83, hv, hzs, hst]

/-- A row's cells, at any place. -/
theorem own_cells {n0 g n cap : Nat} {w : World} {d : Array Tm} (h : KM.Own n0 w (.slice (some ⟨g, 0, none⟩) n cap) d.toList) (i : Nat) (hi : i < d.size) :
    w.cell? ⟨g, i * 3, none⟩ = some (.string (d[i]!).1) ∧ w.cell? ⟨g, i * 3 + 1, none⟩ = some (.int .i64 (d[i]!).2.1) ∧ w.cell? ⟨g, i * 3 + 2, none⟩ = some (.string (d[i]!).2.2) ∧
    w.frozen? ⟨g, i * 3, none⟩ = false ∧ w.frozen? ⟨g, i * 3 + 1, none⟩ = false ∧ w.frozen? ⟨g, i * 3 + 2, none⟩ = false := by
  have hH := own_holds h
  have hi' : i < d.toList.toArray.size := by simpa using hi
  have k0 := hH.cell (i := i) (c := 0) hi' (by decide)
  have k1 := hH.cell (i := i) (c := 1) hi' (by decide)
  have k2 := hH.cell (i := i) (c := 2) hi' (by decide)
  have he : d.toList.toArray[i]! = d[i]! := by simp
  rw [he] at k0 k1 k2
  simp only [Nat.zero_add, Nat.add_zero] at k0 k1 k2
  exact ⟨k0.1, k1.1, k2.1, k0.2, k1.2, k2.2⟩

theorem own_some {n0 g n cap : Nat} {w : World} {d : Array Tm} (h : KM.Own n0 w (.slice (some ⟨g, 0, none⟩) n cap) d.toList) (t : Nat) (ht : t < d.size * 3) :
    (w.cell? ⟨g, t, none⟩).isSome = true ∧ w.frozen? ⟨g, t, none⟩ = false := by
  have := own_holds h t (by rw [size_flatK]; simpa using ht)
  rw [Nat.zero_add] at this
  exact ⟨by rw [this.1]; rfl, this.2⟩

theorem own_ge {n0 g n cap : Nat} {w : World} {d : List Tm} (h : KM.Own n0 w (.slice (some ⟨g, 0, none⟩) n cap) d) : n0 ≤ g ∧ g < w.heap.size ∧ d.length ≤ cap ∧ cap ≤ maxLen := by
  rcases h.2 with ⟨hv, _⟩ | ⟨g', cap', cur, hv, h1, h2, h3, h4, _⟩
  · cases hv
  · injection hv with e1 e2 e3
    injection e1 with e1
    injection e1 with e1 _ _
    subst e1 e3
    exact ⟨h1, (Array.getElem?_eq_some_iff.1 h2).1, h3, h4⟩

theorem own_drew {n0 : Nat} {w : World} {v : Value} {d : List Tm} (h : KM.Own n0 w v d) (q : Nat) : KM.Own n0 (w.drewN q) v d := h

theorem compact_same {d : Array Tm} (h : ∀ j, j < d.size → keeps d j = true) : compactUpTo d d.size = d.toList := by
  rw [compactUpTo_all d _ h, range_map_get]

theorem comp_low {d dk : Array Tm} {m k : Nat} (h : CompInv d m k dk) (hk : k ≤ dk.size) : dk.toList.take k = compactUpTo d m := by
  apply List.ext_getElem?
  intro j
  rw [List.getElem?_take]
  by_cases hj : j < k
  · rw [if_pos hj, h.low j hj, Array.getElem?_toList, Array.getElem?_eq_getElem (by omega), getElem!_pos dk j (by omega)]
  · rw [if_neg hj, List.getElem?_eq_none (by rw [h.len]; omega)]

def CompPost (n0 g cap : Nat) (d : Array Tm) (w : World) (e : Ending) (w' : World) : Prop :=
  e = .returned (.slice (some ⟨g, 0, none⟩) (compactUpTo d d.size).length cap) ∧ KM.Own n0 w' (.slice (some ⟨g, 0, none⟩) (compactUpTo d d.size).length cap) (compactUpTo d d.size) ∧ Below n0 w w'

theorem CompPost.same {n0 g n cap : Nat} {d : Array Tm} {w : World} (h : KM.Own n0 w (.slice (some ⟨g, 0, none⟩) n cap) d.toList) (hn : d.size = n) (hk : ∀ j, j < d.size → keeps d j = true) (q : Nat) :
    CompPost n0 g cap d w (.returned (.slice (some ⟨g, 0, none⟩) n cap)) (w.drewN q) := by
  subst hn
  unfold CompPost
  rw [compact_same hk]
  refine ⟨by simp, ?_, bel_drewN (Below.refl _ _) q⟩
  have : d.toList.length = d.size := by simp
  rw [this]
  exact own_drew h q

end Go.Proofs.Ytmihddbnddgfhaa

/-
  The contracts of May, Norm and Equal of terms.
-/
namespace Go.Proofs.Ytmihddbnddgfhaa
open Go.RowKit Go.Sort Go.Lib

/-- A term whose texts a machine can hold. -/
def Tf : Type := { x : Tm // x.1.size ≤ maxLen ∧ x.2.2.size ≤ maxLen ∧ -9223372036854775808 ≤ x.2.1 ∧ x.2.1 ≤ 9223372036854775807 }
def tfNone : Tf := ⟨(⟨#[]⟩, 0, ⟨#[]⟩), Nat.zero_le _, Nat.zero_le _, by decide, by decide⟩

theorem km_enc {w : World} {b off : Nat} {p : List Tm} (h : KM.At w b off p) (j : Nat) (hj : j < p.length) (i : Nat) (v : Value) (hv : (encM p[j])[i]? = some v) : w.cell? ⟨b, off + j * 3 + i, none⟩ = some v := h j hj i v hv

theorem any_not (p : List Tm) (f : Tm → Bool) : p.any (fun x => !f x) = !p.all f := by
  induction p with
  | nil => rfl
  | cons x p ih => simp only [List.any_cons, List.all_cons, ih, Bool.not_and]

theorem pcells {w : World} {b off : Nat} {p : List Tm} (h : KM.At w b off p) (j : Nat) (u : Value) (hu : (KM.cells p)[j]? = some u) : w.cell? ⟨b, off + j, none⟩ = some u := by
  rcases Kind.src (K := KM) (w := w) (p := some ⟨b, off, none⟩) (d := p) (Or.inr ⟨b, off, rfl, h⟩) with h0 | ⟨ad, e, hc⟩
  · obtain rfl := List.length_eq_zero_iff.1 h0
    simp [Kind.cells] at hu
  · cases e
    have := hc j u hu
    rwa [addr_add] at this

set_option maxHeartbeats 2000000 in
set_option maxRecDepth 100000 in
theorem cloneM_any (v : Value) (p : List Tm) (w : World) (hv : KM.Is w v p) (hs : p.length * 40 ≤ 140737488355328) :
    Calls Try.prog 60 #[v] w fun e w' => ∃ u, e = .returned u ∧ KM.Own w.heap.size w' u p ∧ Below w.heap.size w w' := by
  obtain ⟨i0, hi, hz0, hz1, hz2⟩ := info_parts Try.infoTrm
  obtain ⟨q, cap, rfl, hd⟩ := hv
  have q22 : ∀ (w : World) (a : Option Addr) (n c n' c' : Nat), (binOp .eql 83 (.slice a n c) (.slice none n' c')).run Try.prog w = .ok (.bool a.isNone) w := fun w a n c n' c' => Lib.run_eql_slice_nil w _ _ a n c n' c' Try.underlying83
  have HD := hid hd
  clear hd
  cases q with
  | none =>
    have h0 : p = [] := by
      rcases HD.out with h | ⟨b, off, h, _⟩
      · exact h
      · cases h
    subst h0
    go_enter Try.func60, Try.ntmps60
    go_wp2_with fail
    go_ret
    exact ⟨_, rfl, KM.own_nil _ _, Below.refl _ _⟩
  | some a =>
    have hcells : ∀ j u, (KM.cells p)[j]? = some u → (w.alloc (.cells #[] 87)).cell? (a.add j) = some u := by
      rcases HD.out with h | ⟨b, off, h, hx⟩
      · subst h; intro j u hj; simp [Kind.cells] at hj
      · intro j u hj
        obtain rfl : a = ⟨b, off, none⟩ := by simpa using h
        rw [addr_add]
        have := pcells hx j u hj
        rw [World.cell?_alloc_lt _ _ ⟨b, off + j, none⟩ (cell_block this)]; exact this
    have HC := hid hcells
    clear hcells
    go_enter Try.func60, Try.ntmps60
    go_wp2_with (at_builtin; refine wpList_append_own _ rfl _ _ 83 rfl w.heap.size 87 i0 (.agg #[.string ⟨#[]⟩, .int .i64 0, .string ⟨#[]⟩]) 3 40 Try.underlying83 hi hz0 hz1 hz2 rfl (by decide) _ _ _ rfl (World.ownsRow_made w #[] 0 (Nat.le_refl _) (Nat.zero_le _) (by simp)) a p.length cap (KM.cells p) rfl ?c0 ?c1 ?c2 ?c3 ?c4 ?c5 ?_)
    case c0 => exact KM.cells_len p
    case c1 => exact HC.out
    case c2 => exact KM.cells_ones p
    case c3 => unfold maxLen; omega
    case c4 => omega
    case c5 => simp
    intro v' w1 hown hgrow hnil
    have hb1 : Below w.heap.size w w1 := ((Below.refl _ w).alloc (Nat.le_refl _) _).grown hgrow (by simp) (by intro k hk; simp [Value.ownBlock] at hk; omega)
    have HO : Hid (KM.Own w.heap.size w1 v' p) := hid (by show w1.ownsRow w.heap.size 87 3 v' p.length (KM.cells p); simpa using hown)
    clear hown hgrow hnil
    go_wp2_with fail
    go_ret
    exact ⟨_, rfl, HO.out, hb1⟩

theorem neqM_at : NeqAt Try.prog 87 (fun x : Tm => .agg (encM x).toArray) (fun x y => decide (x = y)) :=
  ⟨fun x y w => neq_term x y w, GuardAt.agg (fun x : Tm => (encM x).toArray) (by kernel_rfl)⟩

theorem allEq_decide : ∀ (p q : List Tm), Lib.allEq (fun x y => decide (x = y)) p q = decide (p = q)
  | [], [] => rfl
  | [], y :: q => by simp [Lib.allEq]
  | x :: p, [] => by simp [Lib.allEq]
  | x :: p, y :: q => by
    have := allEq_decide p q
    unfold Lib.allEq
    rw [this]
    by_cases h1 : x = y <;> by_cases h2 : p = q <;> simp [h1, h2]

end Go.Proofs.Ytmihddbnddgfhaa

/-
  Package track (stage 13): ownField, ownRange; copies of fields and of ranges.
-/
namespace Go.Proofs.Ytmihddbnddgfhaa
open Go.RowKit

/-- A field whose texts lie in a row of their own. -/
def QF : MadeK Fx where
  E N w f := OwnT N w f.sl f.txt
  Blk f k := f.sl.ownBlock = some k
  fr h f hP := f.row h fun k hk => hP k hk
  blk h k hk := World.ownsRow.lt h k hk
  weak h hM := own_weak h hM
/-- A range whose terms lie in a row of their own. -/
def QR : MadeK Rx where
  E N w r := KM.Own N w r.sl r.tm ∧ FitP r.tm
  Blk r k := r.sl.ownBlock = some k
  fr h f hP := ⟨f.row h.1 fun k hk => hP k hk, h.2⟩
  blk h k hk := World.ownsRow.lt h.1 k hk
  weak h hM := ⟨Kind.own_weak h.1 hM, h.2⟩

theorem enters_ownF : ∀ args w, (callFunc 62 args).run Try.prog w = .ok (.enter 62 args) w := enters_of Try.func62 (by kernel_rfl) rfl
theorem enters_ownR : ∀ args w, (callFunc 48 args).run Try.prog w = .ok (.enter 48 args) w := enters_of Try.func48 (by kernel_rfl) rfl

set_option maxHeartbeats 4000000 in
set_option maxRecDepth 100000 in
theorem ownF_any (x : Fx) (w : World) (hx : x.at w) (hc : x.txt.length * 16 ≤ 140737488355328) : Calls Try.prog 62 #[.agg (encX x).toArray] w fun e w' => MadePost KX13 QF Fx.fld w (Fx.fld x) e w' := by
  obtain ⟨hbV, h1, h2, hs⟩ := two_boxes w (encX x).toArray #[.string ⟨#[]⟩, .slice none 0 0] 90 90
  obtain ⟨V, hV⟩ : ∃ V, (w.alloc (.cells (encX x).toArray 90)).alloc (.cells #[.string ⟨#[]⟩, .slice none 0 0] 90) = V := ⟨_, rfl⟩
  obtain ⟨M, hM⟩ : ∃ M, w.heap.size = M := ⟨_, rfl⟩
  rw [hV] at hbV h1 h2 hs
  rw [hM] at h1 h2 hs
  have HC := hid (cloneT_any x.p x.cap x.txt V (hx.kept hbV) hc)
  have HB := hid hbV
  clear hx hbV
  obtain ⟨xn, xp, xc, xm⟩ := x
  simp only [encX, Fx.sl] at *
  have HBX : Hid (∀ W' : World, Below V.heap.size V W' → W'.heap[M]? = some (.cells [.string xn, .slice xp xm.length xc].toArray 90 (0, 0)) ∧ W'.heap[M + 1]? = some (.cells #[.string ⟨#[]⟩, .slice none 0 0] 90 (0, 0))) := fun W' hW => ⟨(hW.block M (by omega)).trans h1, (hW.block (M + 1) (by omega)).trans h2⟩
  have a1 : V.cell? ⟨M, 1, none⟩ = some (.slice xp xm.length xc) := by rw [Lib.cell_of_heap h1]; rfl
  clear h1 h2
  go_enter Try.func62, Try.ntmps62
  go_wp2_with fail
  try rw [hV]
  try rw [hM]
  refine HC.out.mono ?_
  rintro e w1 ⟨u1, rfl, ho1, hb1⟩
  obtain ⟨p1, c1, rfl⟩ : ∃ p c, u1 = .slice p xm.length c := own_slice ho1
  clear hV a1 HC
  obtain ⟨e1, e2⟩ := HBX.out w1 hb1
  obtain ⟨W1, hW1⟩ : ∃ W1, w1.setCell ⟨M, 1, none⟩ (.slice p1 xm.length c1) = W1 := ⟨_, rfl⟩
  have q1 : W1.heap[M]? = some (.cells #[.string xn, .slice p1 xm.length c1] 90 (0, 0)) := by rw [← hW1]; exact heap_setCell_same _ M 1 _ _ _ e1
  have q2 : W1.heap[M + 1]? = some (.cells #[.string ⟨#[]⟩, .slice none 0 0] 90 (0, 0)) := by
    rw [← hW1]
    exact (heap_setCell_other _ _ (M + 1) _ (by show M + 1 ≠ M; omega)).trans e2
  have hf1 : Fr (fun b => b = M) w1 W1 := by rw [← hW1]; exact fr_set w1 M 1 _
  obtain ⟨W2, hW2⟩ : ∃ W2, (W1.setCell ⟨M + 1, 0, none⟩ (.string xn)).setCell ⟨M + 1, 1, none⟩ (.slice p1 xm.length c1) = W2 := ⟨_, rfl⟩
  have q3 : W2.heap[M + 1]? = some (.cells #[.string xn, .slice p1 xm.length c1] 90 (0, 0)) := by
    rw [← hW2]
    exact heap_setCell_same _ (M + 1) 1 _ _ _ (heap_setCell_same W1 (M + 1) 0 _ _ _ q2)
  have hf2 : Fr (fun b => b = M ∨ b = M + 1) w1 W2 := by
    rw [← hW2]
    exact (((hf1.mono fun k hk => Or.inl hk).then (fr_set W1 (M + 1) 0 _) fun k hk => Or.inl (Or.inr hk)).then (fr_set _ (M + 1) 1 _) fun k hk => Or.inl (Or.inr hk))
  have HO : Hid (OwnT w.heap.size W2 (.slice p1 xm.length c1) xm) := by
    have h1 := hf2.row (show w1.ownsRow V.heap.size _ _ (.slice p1 xm.length c1) xm.length _ from ho1) fun k hk hp => by
      have := (World.ownsRow.lt (show w1.ownsRow V.heap.size _ _ (.slice p1 xm.length c1) xm.length _ from ho1) k hk).1
      omega
    exact own_weak h1 (by omega)
  have HB2 : Hid (Below w.heap.size w W2) := (bel_then HB.out HB.out.size hb1).trans (hf2.below (by have := hb1.size; omega) fun k hk => by omega)
  have c1' : w1.cell? ⟨M, 1, none⟩ = some (.slice xp xm.length xc) := by rw [Lib.cell_of_heap e1]; rfl
  have z1 : w1.frozen? ⟨M, 1, none⟩ = false := Lib.frozen_of_heap e1 1
  have d0 : W1.cell? ⟨M, 0, none⟩ = some (.string xn) := by rw [Lib.cell_of_heap q1]; rfl
  have d1 : W1.cell? ⟨M, 1, none⟩ = some (.slice p1 xm.length c1) := by rw [Lib.cell_of_heap q1]; rfl
  have k0 : W1.cell? ⟨M + 1, 0, none⟩ = some (.string ⟨#[]⟩) := by rw [Lib.cell_of_heap q2]; rfl
  have k1 : W1.cell? ⟨M + 1, 1, none⟩ = some (.slice none 0 0) := by rw [Lib.cell_of_heap q2]; rfl
  have y0 : W1.frozen? ⟨M + 1, 0, none⟩ = false := Lib.frozen_of_heap q2 0
  have y1 : W1.frozen? ⟨M + 1, 1, none⟩ = false := Lib.frozen_of_heap q2 1
  have HG : Hid (W2.cell? ⟨M + 1, 0, none⟩ = some (.string xn) ∧ W2.cell? ⟨M + 1, 1, none⟩ = some (.slice p1 xm.length c1)) := ⟨by rw [Lib.cell_of_heap q3]; rfl, by rw [Lib.cell_of_heap q3]; rfl⟩
  clear e1 e2 q1 q2 q3 hf1 hf2 ho1 hb1 HBX
  go_upto_region 2 with fail
  try rw [hW1]
  clear c1' z1 hW1
  go_wp2_with fail
  try rw [hW2]
  obtain ⟨g0, g1⟩ := HG.out
  exact bodyPost_ret (v := .agg #[.string xn, .slice p1 xm.length c1]) (by simp [results, Try.results62, go_sem, g0, g1]) rfl ⟨⟨xn, p1, c1, xm⟩, rfl, HO.out, rfl, HB2.out⟩

set_option maxHeartbeats 4000000 in
set_option maxRecDepth 100000 in
theorem ownR_any (x : Rx) (w : World) (hx : x.at w) : Calls Try.prog 48 #[.agg (encRx x).toArray] w fun e w' => MadePost KRx QR Rx.rg w (Rx.rg x) e w' := by
  obtain ⟨hbV, h1, h2, hs⟩ := two_boxes w (encRx x).toArray #[.string ⟨#[]⟩, .slice none 0 0] 85 85
  obtain ⟨V, hV⟩ : ∃ V, (w.alloc (.cells (encRx x).toArray 85)).alloc (.cells #[.string ⟨#[]⟩, .slice none 0 0] 85) = V := ⟨_, rfl⟩
  obtain ⟨M, hM⟩ : ∃ M, w.heap.size = M := ⟨_, rfl⟩
  rw [hV] at hbV h1 h2 hs
  rw [hM] at h1 h2 hs
  have HC := hid (cloneM_any x.sl x.tm V (Kind.is_kept hx.1 hbV) hx.2.2)
  have HP := hid hx.2
  have HB := hid hbV
  clear hx hbV
  obtain ⟨xn, xp, xc, xm⟩ := x
  simp only [encRx, Rx.sl] at *
  have HBX : Hid (∀ W' : World, Below V.heap.size V W' → W'.heap[M]? = some (.cells [.string xn, .slice xp xm.length xc].toArray 85 (0, 0)) ∧ W'.heap[M + 1]? = some (.cells #[.string ⟨#[]⟩, .slice none 0 0] 85 (0, 0))) := fun W' hW => ⟨(hW.block M (by omega)).trans h1, (hW.block (M + 1) (by omega)).trans h2⟩
  have a1 : V.cell? ⟨M, 1, none⟩ = some (.slice xp xm.length xc) := by rw [Lib.cell_of_heap h1]; rfl
  clear h1 h2
  go_enter Try.func48, Try.ntmps48
  go_wp2_with fail
  try rw [hV]
  try rw [hM]
  refine HC.out.mono ?_
  rintro e w1 ⟨u1, rfl, ho1, hb1⟩
  obtain ⟨p1, c1, rfl⟩ : ∃ p c, u1 = .slice p xm.length c := Kind.own_shape ho1
  clear hV a1 HC
  obtain ⟨e1, e2⟩ := HBX.out w1 hb1
  obtain ⟨W1, hW1⟩ : ∃ W1, w1.setCell ⟨M, 1, none⟩ (.slice p1 xm.length c1) = W1 := ⟨_, rfl⟩
  have q1 : W1.heap[M]? = some (.cells #[.string xn, .slice p1 xm.length c1] 85 (0, 0)) := by rw [← hW1]; exact heap_setCell_same _ M 1 _ _ _ e1
  have q2 : W1.heap[M + 1]? = some (.cells #[.string ⟨#[]⟩, .slice none 0 0] 85 (0, 0)) := by
    rw [← hW1]
    exact (heap_setCell_other _ _ (M + 1) _ (by show M + 1 ≠ M; omega)).trans e2
  have hf1 : Fr (fun b => b = M) w1 W1 := by rw [← hW1]; exact fr_set w1 M 1 _
  obtain ⟨W2, hW2⟩ : ∃ W2, (W1.setCell ⟨M + 1, 0, none⟩ (.string xn)).setCell ⟨M + 1, 1, none⟩ (.slice p1 xm.length c1) = W2 := ⟨_, rfl⟩
  have q3 : W2.heap[M + 1]? = some (.cells #[.string xn, .slice p1 xm.length c1] 85 (0, 0)) := by
    rw [← hW2]
    exact heap_setCell_same _ (M + 1) 1 _ _ _ (heap_setCell_same W1 (M + 1) 0 _ _ _ q2)
  have hf2 : Fr (fun b => b = M ∨ b = M + 1) w1 W2 := by
    rw [← hW2]
    exact (((hf1.mono fun k hk => Or.inl hk).then (fr_set W1 (M + 1) 0 _) fun k hk => Or.inl (Or.inr hk)).then (fr_set _ (M + 1) 1 _) fun k hk => Or.inl (Or.inr hk))
  have HO : Hid (KM.Own w.heap.size W2 (.slice p1 xm.length c1) xm) := by
    have h1 := hf2.row (show w1.ownsRow V.heap.size _ _ (.slice p1 xm.length c1) xm.length _ from ho1) fun k hk hp => by
      have := (World.ownsRow.lt (show w1.ownsRow V.heap.size _ _ (.slice p1 xm.length c1) xm.length _ from ho1) k hk).1
      omega
    exact own_weak h1 (by omega)
  have HB2 : Hid (Below w.heap.size w W2) := (bel_then HB.out HB.out.size hb1).trans (hf2.below (by have := hb1.size; omega) fun k hk => by omega)
  have c1' : w1.cell? ⟨M, 1, none⟩ = some (.slice xp xm.length xc) := by rw [Lib.cell_of_heap e1]; rfl
  have z1 : w1.frozen? ⟨M, 1, none⟩ = false := Lib.frozen_of_heap e1 1
  have d0 : W1.cell? ⟨M, 0, none⟩ = some (.string xn) := by rw [Lib.cell_of_heap q1]; rfl
  have d1 : W1.cell? ⟨M, 1, none⟩ = some (.slice p1 xm.length c1) := by rw [Lib.cell_of_heap q1]; rfl
  have k0 : W1.cell? ⟨M + 1, 0, none⟩ = some (.string ⟨#[]⟩) := by rw [Lib.cell_of_heap q2]; rfl
  have k1 : W1.cell? ⟨M + 1, 1, none⟩ = some (.slice none 0 0) := by rw [Lib.cell_of_heap q2]; rfl
  have y0 : W1.frozen? ⟨M + 1, 0, none⟩ = false := Lib.frozen_of_heap q2 0
  have y1 : W1.frozen? ⟨M + 1, 1, none⟩ = false := Lib.frozen_of_heap q2 1
  have HG : Hid (W2.cell? ⟨M + 1, 0, none⟩ = some (.string xn) ∧ W2.cell? ⟨M + 1, 1, none⟩ = some (.slice p1 xm.length c1)) := ⟨by rw [Lib.cell_of_heap q3]; rfl, by rw [Lib.cell_of_heap q3]; rfl⟩
  clear e1 e2 q1 q2 q3 hf1 hf2 ho1 hb1 HBX
  go_upto_region 2 with fail
  try rw [hW1]
  clear c1' z1 hW1
  go_wp2_with fail
  try rw [hW2]
  obtain ⟨g0, g1⟩ := HG.out
  exact bodyPost_ret (v := .agg #[.string xn, .slice p1 xm.length c1]) (by simp [results, Try.results48, go_sem, g0, g1]) rfl ⟨⟨xn, p1, c1, xm⟩, rfl, ⟨HO.out, HP.out⟩, rfl, HB2.out⟩

theorem kx13_is {w : World} {v : Value} {d : List Fx} (h : IsXs w v d) : KX13.Is w v d := by
  obtain ⟨p, cap, rfl, h, _⟩ := h
  refine ⟨p, cap, rfl, h.imp id ?_⟩
  rintro ⟨b, off, hp, hx⟩
  refine ⟨b, off, hp, fun i hi j u hu => ?_⟩
  obtain ⟨h1, h2⟩ := hx i hi
  match j, hu with
  | 0, hu => cases hu; exact h1
  | 1, hu => cases hu; exact h2
  | j + 2, hu => simp [KX13, encX] at hu

/-- Fields, copied. -/
theorem copyF_any (v : Value) (d : List Fx) (w : World) (hv : IsXs w v d) (hc : CopyX d) :
    Calls Try.prog 61 #[v, .func (.func 62) #[] #[]] w fun e w' => ∃ u o, e = .returned u ∧ OwnJ w.heap.size w' u o ∧ o.map Fx.fld = d.map Fx.fld ∧ Below w.heap.size w w' := by
  refine (eachF_any QF Fx.fld _ enters_ownF v d w (kx13_is hv) hc.1 fun W x hW hx => ownF_any x W ((hv.at_all x hx).kept hW) (hc.2 x hx)).mono ?_
  rintro e w' ⟨p, c, L, rfl, hst, hm⟩
  refine ⟨_, L, rfl, ⟨⟨hst.row.own, fun x hx => (hst.each x hx).1⟩, hst.apart.imp fun {a b} h => ?_⟩, hm, hst.row.bel⟩
  cases ha : a.sl.ownBlock with
  | none => exact Or.inl rfl
  | some k => exact Or.inr fun e => h k ha e.symm

/-- Ranges, copied. -/
theorem copyR_any (v : Value) (l : List Rx) (w : World) (hv : KRx.Is w v l) (he : ∀ r ∈ l, r.at w) (hl : l.length * 40 ≤ 140737488355328) :
    Calls Try.prog 47 #[v, .func (.func 48) #[] #[]] w fun e w' => EachPost KRx QR Rx.rg w (l.map Rx.rg) e w' :=
  eachR_any QR Rx.rg _ enters_ownR v l w hv hl fun W x hW hx => ownR_any x W ((he x hx).on hW)

end Go.Proofs.Ytmihddbnddgfhaa
