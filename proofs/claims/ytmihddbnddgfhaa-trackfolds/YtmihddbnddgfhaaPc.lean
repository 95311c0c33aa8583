/-
  Texts of this claim, one behind the other: Mr2 Mr3 Mr4 Mr5 Mpi Cfm Cv0 Cr0 Cr1 Cr2 Enc0 Enc Cfr Yp0 Ys1 Yl1 Yl2 Yl3 Flt Two Yl4.
-/
import Derived.Test.YtmihddbnddgfhaaPb
import Derived.Test.YtmihddbnddgfhaaPa
import Derived.Deep.RegionHeld3
import Derived.Deep.CutRange
import Derived.Deep.LoopGhost
import Derived.OwnWalk
import Derived.Deep.AppendLies
import Derived.Lib.AppendStr
/-
  The reference's marks (stage 12): Hit, Hits, Which, Equal.
-/
namespace Go.Proofs.Ytmihddbnddgfhaa
open Go.RowKit

def FewM (m : Mx) : Prop := m.ks.length < 1500000000000 ∧ m.rs.length < 1500000000000
/-- As many as may come in. -/
def LenM (m : Mx) : Prop := m.ks.length < 4500000000000 ∧ m.rs.length < 4500000000000
/-- As many as the sizes of what came in leave. -/
def LotM (m : Mx) : Prop := m.ks.length ≤ 4398046511000 ∧ m.rs.length ≤ 3518437208800
theorem FewM.lot {m : Mx} (h : FewM m) : LotM m := ⟨Nat.le_trans (Nat.le_of_lt h.1) (by decide), Nat.le_trans (Nat.le_of_lt h.2) (by decide)⟩
theorem FewM.len {m : Mx} (h : FewM m) : LenM m := ⟨Nat.lt_trans h.1 (by decide), Nat.lt_trans h.2 (by decide)⟩

set_option maxHeartbeats 8000000 in
set_option maxRecDepth 100000 in
theorem hit12_any (m : Mx) (c : Cx) (w : World) (hm : MIn w m) (hw : LenM m) (hc : CIn w c) :
    Calls Try.prog 57 #[.agg (encMx m).toArray, .agg (encCx c).toArray] w fun e w' => e = .returned (.bool (hitM m.mk' c.ch)) ∧ Below w.heap.size w w' := by
  obtain ⟨hbV, h1, h2, hs⟩ := two_boxes w (encMx m).toArray (encCx c).toArray 32 70
  obtain ⟨V, hV⟩ : ∃ V, (w.alloc (.cells (encMx m).toArray 32)).alloc (.cells (encCx c).toArray 70) = V := ⟨_, rfl⟩
  obtain ⟨M, hM⟩ : ∃ M, w.heap.size = M := ⟨_, rfl⟩
  rw [hV] at hbV h1 h2 hs
  rw [hM] at h1 h2 hs
  have HIN : Hid (∀ W', Below V.heap.size V W' → MIn W' m ∧ CIn W' c ∧ Below w.heap.size w W') := fun W' hW => by
    have hb : Below w.heap.size w W' := bel_then hbV hbV.size hW
    exact ⟨hm.on hb, hc.on hb, hb⟩
  have HBX : Hid (∀ W' : World, Below V.heap.size V W' → (W'.cell? ⟨M, 0, none⟩ = some m.ksl ∧ W'.cell? ⟨M, 1, none⟩ = some m.rsl) ∧ W'.cell? ⟨M + 1, 0, none⟩ = some (.string c.a) ∧ W'.cell? ⟨M + 1, 1, none⟩ = some (.string c.b) ∧ W'.cell? ⟨M + 1, 2, none⟩ = some (.bool c.wl) ∧ W'.cell? ⟨M + 1, 3, none⟩ = some (.slice c.wp c.wo.length c.wc) ∧ W'.cell? ⟨M + 1, 4, none⟩ = some (.bool c.il) ∧ W'.cell? ⟨M + 1, 5, none⟩ = some (.slice c.ip c.io.length c.ic)) := fun W' hW => by
    have e1 := (hW.block M (by omega)).trans h1
    have e2 := (hW.block (M + 1) (by omega)).trans h2
    exact ⟨⟨by rw [Lib.cell_of_heap e1]; rfl, by rw [Lib.cell_of_heap e1]; rfl⟩, by rw [Lib.cell_of_heap e2]; rfl, by rw [Lib.cell_of_heap e2]; rfl, by rw [Lib.cell_of_heap e2]; rfl, by rw [Lib.cell_of_heap e2]; rfl, by rw [Lib.cell_of_heap e2]; rfl, by rw [Lib.cell_of_heap e2]; rfl⟩
  have HTT : Hid (∀ W' r, Below V.heap.size V W' → r ∈ m.rs → Calls Try.prog 68 #[.agg (encRx r).toArray, .agg (encCx c).toArray] W' fun e w' => e = .returned (.bool (touchesM r.rg c.ch)) ∧ Below W'.heap.size W' w') := fun W' r hW hr => touches12_any r c W' (((HIN.out W' hW).1).each r hr) (HIN.out W' hW).2.1
  have HK1 : Hid (∀ k ∈ m.ks, k = c.ch.key → hitM m.mk' c.ch = true) := fun k hk he => by
    unfold hitM
    rw [Bool.or_eq_true]
    exact Or.inl (List.any_eq_true.2 ⟨k, hk, by simp [he]⟩)
  have HK2 : Hid (∀ r ∈ m.rs, touchesM r.rg c.ch = true → hitM m.mk' c.ch = true) := fun r hr he => by
    unfold hitM
    rw [Bool.or_eq_true]
    exact Or.inr (List.any_eq_true.2 ⟨r.rg, List.mem_map_of_mem hr, he⟩)
  have HK3 : Hid ((∀ k ∈ m.ks, k ≠ c.ch.key) → (∀ r ∈ m.rs, touchesM r.rg c.ch = false) → hitM m.mk' c.ch = false) := fun q1 q2 => by
    cases hh : hitM m.mk' c.ch with
    | false => rfl
    | true =>
      unfold hitM at hh
      rw [Bool.or_eq_true] at hh
      rcases hh with hh | hh
      · obtain ⟨k, hk, he⟩ := List.any_eq_true.1 hh
        exact absurd (of_decide_eq_true he) (q1 k hk)
      · obtain ⟨r, hr, he⟩ := List.any_eq_true.1 hh
        obtain ⟨x, hx, rfl⟩ := List.mem_map.1 hr
        rw [q2 x hx] at he
        cases he
  obtain ⟨hw1, hw2⟩ := hw
  generalize hTM : hitM m.mk' c.ch = TT at *
  clear hm hc hbV h1 h2 hs hTM
  obtain ⟨kp, kc, ks, rp, rc, rs⟩ := m
  obtain ⟨ca, cb, wl, wp, wc, wo, il, ip, ic, io⟩ := c
  simp only [encMx, encCx, Mx.ksl, Mx.rsl] at *
  obtain ⟨⟨a0, a1⟩, b0, b1, b2, b3, b4, b5⟩ := HBX.out V (Below.refl _ _)
  go_enter Try.func57, Try.ntmps57
  go_wp2_with fail
  try rw [hV]
  try rw [hM]
  clear a0 a1 b0 b1 b2 b3 b4 b5 hV
  go_loopg [5] ks.length (fun gg vi wr => ∃ i : Nat, vi = .int .i64 i ∧ i ≤ ks.length ∧ ks.length - i ≤ gg ∧ Hid (Below V.heap.size V wr ∧ ∀ x ∈ ks.take i, x ≠ (ca, cb)))
  case atStart => exact ⟨0, rfl, by omega, by omega, Below.refl _ _, fun x hx => by simp at hx⟩
  case round =>
    obtain ⟨i, rfl, hi, hgk, HI⟩ := hrel
    obtain ⟨⟨a0, a1⟩, b0, b1, b2, b3, b4, b5⟩ := HBX.out wr HI.out.1
    by_cases hlt : i < ks.length
    · have hltz : (i : Int) < (ks.length : Int) := by omega
      have hiz : (0 : Int) ≤ i := by omega
      obtain ⟨b7, o7, rfl, k7⟩ : ∃ b off, kp = some ⟨b, off, none⟩ ∧ KK.At wr b off ks := by
        obtain ⟨p', c', he, h⟩ := (HIN.out wr HI.out.1).1.keys
        injection he with e1 _ _
        subst e1
        rcases h with h | h
        · have h' : ks = [] := h
          rw [h'] at hlt; simp at hlt
        · exact h
      obtain ⟨y0, y1⟩ := kk_at k7 i hlt
      have hmem : ks[i] ∈ ks := List.getElem_mem hlt
      have htk : ks.take (i + 1) = ks.take i ++ [ks[i]] := List.take_succ_eq_append_getElem hlt
      have HNO : Hid (¬ ks[i] = (ca, cb) → ∀ x ∈ ks.take (i + 1), x ≠ (ca, cb)) := fun h x hx => by
        rw [htk] at hx
        rcases List.mem_append.1 hx with hx | hx
        · exact HI.out.2 x hx
        · rw [List.mem_singleton.1 hx]; exact h
      have HYES : Hid (ks[i] = (ca, cb) → TT = true) := fun h => HK1.out _ hmem h
      have HB := hid HI.out.1
      clear k7 hmem htk HI
      generalize ks[i] = x at *
      obtain ⟨xa, xb⟩ := x
      simp only at *
      have heq := fun W => Z.eql_key xa xb ca cb W
      rw [Z.eqK_iff (xa, xb) (ca, cb)] at heq
      by_cases hq : (xa, xb) = (ca, cb)
      · rw [decide_eq_true hq] at heq
        have HT := hid (HYES.out hq)
        have HE := hid (HIN.out wr.drew (bel_drewN HB.out 1)).2.2
        clear hq HNO HYES
        go_wp2_with fail
        refine wp_region_held_drew (S := fun w' => w'.cell? ⟨M, 0, none⟩ = some (.slice (some ⟨b7, o7, none⟩) ks.length kc) ∧ w'.cell? ⟨b7, o7 + i * 2, none⟩ = some (.string xa) ∧ w'.cell? ⟨b7, o7 + i * 2 + 1, none⟩ = some (.string xb) ∧ w'.cell? ⟨M + 1, 0, none⟩ = some (.string ca) ∧ w'.cell? ⟨M + 1, 1, none⟩ = some (.string cb)) (by kernel_rfl) ⟨a0, y0, y1, b0, b1⟩ (fun hHeld => ?_)
        refine take_val (i := 0) (.pointer (some ⟨M, 0, none⟩)) rfl (by kernel_rfl) (by kernel_rfl) (by kernel_rfl) (fun _ _ _ h => h) (by rfl) (fun w hSw => by go_simp) hHeld ?_
        simp only [Act.put, List.setIfInBounds_toArray, List.set_cons_zero, List.set_cons_succ]
        refine take_val (i := 1) (.slice (some ⟨b7, o7, none⟩) ks.length kc) rfl (by kernel_rfl) (by kernel_rfl) (by kernel_rfl) (fun _ _ _ h => h) (by rfl) (fun w hSw => by go_simp) hHeld ?_
        simp only [Act.put, List.setIfInBounds_toArray, List.set_cons_zero, List.set_cons_succ]
        refine take_val (i := 2) (.int .i64 i) rfl (by kernel_rfl) (by kernel_rfl) (by kernel_rfl) (fun _ _ _ h => h) (by rfl) (fun w hSw => by go_simp) hHeld ?_
        simp only [Act.put, List.setIfInBounds_toArray, List.set_cons_zero, List.set_cons_succ]
        refine take_val (i := 3) (.pointer (some ⟨b7, o7 + i * 2, none⟩)) rfl (by kernel_rfl) (by kernel_rfl) (by kernel_rfl) (fun _ _ _ h => h) (by rfl) (fun w hSw => by go_simp) hHeld ?_
        simp only [Act.put, List.setIfInBounds_toArray, List.set_cons_zero, List.set_cons_succ]
        refine take_val (i := 4) (.agg #[.string xa, .string xb]) rfl (by kernel_rfl) (by kernel_rfl) (by kernel_rfl) (fun _ _ _ h => h) (by rfl) (fun w hSw => by go_simp) hHeld ?_
        simp only [Act.put, List.setIfInBounds_toArray, List.set_cons_zero, List.set_cons_succ]
        refine take_val (i := 5) (.pointer (some ⟨M + 1, 0, none⟩)) rfl (by kernel_rfl) (by kernel_rfl) (by kernel_rfl) (fun _ _ _ h => h) (by rfl) (fun w hSw => by go_simp) hHeld ?_
        simp only [Act.put, List.setIfInBounds_toArray, List.set_cons_zero, List.set_cons_succ]
        refine take_val (i := 6) (.agg #[.string ca, .string cb]) rfl (by kernel_rfl) (by kernel_rfl) (by kernel_rfl) (fun _ _ _ h => h) (by rfl) (fun w hSw => by go_simp) hHeld ?_
        simp only [Act.put, List.setIfInBounds_toArray, List.set_cons_zero, List.set_cons_succ]
        refine take_val (i := 7) (.bool true) rfl (by kernel_rfl) (by kernel_rfl) (by kernel_rfl) (fun _ _ _ h => h) (by rfl) (fun w hSw => by go_simp) hHeld ?_
        simp only [Act.put, List.setIfInBounds_toArray, List.set_cons_zero, List.set_cons_succ]
        refine wpAnyH_done (by kernel_rfl) ?_ _
        clear hHeld heq
        go_wp2_with fail
        go_ret
        first | exact ⟨ret_bool HT.out.symm, HE.out⟩ | exact ⟨ret_bool HT.out.symm, by rw [← hM]; exact HE.out⟩
      · rw [decide_eq_false hq] at heq
        have HN := hid (HNO.out hq)
        have HE := hid (bel_drewN HB.out 1)
        clear hq HNO HYES
        go_wp2_with fail
        refine wp_region_held_drew (S := fun w' => w'.cell? ⟨M, 0, none⟩ = some (.slice (some ⟨b7, o7, none⟩) ks.length kc) ∧ w'.cell? ⟨b7, o7 + i * 2, none⟩ = some (.string xa) ∧ w'.cell? ⟨b7, o7 + i * 2 + 1, none⟩ = some (.string xb) ∧ w'.cell? ⟨M + 1, 0, none⟩ = some (.string ca) ∧ w'.cell? ⟨M + 1, 1, none⟩ = some (.string cb)) (by kernel_rfl) ⟨a0, y0, y1, b0, b1⟩ (fun hHeld => ?_)
        refine take_val (i := 0) (.pointer (some ⟨M, 0, none⟩)) rfl (by kernel_rfl) (by kernel_rfl) (by kernel_rfl) (fun _ _ _ h => h) (by rfl) (fun w hSw => by go_simp) hHeld ?_
        simp only [Act.put, List.setIfInBounds_toArray, List.set_cons_zero, List.set_cons_succ]
        refine take_val (i := 1) (.slice (some ⟨b7, o7, none⟩) ks.length kc) rfl (by kernel_rfl) (by kernel_rfl) (by kernel_rfl) (fun _ _ _ h => h) (by rfl) (fun w hSw => by go_simp) hHeld ?_
        simp only [Act.put, List.setIfInBounds_toArray, List.set_cons_zero, List.set_cons_succ]
        refine take_val (i := 2) (.int .i64 i) rfl (by kernel_rfl) (by kernel_rfl) (by kernel_rfl) (fun _ _ _ h => h) (by rfl) (fun w hSw => by go_simp) hHeld ?_
        simp only [Act.put, List.setIfInBounds_toArray, List.set_cons_zero, List.set_cons_succ]
        refine take_val (i := 3) (.pointer (some ⟨b7, o7 + i * 2, none⟩)) rfl (by kernel_rfl) (by kernel_rfl) (by kernel_rfl) (fun _ _ _ h => h) (by rfl) (fun w hSw => by go_simp) hHeld ?_
        simp only [Act.put, List.setIfInBounds_toArray, List.set_cons_zero, List.set_cons_succ]
        refine take_val (i := 4) (.agg #[.string xa, .string xb]) rfl (by kernel_rfl) (by kernel_rfl) (by kernel_rfl) (fun _ _ _ h => h) (by rfl) (fun w hSw => by go_simp) hHeld ?_
        simp only [Act.put, List.setIfInBounds_toArray, List.set_cons_zero, List.set_cons_succ]
        refine take_val (i := 5) (.pointer (some ⟨M + 1, 0, none⟩)) rfl (by kernel_rfl) (by kernel_rfl) (by kernel_rfl) (fun _ _ _ h => h) (by rfl) (fun w hSw => by go_simp) hHeld ?_
        simp only [Act.put, List.setIfInBounds_toArray, List.set_cons_zero, List.set_cons_succ]
        refine take_val (i := 6) (.agg #[.string ca, .string cb]) rfl (by kernel_rfl) (by kernel_rfl) (by kernel_rfl) (fun _ _ _ h => h) (by rfl) (fun w hSw => by go_simp) hHeld ?_
        simp only [Act.put, List.setIfInBounds_toArray, List.set_cons_zero, List.set_cons_succ]
        refine take_val (i := 7) (.bool false) rfl (by kernel_rfl) (by kernel_rfl) (by kernel_rfl) (fun _ _ _ h => h) (by rfl) (fun w hSw => by go_simp) hHeld ?_
        simp only [Act.put, List.setIfInBounds_toArray, List.set_cons_zero, List.set_cons_succ]
        refine wpAnyH_done (by kernel_rfl) ?_ _
        clear hHeld heq
        go_wp2_with fail
        go_roundg (ks.length - (i + 1))
        case measure => omega
        exact ⟨i + 1, by go_num, by omega, by omega, HE.out, HN.out⟩
    · have hltz : ¬ (i : Int) < (ks.length : Int) := by omega
      have hti : ks.take i = ks := List.take_of_length_le (by omega)
      have HNK := hid HI.out.2
      rw [hti] at HNK
      obtain ⟨W1, hW1⟩ : ∃ W1, wr = W1 := ⟨_, rfl⟩
      rw [hW1] at HI a0 a1 b0 b1 b2 b3 b4 b5 ⊢
      have HB1 := hid HI.out.1
      clear hti HI hW1
      go_wp2_with fail
      clear hltz hi hgk hlt a0 a1 b0 b1 b2 b3 b4 b5
      go_loopg [6] rs.length (fun gg vi wr => ∃ i : Nat, vi = .int .i64 i ∧ i ≤ rs.length ∧ rs.length - i ≤ gg ∧ Hid (Below V.heap.size V wr ∧ ∀ x ∈ rs.take i, touchesM x.rg (⟨ca, cb, wl, wp, wc, wo, il, ip, ic, io⟩ : Cx).ch = false))
      case atStart => exact ⟨0, rfl, by omega, by omega, HB1.out, fun x hx => by simp at hx⟩
      case round =>
        clear HB1
        obtain ⟨i, rfl, hi, hgk, HI⟩ := hrel
        obtain ⟨⟨a0, a1⟩, b0, b1, b2, b3, b4, b5⟩ := HBX.out wr HI.out.1
        by_cases hlt : i < rs.length
        · have hltz : (i : Int) < (rs.length : Int) := by omega
          have hiz : (0 : Int) ≤ i := by omega
          obtain ⟨b7, o7, rfl, k7⟩ : ∃ b off, rp = some ⟨b, off, none⟩ ∧ KRx.At wr b off rs := by
            obtain ⟨p', c', he, h⟩ := (HIN.out wr HI.out.1).1.rows
            injection he with e1 _ _
            subst e1
            rcases h with h | h
            · have h' : rs = [] := h
              rw [h'] at hlt; simp at hlt
            · exact h
          obtain ⟨y0, y1⟩ := krx_at k7 i hlt
          have hmem : rs[i] ∈ rs := List.getElem_mem hlt
          have htk : rs.take (i + 1) = rs.take i ++ [rs[i]] := List.take_succ_eq_append_getElem hlt
          have HAT : Hid (∀ W', Below wr.heap.size wr W' → W'.cell? ⟨b7, o7 + i * 2, none⟩ = some (.string (rs[i]).typ) ∧ W'.cell? ⟨b7, o7 + i * 2 + 1, none⟩ = some (rs[i]).sl) := fun W' hW => krx_at (Kind.at_kept k7 hW) i hlt
          have HCT := hid (HTT.out wr.drew rs[i] (bel_drewN HI.out.1 1) hmem)
          have HNO : Hid (touchesM (rs[i]).rg (⟨ca, cb, wl, wp, wc, wo, il, ip, ic, io⟩ : Cx).ch = false → ∀ x ∈ rs.take (i + 1), touchesM x.rg (⟨ca, cb, wl, wp, wc, wo, il, ip, ic, io⟩ : Cx).ch = false) := fun h x hx => by
            rw [htk] at hx
            rcases List.mem_append.1 hx with hx | hx
            · exact HI.out.2 x hx
            · rw [List.mem_singleton.1 hx]; exact h
          have HYES : Hid (touchesM (rs[i]).rg (⟨ca, cb, wl, wp, wc, wo, il, ip, ic, io⟩ : Cx).ch = true → TT = true) := fun h => HK2.out _ hmem h
          have HB := hid HI.out.1
          clear k7 hmem htk HI
          generalize rs[i] = x at *
          obtain ⟨xt, xp, xc, xm⟩ := x
          simp only [encRx, Rx.sl] at *
          go_wp2_with fail
          refine wp_region_held_drew (S := fun w' => w'.cell? ⟨M, 1, none⟩ = some (.slice (some ⟨b7, o7, none⟩) rs.length rc) ∧ w'.cell? ⟨b7, o7 + i * 2, none⟩ = some (.string xt) ∧ w'.cell? ⟨b7, o7 + i * 2 + 1, none⟩ = some (.slice xp xm.length xc) ∧ w'.cell? ⟨M + 1, 0, none⟩ = some (.string ca) ∧ w'.cell? ⟨M + 1, 1, none⟩ = some (.string cb) ∧ w'.cell? ⟨M + 1, 2, none⟩ = some (.bool wl) ∧ w'.cell? ⟨M + 1, 3, none⟩ = some (.slice wp wo.length wc) ∧ w'.cell? ⟨M + 1, 4, none⟩ = some (.bool il) ∧ w'.cell? ⟨M + 1, 5, none⟩ = some (.slice ip io.length ic)) (by kernel_rfl) ⟨a1, y0, y1, b0, b1, b2, b3, b4, b5⟩ (fun hHeld => ?_)
          refine take_val (i := 0) (.pointer (some ⟨M, 1, none⟩)) rfl (by kernel_rfl) (by kernel_rfl) (by kernel_rfl) (fun _ _ _ h => h) (by rfl) (fun w hSw => by go_simp) hHeld ?_
          simp only [Act.put, List.setIfInBounds_toArray, List.set_cons_zero, List.set_cons_succ]
          refine take_val (i := 1) (.slice (some ⟨b7, o7, none⟩) rs.length rc) rfl (by kernel_rfl) (by kernel_rfl) (by kernel_rfl) (fun _ _ _ h => h) (by rfl) (fun w hSw => by go_simp) hHeld ?_
          simp only [Act.put, List.setIfInBounds_toArray, List.set_cons_zero, List.set_cons_succ]
          refine take_val (i := 2) (.int .i64 i) rfl (by kernel_rfl) (by kernel_rfl) (by kernel_rfl) (fun _ _ _ h => h) (by rfl) (fun w hSw => by go_simp) hHeld ?_
          simp only [Act.put, List.setIfInBounds_toArray, List.set_cons_zero, List.set_cons_succ]
          refine take_val (i := 3) (.pointer (some ⟨b7, o7 + i * 2, none⟩)) rfl (by kernel_rfl) (by kernel_rfl) (by kernel_rfl) (fun _ _ _ h => h) (by rfl) (fun w hSw => by go_simp) hHeld ?_
          simp only [Act.put, List.setIfInBounds_toArray, List.set_cons_zero, List.set_cons_succ]
          refine take_val (i := 4) (.agg #[.string xt, .slice xp xm.length xc]) rfl (by kernel_rfl) (by kernel_rfl) (by kernel_rfl) (fun _ _ _ h => h) (by rfl) (fun w hSw => by go_simp) hHeld ?_
          simp only [Act.put, List.setIfInBounds_toArray, List.set_cons_zero, List.set_cons_succ]
          refine take_val (i := 5) (.agg #[.string ca, .string cb, .bool wl, .slice wp wo.length wc, .bool il, .slice ip io.length ic]) rfl (by kernel_rfl) (by kernel_rfl) (by kernel_rfl) (fun _ _ _ h => h) (by rfl) (fun w hSw => by go_simp) hHeld ?_
          simp only [Act.put, List.setIfInBounds_toArray, List.set_cons_zero, List.set_cons_succ]
          clear hHeld y0 y1 a0 a1 b0 b1 b2 b3 b4 b5
          refine wpAnyH_ready (rs := [6]) (by kernel_rfl) (by simp) ?_
          refine AllReadyH.cons (at_drop0 rfl) (fun K hK => ?_) AllReadyH.nil
          rw [if_pos (by rfl)]
          go_simp
          refine HCT.out.mono ?_
          rintro e w3 ⟨rfl, hb3⟩
          have hbr : Below wr.heap.size wr w3 := (bel_drewN (Below.refl _ _) 1).trans hb3
          have hb3' : Below V.heap.size V w3 := bel_then HB.out HB.out.size hbr
          obtain ⟨y0, y1⟩ := HAT.out w3 hbr
          obtain ⟨⟨a0, a1⟩, b0, b1, b2, b3, b4, b5⟩ := HBX.out w3 hb3'
          have HB3 := hid hb3'
          have HE := hid (HIN.out w3 hb3').2.2
          clear hb3 hbr hb3' HCT HAT
          cases hq : touchesM (⟨xt, xp, xc, xm⟩ : Rx).rg (⟨ca, cb, wl, wp, wc, wo, il, ip, ic, io⟩ : Cx).ch with
          | true =>
            have HT := hid (HYES.out hq)
            clear hq HNO HYES
            go_wp2_with fail
            refine hK.out _ _ (⟨a1, y0, y1, b0, b1, b2, b3, b4, b5⟩) (fun hHeld => ?_)
            clear hK K
            try simp only [Act.put, List.setIfInBounds_toArray, List.set_cons_zero, List.set_cons_succ]
            refine wpAnyH_done (by kernel_rfl) ?_ _
            clear hHeld
            go_wp2_with fail
            go_ret
            first | exact ⟨ret_bool HT.out.symm, HE.out⟩ | exact ⟨ret_bool HT.out.symm, by rw [← hM]; exact HE.out⟩
          | false =>
            have HN := hid (HNO.out hq)
            clear hq HNO HYES
            go_wp2_with fail
            refine hK.out _ _ (⟨a1, y0, y1, b0, b1, b2, b3, b4, b5⟩) (fun hHeld => ?_)
            clear hK K
            try simp only [Act.put, List.setIfInBounds_toArray, List.set_cons_zero, List.set_cons_succ]
            refine wpAnyH_done (by kernel_rfl) ?_ _
            clear hHeld
            go_wp2_with fail
            go_roundg (rs.length - (i + 1))
            case measure => omega
            exact ⟨i + 1, by go_num, by omega, by omega, HB3.out, HN.out⟩
        · have hltz : ¬ (i : Int) < (rs.length : Int) := by omega
          have hti : rs.take i = rs := List.take_of_length_le (by omega)
          have hno := HI.out.2
          rw [hti] at hno
          have HT := hid (HK3.out HNK.out hno)
          have HE := hid (HIN.out wr HI.out.1).2.2
          clear hti hno HI
          go_wp2_with fail
          go_ret
          first | exact ⟨ret_bool HT.out.symm, HE.out⟩ | exact ⟨ret_bool HT.out.symm, by rw [← hM]; exact HE.out⟩

theorem keys_isZ12 {w : World} {v : Value} {d : List Ky} (h : KK.Is w v d) : Z.IsKeys w v d := by
  obtain ⟨p, c, rfl, h⟩ := h
  refine ⟨p, c, rfl, ?_⟩
  rcases h with h | ⟨b, off, rfl, h⟩
  · exact Or.inl h
  · exact Or.inr ⟨b, off, rfl, fun i hi => kk_at h i hi⟩

/-- One box. -/
theorem one_box (w : World) (c : Array Value) (t : TypeId) : Below w.heap.size w (w.alloc (.cells c t)) ∧ (w.alloc (.cells c t)).heap[w.heap.size]? = some (.cells c t (0, 0)) ∧ (w.alloc (.cells c t)).heap.size = w.heap.size + 1 :=
  ⟨(Below.refl _ _).alloc (Nat.le_refl _) _, heap_alloc_new w _, by simp⟩

set_option maxHeartbeats 8000000 in
set_option maxRecDepth 100000 in
theorem hits12_any (m : Mx) (v : Value) (l : List Cx) (w : World) (hm : MIn w m) (hw : LenM m) (hv : KCx.Is w v l) (hc : ∀ c ∈ l, CIn w c) (hl : l.length ≤ 9000000000000000000) :
    Calls Try.prog 42 #[.agg (encMx m).toArray, v] w fun e w' => e = .returned (.bool (hitsM m.mk' (l.map Cx.ch))) ∧ Below w.heap.size w w' := by
  obtain ⟨hbV, h1, hs⟩ := one_box w (encMx m).toArray 32
  obtain ⟨V, hV⟩ : ∃ V, w.alloc (.cells (encMx m).toArray 32) = V := ⟨_, rfl⟩
  obtain ⟨M, hM⟩ : ∃ M, w.heap.size = M := ⟨_, rfl⟩
  rw [hV] at hbV h1 hs
  rw [hM] at h1 hs
  obtain ⟨p, cap, rfl, _⟩ := id hv
  have HIN : Hid (∀ W', Below V.heap.size V W' → MIn W' m ∧ KCx.Is W' (.slice p l.length cap) l ∧ (∀ c ∈ l, CIn W' c) ∧ Below w.heap.size w W' ∧ W'.cell? ⟨M, 0, none⟩ = some m.ksl ∧ W'.cell? ⟨M, 1, none⟩ = some m.rsl) := fun W' hW => by
    have hb : Below w.heap.size w W' := bel_then hbV hbV.size hW
    have e1 := (hW.block M (by omega)).trans h1
    exact ⟨hm.on hb, Kind.is_kept hv hb, fun c h => (hc c h).on hb, hb, by rw [Lib.cell_of_heap e1]; rfl, by rw [Lib.cell_of_heap e1]; rfl⟩
  have HHT : Hid (∀ W' c, Below V.heap.size V W' → c ∈ l → Calls Try.prog 57 #[.agg (encMx m).toArray, .agg (encCx c).toArray] W' fun e w' => e = .returned (.bool (hitM m.mk' c.ch)) ∧ Below W'.heap.size W' w') := fun W' c hW h => hit12_any m c W' (HIN.out W' hW).1 hw ((HIN.out W' hW).2.2.1 c h)
  have HK1 : Hid (∀ c ∈ l, hitM m.mk' c.ch = true → hitsM m.mk' (l.map Cx.ch) = true) := fun c h he => List.any_eq_true.2 ⟨c.ch, List.mem_map_of_mem h, he⟩
  have HK2 : Hid ((∀ c ∈ l, hitM m.mk' c.ch = false) → hitsM m.mk' (l.map Cx.ch) = false) := fun q => by
    cases hh : hitsM m.mk' (l.map Cx.ch) with
    | false => rfl
    | true =>
      obtain ⟨d, hd, he⟩ := List.any_eq_true.1 hh
      obtain ⟨c, h, rfl⟩ := List.mem_map.1 hd
      rw [q c h] at he
      cases he
  generalize hTM : hitsM m.mk' (l.map Cx.ch) = TT at *
  obtain ⟨mk, hmk⟩ : ∃ mk, m.mk' = mk := ⟨_, rfl⟩
  rw [hmk] at HHT HK1 HK2
  clear hm hc hv hbV h1 hs hTM hmk hw
  obtain ⟨kp, kc, ks, rp, rc, rs⟩ := m
  simp only [encMx, Mx.ksl, Mx.rsl] at *
  obtain ⟨_, _, _, _, a0, a1⟩ := HIN.out V (Below.refl _ _)
  go_enter Try.func42, Try.ntmps42
  go_wp2_with fail
  try rw [hV]
  try rw [hM]
  clear a0 a1 hV
  go_loopg [5] l.length (fun gg vi wr => ∃ i : Nat, vi = .int .i64 i ∧ i ≤ l.length ∧ l.length - i ≤ gg ∧ Hid (Below V.heap.size V wr ∧ ∀ x ∈ l.take i, hitM mk x.ch = false))
  case atStart => exact ⟨0, rfl, by omega, by omega, Below.refl _ _, fun x hx => by simp at hx⟩
  case round =>
    obtain ⟨i, rfl, hi, hgk, HI⟩ := hrel
    obtain ⟨_, his, _, _, a0, a1⟩ := HIN.out wr HI.out.1
    by_cases hlt : i < l.length
    · have hltz : (i : Int) < (l.length : Int) := by omega
      have hiz : (0 : Int) ≤ i := by omega
      obtain ⟨b7, o7, rfl, k7⟩ : ∃ b off, p = some ⟨b, off, none⟩ ∧ KCx.At wr b off l := by
        obtain ⟨p', c', he, h⟩ := his
        injection he with e1 _ _
        subst e1
        rcases h with h | h
        · rw [h] at hlt; simp at hlt
        · exact h
      obtain ⟨y0, y1, y2, y3, y4, y5⟩ := kcx_at k7 i hlt
      have hmem : l[i] ∈ l := List.getElem_mem hlt
      have htk : l.take (i + 1) = l.take i ++ [l[i]] := List.take_succ_eq_append_getElem hlt
      have HAT : Hid (∀ W', Below wr.heap.size wr W' → _) := fun W' hW => kcx_at (Kind.at_kept k7 hW) i hlt
      have HCT := hid (HHT.out wr.drew l[i] (bel_drewN HI.out.1 1) hmem)
      have HNO : Hid (hitM mk (l[i]).ch = false → ∀ x ∈ l.take (i + 1), hitM mk x.ch = false) := fun h x hx => by
        rw [htk] at hx
        rcases List.mem_append.1 hx with hx | hx
        · exact HI.out.2 x hx
        · rw [List.mem_singleton.1 hx]; exact h
      have HYES : Hid (hitM mk (l[i]).ch = true → TT = true) := fun h => HK1.out _ hmem h
      have HB := hid HI.out.1
      clear k7 hmem htk HI his
      generalize l[i] = x at *
      obtain ⟨ca, cb, wl, wp, wc, wo, il, ip, ic, io⟩ := x
      simp only [encCx] at *
      go_wp2_with fail
      refine wp_region_held_drew (S := fun w' => w'.cell? ⟨M, 0, none⟩ = some (.slice kp ks.length kc) ∧ w'.cell? ⟨M, 1, none⟩ = some (.slice rp rs.length rc) ∧ w'.cell? ⟨b7, o7 + i * 6, none⟩ = some (.string ca) ∧ w'.cell? ⟨b7, o7 + i * 6 + 1, none⟩ = some (.string cb) ∧ w'.cell? ⟨b7, o7 + i * 6 + 2, none⟩ = some (.bool wl) ∧ w'.cell? ⟨b7, o7 + i * 6 + 3, none⟩ = some (.slice wp wo.length wc) ∧ w'.cell? ⟨b7, o7 + i * 6 + 4, none⟩ = some (.bool il) ∧ w'.cell? ⟨b7, o7 + i * 6 + 5, none⟩ = some (.slice ip io.length ic)) (by kernel_rfl) ⟨a0, a1, y0, y1, y2, y3, y4, y5⟩ (fun hHeld => ?_)
      refine take_val (i := 0) (.agg #[.slice kp ks.length kc, .slice rp rs.length rc]) rfl (by kernel_rfl) (by kernel_rfl) (by kernel_rfl) (fun _ _ _ h => h) (by rfl) (fun w hSw => by go_simp) hHeld ?_
      simp only [Act.put, List.setIfInBounds_toArray, List.set_cons_zero, List.set_cons_succ]
      refine take_val (i := 1) (.slice (some ⟨b7, o7, none⟩) l.length cap) rfl (by kernel_rfl) (by kernel_rfl) (by kernel_rfl) (fun _ _ _ h => h) (by rfl) (fun w hSw => by go_simp) hHeld ?_
      simp only [Act.put, List.setIfInBounds_toArray, List.set_cons_zero, List.set_cons_succ]
      refine take_val (i := 2) (.int .i64 i) rfl (by kernel_rfl) (by kernel_rfl) (by kernel_rfl) (fun _ _ _ h => h) (by rfl) (fun w hSw => by go_simp) hHeld ?_
      simp only [Act.put, List.setIfInBounds_toArray, List.set_cons_zero, List.set_cons_succ]
      refine take_val (i := 3) (.pointer (some ⟨b7, o7 + i * 6, none⟩)) rfl (by kernel_rfl) (by kernel_rfl) (by kernel_rfl) (fun _ _ _ h => h) (by rfl) (fun w hSw => by go_simp) hHeld ?_
      simp only [Act.put, List.setIfInBounds_toArray, List.set_cons_zero, List.set_cons_succ]
      refine take_val (i := 4) (.agg #[.string ca, .string cb, .bool wl, .slice wp wo.length wc, .bool il, .slice ip io.length ic]) rfl (by kernel_rfl) (by kernel_rfl) (by kernel_rfl) (fun _ _ _ h => h) (by rfl) (fun w hSw => by go_simp) hHeld ?_
      simp only [Act.put, List.setIfInBounds_toArray, List.set_cons_zero, List.set_cons_succ]
      clear hHeld y0 y1 y2 y3 y4 y5 a0 a1
      refine wpAnyH_ready (rs := [5]) (by kernel_rfl) (by simp) ?_
      refine AllReadyH.cons (at_drop0 rfl) (fun K hK => ?_) AllReadyH.nil
      rw [if_pos (by rfl)]
      go_simp
      refine HCT.out.mono ?_
      rintro e w3 ⟨rfl, hb3⟩
      have hbr : Below wr.heap.size wr w3 := (bel_drewN (Below.refl _ _) 1).trans hb3
      have hb3' : Below V.heap.size V w3 := bel_then HB.out HB.out.size hbr
      obtain ⟨y0, y1, y2, y3, y4, y5⟩ := HAT.out w3 hbr
      obtain ⟨_, _, _, hbe, a0, a1⟩ := HIN.out w3 hb3'
      have HB3 := hid hb3'
      have HE := hid hbe
      clear hb3 hbr hb3' HCT HAT hbe
      cases hq : hitM mk (⟨ca, cb, wl, wp, wc, wo, il, ip, ic, io⟩ : Cx).ch with
      | true =>
        have HT := hid (HYES.out hq)
        clear hq HNO HYES
        go_wp2_with fail
        refine hK.out _ _ (⟨a0, a1, y0, y1, y2, y3, y4, y5⟩) (fun hHeld => ?_)
        clear hK K
        try simp only [Act.put, List.setIfInBounds_toArray, List.set_cons_zero, List.set_cons_succ]
        refine wpAnyH_done (by kernel_rfl) ?_ _
        clear hHeld
        go_wp2_with fail
        go_ret
        first | exact ⟨ret_bool HT.out.symm, HE.out⟩ | exact ⟨ret_bool HT.out.symm, by rw [← hM]; exact HE.out⟩
      | false =>
        have HN := hid (HNO.out hq)
        clear hq HNO HYES
        go_wp2_with fail
        refine hK.out _ _ (⟨a0, a1, y0, y1, y2, y3, y4, y5⟩) (fun hHeld => ?_)
        clear hK K
        try simp only [Act.put, List.setIfInBounds_toArray, List.set_cons_zero, List.set_cons_succ]
        refine wpAnyH_done (by kernel_rfl) ?_ _
        clear hHeld
        go_wp2_with fail
        go_roundg (l.length - (i + 1))
        case measure => omega
        exact ⟨i + 1, by go_num, by omega, by omega, HB3.out, HN.out⟩
    · have hltz : ¬ (i : Int) < (l.length : Int) := by omega
      have hti : l.take i = l := List.take_of_length_le (by omega)
      have hno := HI.out.2
      rw [hti] at hno
      have HT := hid (HK2.out hno)
      have HE := hid (HIN.out wr HI.out.1).2.2.2.1
      clear hti hno HI his
      go_wp2_with fail
      go_ret
      first | exact ⟨ret_bool HT.out.symm, HE.out⟩ | exact ⟨ret_bool HT.out.symm, by rw [← hM]; exact HE.out⟩

end Go.Proofs.Ytmihddbnddgfhaa

/-
  The reference's marks (stage 12): Which, Equal.
-/
namespace Go.Proofs.Ytmihddbnddgfhaa
open Go.RowKit

theorem which_len (m : Mk) (l : List Ch) : ∀ (a : List Ky), (l.foldl (fun acc c => if hitM m c then insR ltKy c.key acc else acc) a).length ≤ a.length + l.length := by
  induction l with
  | nil => intro a; simp
  | cons c l ih =>
    intro a
    rw [List.foldl_cons, List.length_cons]
    by_cases hc : hitM m c = true
    · rw [if_pos hc]
      have h1 := ih (insR ltKy c.key a)
      have h2 := insK_len c.key a
      omega
    · rw [if_neg hc]
      have h1 := ih a
      omega

set_option maxHeartbeats 8000000 in
set_option maxRecDepth 100000 in
theorem equal12_any (a b : Mx) (w : World) (ha : MIn w a) (hb : MIn w b) (hfa : LenM a) (hfb : LenM b) :
    Calls Try.prog 30 #[.agg (encMx a).toArray, .agg (encMx b).toArray] w fun e w' => e = .returned (.bool (decide (a.mk' = b.mk'))) ∧ Below w.heap.size w w' := by
  obtain ⟨hbV, h1, h2, hs⟩ := two_boxes w (encMx a).toArray (encMx b).toArray 32 32
  obtain ⟨V, hV⟩ : ∃ V, (w.alloc (.cells (encMx a).toArray 32)).alloc (.cells (encMx b).toArray 32) = V := ⟨_, rfl⟩
  obtain ⟨M, hM⟩ : ∃ M, w.heap.size = M := ⟨_, rfl⟩
  rw [hV] at hbV h1 h2 hs
  rw [hM] at h1 h2 hs
  obtain ⟨hfa1, hfa2⟩ := hfa
  obtain ⟨hfb1, hfb2⟩ := hfb
  have HIN : Hid (∀ W', Below V.heap.size V W' → MIn W' a ∧ MIn W' b ∧ Below w.heap.size w W' ∧ (W'.cell? ⟨M, 0, none⟩ = some a.ksl ∧ W'.cell? ⟨M, 1, none⟩ = some a.rsl) ∧ W'.cell? ⟨M + 1, 0, none⟩ = some b.ksl ∧ W'.cell? ⟨M + 1, 1, none⟩ = some b.rsl) := fun W' hW => by
    have hb' : Below w.heap.size w W' := bel_then hbV hbV.size hW
    have e1 := (hW.block M (by omega)).trans h1
    have e2 := (hW.block (M + 1) (by omega)).trans h2
    exact ⟨ha.on hb', hb.on hb', hb', ⟨by rw [Lib.cell_of_heap e1]; rfl, by rw [Lib.cell_of_heap e1]; rfl⟩, by rw [Lib.cell_of_heap e2]; rfl, by rw [Lib.cell_of_heap e2]; rfl⟩
  have HSK := hid (Z.zsame_any a.ksl b.ksl a.ks b.ks V (keys_isZ12 (HIN.out V (Below.refl _ _)).1.keys) (keys_isZ12 (HIN.out V (Below.refl _ _)).2.1.keys) (by unfold maxLen; omega) (by unfold maxLen; omega))
  have HSR : Hid (∀ W' x y, Below V.heap.size V W' → x ∈ a.rs → y ∈ b.rs → Calls Try.prog 44 #[.agg (encRx x).toArray, .agg (encRx y).toArray] W' fun e w' => e = .returned (.bool (decide (x.rg = y.rg))) ∧ Below W'.heap.size W' w') := fun W' x y hW hx hy => same12_any x y W' ((HIN.out W' hW).1.each x hx) ((HIN.out W' hW).2.1.each y hy)
  have HK1 : Hid (¬ a.ks = b.ks → decide (a.mk' = b.mk') = false) := fun h => decide_eq_false fun e => h (congrArg Prod.fst e)
  have HK2 : Hid (¬ a.rs.length = b.rs.length → decide (a.mk' = b.mk') = false) := fun h => decide_eq_false fun e => h (by
    have := congrArg List.length (congrArg Prod.snd e)
    simpa [Mx.mk'] using this)
  have HK3 : Hid (∀ i, (h : i < a.rs.length) → (h' : i < b.rs.length) → ¬ (a.rs[i]).rg = (b.rs[i]).rg → decide (a.mk' = b.mk') = false) := fun i h h' hne => decide_eq_false fun e => hne (by
    have e2 : a.rs.map Rx.rg = b.rs.map Rx.rg := congrArg Prod.snd e
    have e3 : (a.rs.map Rx.rg)[i]? = (b.rs.map Rx.rg)[i]? := by rw [e2]
    rw [List.getElem?_map, List.getElem?_map, List.getElem?_eq_getElem h, List.getElem?_eq_getElem h'] at e3
    exact Option.some.inj e3)
  have HK4 : Hid (a.ks = b.ks → (hl : a.rs.length = b.rs.length) → (∀ i, (h : i < a.rs.length) → (a.rs[i]).rg = (b.rs[i]'(by omega)).rg) → decide (a.mk' = b.mk') = true) := fun h hl hr => decide_eq_true (by
    have : a.rs.map Rx.rg = b.rs.map Rx.rg := List.ext_getElem (by rw [List.length_map, List.length_map]; exact hl) fun i h1 h2 => by
      rw [List.getElem_map, List.getElem_map]
      exact hr i (by simpa using h1)
    show (a.ks, a.rs.map Rx.rg) = (b.ks, b.rs.map Rx.rg)
    rw [h, this])
  generalize hTM : decide (a.mk' = b.mk') = TT at *
  clear ha hb hbV h1 h2 hs hTM
  obtain ⟨kp, kc, ks, rp, rc, rs⟩ := a
  obtain ⟨lp, lc, ls, sp, sc, ss⟩ := b
  simp only [encMx, Mx.ksl, Mx.rsl] at *
  obtain ⟨_, _, hbe, ⟨a0, a1⟩, b0, b1⟩ := HIN.out V (Below.refl _ _)
  have HBE := hid hbe
  clear hbe
  go_enter Try.func30, Try.ntmps30
  go_wp2_with fail
  try rw [hV]
  clear a0 a1 b0 b1 hV
  refine HSK.out.mono ?_
  rintro e w1 ⟨rfl, n, rfl⟩
  obtain ⟨w1, hw1⟩ : ∃ w1, V.drewN n = w1 := ⟨_, rfl⟩
  have hb1 : Below V.heap.size V w1 := by rw [← hw1]; exact bel_drewN (Below.refl _ _) n
  obtain ⟨_, _, hbe, ⟨a0, a1⟩, b0, b1⟩ := HIN.out w1 hb1
  have HBE1 := hid hbe
  have HB1 := hid hb1
  rw [hw1]
  clear hbe hb1 hw1 HSK
  by_cases hk : ks = ls
  · rw [decide_eq_true hk]
    by_cases hr : rs.length = ss.length
    · have hrz : ((rs.length : Int) != (ss.length : Int)) = false := by simp [hr]
      have HRL := hid hr
      have HKE := hid hk
      clear hr hk
      go_wp2_with fail
      clear a0 a1 b0 b1 hrz
      go_loopg [5] rs.length (fun gg vi wr => ∃ i : Nat, vi = .int .i64 i ∧ i ≤ rs.length ∧ rs.length - i ≤ gg ∧ Hid (Below V.heap.size V wr ∧ ∀ j, (h : j < rs.length) → (h' : j < ss.length) → j < i → (rs[j]).rg = (ss[j]).rg))
      case atStart => exact ⟨0, rfl, by omega, by omega, HB1.out, fun j _ _ h => by omega⟩
      case round =>
        obtain ⟨i, rfl, hi, hgk, HI⟩ := hrel
        obtain ⟨hma, hmb, hbe, ⟨a0, a1⟩, b0, b1⟩ := HIN.out wr HI.out.1
        by_cases hlt : i < rs.length
        · have hltz : (i : Int) < (rs.length : Int) := by omega
          have hlt2 : i < ss.length := by have := HRL.out; omega
          have hltz2 : (i : Int) < (ss.length : Int) := by omega
          have hiz : (0 : Int) ≤ i := by omega
          obtain ⟨b7, o7, rfl, k7⟩ : ∃ b off, rp = some ⟨b, off, none⟩ ∧ KRx.At wr b off rs := by
            obtain ⟨p', c', he, h⟩ := hma.rows
            injection he with e1 _ _
            subst e1
            rcases h with h | h
            · have h' : rs = [] := h
              rw [h'] at hlt; simp at hlt
            · exact h
          obtain ⟨b8, o8, rfl, k8⟩ : ∃ b off, sp = some ⟨b, off, none⟩ ∧ KRx.At wr b off ss := by
            obtain ⟨p', c', he, h⟩ := hmb.rows
            injection he with e1 _ _
            subst e1
            rcases h with h | h
            · have h' : ss = [] := h
              rw [h'] at hlt2; simp at hlt2
            · exact h
          obtain ⟨y0, y1⟩ := krx_at k7 i hlt
          obtain ⟨z0, z1⟩ := krx_at k8 i hlt2
          have HAT : Hid (∀ W', Below wr.heap.size wr W' → (W'.cell? ⟨b7, o7 + i * 2, none⟩ = some (.string (rs[i]).typ) ∧ W'.cell? ⟨b7, o7 + i * 2 + 1, none⟩ = some (rs[i]).sl) ∧ W'.cell? ⟨b8, o8 + i * 2, none⟩ = some (.string (ss[i]).typ) ∧ W'.cell? ⟨b8, o8 + i * 2 + 1, none⟩ = some (ss[i]).sl) := fun W' hW => ⟨krx_at (Kind.at_kept k7 hW) i hlt, krx_at (Kind.at_kept k8 hW) i hlt2⟩
          have HCS := hid (HSR.out wr.drew rs[i] ss[i] (bel_drewN HI.out.1 1) (List.getElem_mem hlt) (List.getElem_mem hlt2))
          have HNO : Hid (¬ (rs[i]).rg = (ss[i]).rg → TT = false) := fun h => HK3.out i hlt hlt2 h
          have HYES : Hid ((rs[i]).rg = (ss[i]).rg → ∀ j, (h : j < rs.length) → (h' : j < ss.length) → j < i + 1 → (rs[j]).rg = (ss[j]).rg) := fun h j h1 h2 h3 => by
            by_cases e : j = i
            · subst e; exact h
            · exact HI.out.2 j h1 h2 (by omega)
          have HB := hid HI.out.1
          clear hma hmb hbe k7 k8 HI
          generalize rs[i] = x at *
          generalize ss[i] = y at *
          obtain ⟨xt, xp, xc, xm⟩ := x
          obtain ⟨yt, yp, yc, ym⟩ := y
          simp only [encRx, Rx.sl] at *
          go_wp2_with fail
          refine wp_region_held_drew (S := fun w' => w'.cell? ⟨M, 1, none⟩ = some (.slice (some ⟨b7, o7, none⟩) rs.length rc) ∧ w'.cell? ⟨M + 1, 1, none⟩ = some (.slice (some ⟨b8, o8, none⟩) ss.length sc) ∧ w'.cell? ⟨b7, o7 + i * 2, none⟩ = some (.string xt) ∧ w'.cell? ⟨b7, o7 + i * 2 + 1, none⟩ = some (.slice xp xm.length xc) ∧ w'.cell? ⟨b8, o8 + i * 2, none⟩ = some (.string yt) ∧ w'.cell? ⟨b8, o8 + i * 2 + 1, none⟩ = some (.slice yp ym.length yc)) (by kernel_rfl) ⟨a1, b1, y0, y1, z0, z1⟩ (fun hHeld => ?_)
          refine take_val (i := 0) (.pointer (some ⟨M, 1, none⟩)) rfl (by kernel_rfl) (by kernel_rfl) (by kernel_rfl) (fun _ _ _ h => h) (by rfl) (fun w hSw => by go_simp) hHeld ?_
          simp only [Act.put, List.setIfInBounds_toArray, List.set_cons_zero, List.set_cons_succ]
          refine take_val (i := 1) (.slice (some ⟨b7, o7, none⟩) rs.length rc) rfl (by kernel_rfl) (by kernel_rfl) (by kernel_rfl) (fun _ _ _ h => h) (by rfl) (fun w hSw => by go_simp) hHeld ?_
          simp only [Act.put, List.setIfInBounds_toArray, List.set_cons_zero, List.set_cons_succ]
          refine take_val (i := 2) (.int .i64 i) rfl (by kernel_rfl) (by kernel_rfl) (by kernel_rfl) (fun _ _ _ h => h) (by rfl) (fun w hSw => by go_simp) hHeld ?_
          simp only [Act.put, List.setIfInBounds_toArray, List.set_cons_zero, List.set_cons_succ]
          refine take_val (i := 3) (.pointer (some ⟨b7, o7 + i * 2, none⟩)) rfl (by kernel_rfl) (by kernel_rfl) (by kernel_rfl) (fun _ _ _ h => h) (by rfl) (fun w hSw => by go_simp) hHeld ?_
          simp only [Act.put, List.setIfInBounds_toArray, List.set_cons_zero, List.set_cons_succ]
          refine take_val (i := 4) (.agg #[.string xt, .slice xp xm.length xc]) rfl (by kernel_rfl) (by kernel_rfl) (by kernel_rfl) (fun _ _ _ h => h) (by rfl) (fun w hSw => by go_simp) hHeld ?_
          simp only [Act.put, List.setIfInBounds_toArray, List.set_cons_zero, List.set_cons_succ]
          refine take_val (i := 5) (.pointer (some ⟨M + 1, 1, none⟩)) rfl (by kernel_rfl) (by kernel_rfl) (by kernel_rfl) (fun _ _ _ h => h) (by rfl) (fun w hSw => by go_simp) hHeld ?_
          simp only [Act.put, List.setIfInBounds_toArray, List.set_cons_zero, List.set_cons_succ]
          refine take_val (i := 6) (.slice (some ⟨b8, o8, none⟩) ss.length sc) rfl (by kernel_rfl) (by kernel_rfl) (by kernel_rfl) (fun _ _ _ h => h) (by rfl) (fun w hSw => by go_simp) hHeld ?_
          simp only [Act.put, List.setIfInBounds_toArray, List.set_cons_zero, List.set_cons_succ]
          refine take_val (i := 7) (.int .i64 i) rfl (by kernel_rfl) (by kernel_rfl) (by kernel_rfl) (fun _ _ _ h => h) (by rfl) (fun w hSw => by go_simp) hHeld ?_
          simp only [Act.put, List.setIfInBounds_toArray, List.set_cons_zero, List.set_cons_succ]
          refine take_val (i := 8) (.pointer (some ⟨b8, o8 + i * 2, none⟩)) rfl (by kernel_rfl) (by kernel_rfl) (by kernel_rfl) (fun _ _ _ h => h) (by rfl) (fun w hSw => by go_simp) hHeld ?_
          simp only [Act.put, List.setIfInBounds_toArray, List.set_cons_zero, List.set_cons_succ]
          refine take_val (i := 9) (.agg #[.string yt, .slice yp ym.length yc]) rfl (by kernel_rfl) (by kernel_rfl) (by kernel_rfl) (fun _ _ _ h => h) (by rfl) (fun w hSw => by go_simp) hHeld ?_
          simp only [Act.put, List.setIfInBounds_toArray, List.set_cons_zero, List.set_cons_succ]
          clear hHeld y0 y1 z0 z1 a0 a1 b0 b1
          refine wpAnyH_ready (rs := [10]) (by kernel_rfl) (by simp) ?_
          refine AllReadyH.cons (at_drop0 rfl) (fun K hK => ?_) AllReadyH.nil
          rw [if_pos (by rfl)]
          go_simp
          refine HCS.out.mono ?_
          rintro e w3 ⟨rfl, hb3⟩
          have hbr : Below wr.heap.size wr w3 := (bel_drewN (Below.refl _ _) 1).trans hb3
          have hb3' : Below V.heap.size V w3 := bel_then HB.out HB.out.size hbr
          obtain ⟨⟨y0, y1⟩, z0, z1⟩ := HAT.out w3 hbr
          obtain ⟨_, _, hbe, ⟨a0, a1⟩, b0, b1⟩ := HIN.out w3 hb3'
          have HB3 := hid hb3'
          have HE := hid hbe
          clear hb3 hbr hb3' HCS HAT hbe
          by_cases hq : (⟨xt, xp, xc, xm⟩ : Rx).rg = (⟨yt, yp, yc, ym⟩ : Rx).rg
          · rw [decide_eq_true hq]
            have HY := hid (HYES.out hq)
            clear hq HNO HYES
            go_wp2_with fail
            refine hK.out _ _ (⟨a1, b1, y0, y1, z0, z1⟩) (fun hHeld => ?_)
            clear hK K
            try simp only [Act.put, List.setIfInBounds_toArray, List.set_cons_zero, List.set_cons_succ]
            refine take_val (i := 11) (.bool false) rfl (by kernel_rfl) (by kernel_rfl) (by kernel_rfl) (fun _ _ _ h => h) (by rfl) (fun w hSw => by go_simp) hHeld ?_
            simp only [Act.put, List.setIfInBounds_toArray, List.set_cons_zero, List.set_cons_succ]
            refine wpAnyH_done (by kernel_rfl) ?_ _
            clear hHeld
            go_wp2_with fail
            go_roundg (rs.length - (i + 1))
            case measure => omega
            exact ⟨i + 1, by go_num, by omega, by omega, HB3.out, HY.out⟩
          · rw [decide_eq_false hq]
            have HT := hid (HNO.out hq)
            clear hq HNO HYES
            go_wp2_with fail
            refine hK.out _ _ (⟨a1, b1, y0, y1, z0, z1⟩) (fun hHeld => ?_)
            clear hK K
            try simp only [Act.put, List.setIfInBounds_toArray, List.set_cons_zero, List.set_cons_succ]
            refine take_val (i := 11) (.bool true) rfl (by kernel_rfl) (by kernel_rfl) (by kernel_rfl) (fun _ _ _ h => h) (by rfl) (fun w hSw => by go_simp) hHeld ?_
            simp only [Act.put, List.setIfInBounds_toArray, List.set_cons_zero, List.set_cons_succ]
            refine wpAnyH_done (by kernel_rfl) ?_ _
            clear hHeld
            go_wp2_with fail
            go_ret
            first | exact ⟨ret_bool HT.out.symm, HE.out⟩ | exact ⟨ret_bool HT.out.symm, by rw [← hM]; exact HE.out⟩
        · have hltz : ¬ (i : Int) < (rs.length : Int) := by omega
          have HT := hid (HK4.out HKE.out HRL.out fun j h => HI.out.2 j h (by have h2 : rs.length = ss.length := HRL.out; have h3 : j < rs.length := h; omega) (by have h3 : j < rs.length := h; omega))
          have HE := hid hbe
          clear hma hmb hbe HI
          go_wp2_with fail
          go_ret
          first | exact ⟨ret_bool HT.out.symm, HE.out⟩ | exact ⟨ret_bool HT.out.symm, by rw [← hM]; exact HE.out⟩
    · have hrz : ((rs.length : Int) != (ss.length : Int)) = true := by simp; omega
      have HT := hid (HK2.out hr)
      clear hr
      go_wp2_with fail
      go_ret
      first | exact ⟨ret_bool HT.out.symm, HBE1.out⟩ | exact ⟨ret_bool HT.out.symm, by rw [← hM]; exact HBE1.out⟩
  · rw [decide_eq_false hk]
    have HT := hid (HK1.out hk)
    clear hk
    go_wp2_with fail
    go_ret
    first | exact ⟨ret_bool HT.out.symm, HBE1.out⟩ | exact ⟨ret_bool HT.out.symm, by rw [← hM]; exact HBE1.out⟩

end Go.Proofs.Ytmihddbnddgfhaa

/-
  The reference's marks (stage 12): Key, Range.
-/
namespace Go.Proofs.Ytmihddbnddgfhaa
open Go.RowKit

/-- What a function that answers marks leaves: the ranges' row is new, their terms lie where they lay. -/
def Rx.atP (Pr : Rx → Prop) (W : World) (x : Rx) : Prop := x.at W ∧ Pr x
theorem Rx.atP.on {Pr : Rx → Prop} {W W' : World} {x : Rx} (h : x.atP Pr W) (hb : Below W.heap.size W W') : x.at W' := h.1.on hb
def MarkPost (Pr : Rx → Prop) (Kr : Value → List Ky → Prop) (W : World) (mk : Mk) (e : Ending) (w' : World) : Prop :=
  ∃ m, e = .returned (.agg (encMx m).toArray) ∧ MIn w' m ∧ m.mk' = mk ∧ Below W.heap.size W w' ∧ (KK.Own W.heap.size w' m.ksl m.ks ∨ (KK.Is W m.ksl m.ks ∧ Kr m.ksl m.ks)) ∧ KRx.Own W.heap.size w' m.rsl m.rs ∧ ∀ r ∈ m.rs, r.atP Pr W

theorem own_cell {α : Type} {K : Kind α} {N : Nat} {w : World} {v : Value} {d : List α} (h : K.Own N w v d) {b : Nat} (hb : b < N) (j : Nat) (x : Value) : K.Own N (w.setCell ⟨b, j, none⟩ x) v d :=
  Fr.row (P := fun k => k = b) (Fr.of_grown (grown_set w b j x) fun k hk => by simpa using hk.symm) (show w.ownsRow N K.T K.k v d.length (K.cells d) from h) fun k hk e => by
    have := (World.ownsRow.lt (show w.ownsRow N K.T K.k v d.length (K.cells d) from h) k hk).1
    omega

/-- Two boxes and room for the answer. -/
theorem three_boxes (w : World) (c1 c2 c3 : Array Value) (t1 t2 t3 : TypeId) (V : World) (hV : ((w.alloc (.cells c1 t1)).alloc (.cells c2 t2)).alloc (.cells c3 t3) = V) : Below w.heap.size w V ∧ V.heap[w.heap.size]? = some (.cells c1 t1 (0, 0)) ∧ V.heap[w.heap.size + 1]? = some (.cells c2 t2 (0, 0)) ∧ V.heap[w.heap.size + 2]? = some (.cells c3 t3 (0, 0)) ∧ V.heap.size = w.heap.size + 3 := by
  obtain ⟨h1, h2, h3, h4⟩ := two_boxes w c1 c2 t1 t2
  generalize (w.alloc (.cells c1 t1)).alloc (.cells c2 t2) = U at *
  subst hV
  have hb : Below U.heap.size U (U.alloc (.cells c3 t3)) := (Below.refl _ _).alloc (Nat.le_refl _) _
  have h5 : (U.alloc (.cells c3 t3)).heap[U.heap.size]? = some (.cells c3 t3 (0, 0)) := heap_alloc_new U _
  rw [h4] at h5
  exact ⟨bel_then h1 h1.size hb, (hb.block _ (by omega)).trans h2, (hb.block _ (by omega)).trans h3, h5, by simp; omega⟩

end Go.Proofs.Ytmihddbnddgfhaa

/-
  The reference's marks (stage 12): Union.
-/
namespace Go.Proofs.Ytmihddbnddgfhaa
open Go.RowKit

/-- On the way: of V's blocks only the local marks' has turned, and they say kv, rv. -/
structure UnSt (V : World) (G : Nat) (kv rv : Value) (w : World) : Prop where
  fr : Fr (fun k => k = G) V w
  loc : w.heap[G]? = some (.cells #[kv, rv] 32 (0, 0))

section
variable {V : World} {G : Nat} {kv rv : Value} {w : World}
theorem UnSt.on {w' : World} (h : UnSt V G kv rv w) (hG : G < V.heap.size) (hb : Below V.heap.size w w') : UnSt V G kv rv w' :=
  ⟨h.fr.then (Q := fun k => V.heap.size ≤ k) ⟨hb.os, hb.tape, hb.output, hb.size, fun k _ hn => hb.block k (by omega)⟩ fun _ hk => Or.inr hk, (hb.block G hG).trans h.loc⟩
theorem UnSt.key (h : UnSt V G kv rv w) (x : Value) : UnSt V G x rv (w.setCell ⟨G, 0, none⟩ x) :=
  ⟨h.fr.then (Q := fun k => k = G) ⟨rfl, rfl, rfl, by simp, fun k _ hn => heap_setCell_other w _ k _ hn⟩ fun k hk => Or.inl hk, heap_setCell_same w G 0 _ _ x h.loc⟩
theorem UnSt.row (h : UnSt V G kv rv w) (x : Value) : UnSt V G kv x (w.setCell ⟨G, 1, none⟩ x) :=
  ⟨h.fr.then (Q := fun k => k = G) ⟨rfl, rfl, rfl, by simp, fun k _ hn => heap_setCell_other w _ k _ hn⟩ fun k hk => Or.inl hk, heap_setCell_same w G 1 _ _ x h.loc⟩
theorem UnSt.cells (h : UnSt V G kv rv w) : (w.cell? ⟨G, 0, none⟩ = some kv ∧ w.cell? ⟨G, 1, none⟩ = some rv) ∧ w.frozen? ⟨G, 0, none⟩ = false ∧ w.frozen? ⟨G, 1, none⟩ = false :=
  ⟨⟨by rw [Lib.cell_of_heap h.loc]; rfl, by rw [Lib.cell_of_heap h.loc]; rfl⟩, Lib.frozen_of_heap h.loc 0, Lib.frozen_of_heap h.loc 1⟩
theorem UnSt.then {V' : World} {kv' rv' : Value} (h : UnSt V G kv rv V') (h' : UnSt V' G kv' rv' w) : UnSt V G kv' rv' w :=
  ⟨h.fr.then h'.fr fun _ hk => Or.inl hk, h'.loc⟩
end

/-- Four boxes. -/
theorem four_boxes (w : World) (c1 c2 c3 c4 : Array Value) (t : TypeId) (V : World) (hV : (((w.alloc (.cells c1 t)).alloc (.cells c2 t)).alloc (.cells c3 t)).alloc (.cells c4 t) = V) : Below w.heap.size w V ∧ V.heap[w.heap.size]? = some (.cells c1 t (0, 0)) ∧ V.heap[w.heap.size + 1]? = some (.cells c2 t (0, 0)) ∧ V.heap[w.heap.size + 2]? = some (.cells c3 t (0, 0)) ∧ V.heap[w.heap.size + 3]? = some (.cells c4 t (0, 0)) ∧ V.heap.size = w.heap.size + 4 := by
  obtain ⟨U, hU⟩ : ∃ U, ((w.alloc (.cells c1 t)).alloc (.cells c2 t)).alloc (.cells c3 t) = U := ⟨_, rfl⟩
  obtain ⟨h1, h2, h3, h4, h5⟩ := three_boxes w c1 c2 c3 t t t U hU
  rw [hU] at hV
  subst hV
  have hb : Below U.heap.size U (U.alloc (.cells c4 t)) := (Below.refl _ _).alloc (Nat.le_refl _) _
  have h6 : (U.alloc (.cells c4 t)).heap[U.heap.size]? = some (.cells c4 t (0, 0)) := heap_alloc_new U _
  rw [h5] at h6
  exact ⟨bel_then h1 h1.size hb, (hb.block _ (by omega)).trans h2, (hb.block _ (by omega)).trans h3, (hb.block _ (by omega)).trans h4, h6, by simp; omega⟩

end Go.Proofs.Ytmihddbnddgfhaa

/-
  What the laws of stage 12 lean on of package marks: its calls. (Filled in where the package has landed.)
-/
namespace Go.Proofs.Ytmihddbnddgfhaa
open Go.RowKit

/-- No two ranges share their terms' memory. -/
def ApartR (l : List Rx) : Prop := l.Pairwise fun x y => ∀ k, x.sl.ownBlock = some k → ¬ y.sl.ownBlock = some k

/-- Marks in memory of their own. -/
structure MOwn (N : Nat) (W : World) (m : Mx) : Prop where
  keys : KK.Own N W m.ksl m.ks
  rows : KRx.Own N W m.rsl m.rs
  each : ∀ r ∈ m.rs, KM.Own N W r.sl r.tm ∧ FitP r.tm
  apart : ApartR m.rs
theorem MOwn.inn {N : Nat} {W : World} {m : Mx} (h : MOwn N W m) : MIn W m := ⟨Kind.own_is h.keys, Kind.own_is h.rows, fun r hr => ⟨Kind.own_is (h.each r hr).1, (h.each r hr).2⟩⟩
theorem MOwn.on {N : Nat} {W W' : World} {m : Mx} (h : MOwn N W m) (hb : Below W.heap.size W W') : MOwn N W' m := ⟨Kind.own_on h.keys hb, Kind.own_on h.rows hb, fun r hr => ⟨Kind.own_on (h.each r hr).1 hb, (h.each r hr).2⟩, h.apart⟩
theorem MOwn.fr {N : Nat} {W W' : World} {m : Mx} {P : Nat → Prop} (h : MOwn N W m) (f : Fr P W W') (hP : ∀ k, P k → k < N) : MOwn N W' m := by
  refine ⟨f.row (show W.ownsRow N KK.T KK.k m.ksl m.ks.length (KK.cells m.ks) from h.keys) fun k hk hp => ?_, f.row (show W.ownsRow N KRx.T KRx.k m.rsl m.rs.length (KRx.cells m.rs) from h.rows) fun k hk hp => ?_, fun r hr => ⟨f.row (show W.ownsRow N KM.T KM.k r.sl r.tm.length (KM.cells r.tm) from (h.each r hr).1) fun k hk hp => ?_, (h.each r hr).2⟩, h.apart⟩
  · have h1 := (World.ownsRow.lt (show W.ownsRow N KK.T KK.k m.ksl m.ks.length (KK.cells m.ks) from h.keys) k hk).1
    have h2 := hP k hp
    omega
  · have h1 := (World.ownsRow.lt (show W.ownsRow N KRx.T KRx.k m.rsl m.rs.length (KRx.cells m.rs) from h.rows) k hk).1
    have h2 := hP k hp
    omega
  · have h1 := (World.ownsRow.lt (show W.ownsRow N KM.T KM.k r.sl r.tm.length (KM.cells r.tm) from (h.each r hr).1) k hk).1
    have h2 := hP k hp
    omega

/-- What a function of package marks that answers marks leaves. -/
def MOwnPost (W : World) (mk : Mk) (e : Ending) (w' : World) : Prop :=
  ∃ m, e = .returned (.agg (encMx m).toArray) ∧ MOwn W.heap.size w' m ∧ m.mk' = mk ∧ Below W.heap.size W w'
/-- What a function that answers a bool leaves. -/
def BoolPost (W : World) (b : Bool) (e : Ending) (w' : World) : Prop := e = .returned (.bool b) ∧ Below W.heap.size W w'

/-- Changes that came in. -/
structure ChgIn (W : World) (v : Value) (l : List Cx) : Prop where
  is : KCx.Is W v l
  each : ∀ c ∈ l, CIn W c
theorem ChgIn.on {W W' : World} {v : Value} {l : List Cx} (h : ChgIn W v l) (hb : Below W.heap.size W W') : ChgIn W' v l := ⟨Kind.is_kept h.is hb, fun c hc => (h.each c hc).on hb⟩

def FitKy12 (k : Ky) : Prop := k.1.size ≤ maxLen ∧ k.2.size ≤ maxLen

end Go.Proofs.Ytmihddbnddgfhaa

/-
  Chains (stage 6), without the program: versions whose stamps rise; what is visible at a stamp, since a stamp, and what a prune leaves.
-/
namespace Go.Proofs.Ytmihddbnddgfhaa

structure Vr where
  num : Int
  stamp : Int
  tick : Int
  live : Bool
  val : List (ByteArray × List ByteArray)
  deriving Inhabited, DecidableEq

/-- The version that there is none: what Go's zero value is. -/
def zeroV : Vr := ⟨0, 0, 0, false, []⟩

/-- How many stand at or below t, from the first on. -/
def cutV (l : List Vr) (t : Int) : Nat := (l.takeWhile fun v => decide (v.stamp ≤ t)).length
def atV (l : List Vr) (t : Int) : Option Vr := if cutV l t = 0 then none else l[cutV l t - 1]?
def sinceV (l : List Vr) (t : Int) : List Vr := l.drop (cutV l t)
def pruneN (l : List Vr) (f : Int) : Nat := cutV l f - 1
def pruneV (l : List Vr) (f : Int) : List Vr := l.drop (pruneN l f)

def RiseV (l : List Vr) : Prop := l.Pairwise fun a b => a.stamp < b.stamp

/-- What holds of every chain. -/
structure OkV (l : List Vr) : Prop where
  rise : RiseV l
  nums : ∀ i, (h : i + 1 < l.length) → (l[i + 1]).num = (l[i]'(by omega)).num + 1
  two : ∀ i, (h : i + 1 < l.length) → (l[i + 1]).live = true ∨ (l[i]'(by omega)).live = true
  first : ∀ v ∈ l, 1 ≤ v.num ∧ 0 < v.stamp ∧ (v.num = 1 → v.live = true) ∧ (v.live = false → v.val = [])

theorem rise_lt {l : List Vr} (h : RiseV l) {i j : Nat} (hij : i < j) (hj : j < l.length) : (l[i]'(by omega)).stamp < (l[j]).stamp := List.pairwise_iff_getElem.1 h i j (by omega) hj hij

theorem cutV_le (l : List Vr) (t : Int) : cutV l t ≤ l.length := by
  unfold cutV
  exact (List.takeWhile_prefix _).length_le

theorem cutV_cons (v : Vr) (l : List Vr) (t : Int) : cutV (v :: l) t = if v.stamp ≤ t then cutV l t + 1 else 0 := by
  unfold cutV
  by_cases h : v.stamp ≤ t
  · rw [List.takeWhile_cons_of_pos (by simpa using h), if_pos h]; rfl
  · rw [List.takeWhile_cons_of_neg (by simpa using h), if_neg h]; rfl

/-- Those ahead of the cut stand at or below t. -/
theorem cutV_below : ∀ (l : List Vr) (t : Int) (i : Nat) (h : i < l.length), i < cutV l t → (l[i]).stamp ≤ t
  | [], _, i, h, _ => by simp at h
  | v :: l, t, i, h, hc => by
    rw [cutV_cons] at hc
    by_cases hv : v.stamp ≤ t
    · rw [if_pos hv] at hc
      cases i with
      | zero => exact hv
      | succ i => exact cutV_below l t i (by simpa using h) (by omega)
    · rw [if_neg hv] at hc; omega

/-- Those behind it above. -/
theorem cutV_above : ∀ (l : List Vr), RiseV l → ∀ (t : Int) (i : Nat) (h : i < l.length), cutV l t ≤ i → t < (l[i]).stamp
  | [], _, _, i, h, _ => by simp at h
  | v :: l, hr, t, i, h, hc => by
    obtain ⟨h1, h2⟩ := List.pairwise_cons.1 hr
    rw [cutV_cons] at hc
    by_cases hv : v.stamp ≤ t
    · rw [if_pos hv] at hc
      cases i with
      | zero => omega
      | succ i => exact cutV_above l h2 t i (by simpa using h) (by omega)
    · cases i with
      | zero => exact Int.not_le.1 hv
      | succ i =>
        have := h1 (l[i]'(by simpa using h)) (List.getElem_mem _)
        simp only [List.getElem_cons_succ]
        omega

theorem cutV_uniq {l : List Vr} (hr : RiseV l) {t : Int} {n : Nat} (hn : n ≤ l.length) (h1 : ∀ i, (h : i < l.length) → i < n → (l[i]).stamp ≤ t) (h2 : ∀ i, (h : i < l.length) → n ≤ i → t < (l[i]).stamp) : cutV l t = n := by
  have hc := cutV_le l t
  rcases Nat.lt_trichotomy (cutV l t) n with h | h | h
  · have a := h1 (cutV l t) (by omega) h
    have b := cutV_above l hr t (cutV l t) (by omega) (Nat.le_refl _)
    omega
  · exact h
  · have a := h2 n (by omega) (Nat.le_refl _)
    have b := cutV_below l t n (by omega) h
    omega

theorem rise_drop {l : List Vr} (h : RiseV l) (n : Nat) : RiseV (l.drop n) := h.sublist (List.drop_sublist n l)

theorem cutV_drop {l : List Vr} (hr : RiseV l) {t : Int} {n : Nat} (hn : n ≤ cutV l t) : cutV (l.drop n) t = cutV l t - n := by
  have hc := cutV_le l t
  refine cutV_uniq (rise_drop hr n) (by rw [List.length_drop]; omega) (fun i h hi => ?_) (fun i h hi => ?_)
  · rw [List.length_drop] at h
    rw [List.getElem_drop]
    exact cutV_below l t _ (by omega) (by omega)
  · rw [List.length_drop] at h
    rw [List.getElem_drop]
    exact cutV_above l hr t _ (by omega) (by omega)

theorem cutV_mono {l : List Vr} (hr : RiseV l) {t u : Int} (h : t ≤ u) : cutV l t ≤ cutV l u := by
  have hc := cutV_le l t
  have hd := cutV_le l u
  rcases Nat.lt_or_ge (cutV l u) (cutV l t) with hlt | hge
  · have a := cutV_below l t (cutV l u) (by omega) hlt
    have b := cutV_above l hr u (cutV l u) (by omega) (Nat.le_refl _)
    omega
  · exact hge

/-- Nothing at f or above is seen to change by a prune. -/
theorem prune_at {l : List Vr} (hr : RiseV l) {f t : Int} (h : f ≤ t) : atV (pruneV l f) t = atV l t := by
  have hm := cutV_mono hr h
  unfold atV pruneV pruneN
  rw [cutV_drop hr (by omega)]
  by_cases h0 : cutV l t = 0
  · rw [if_pos h0, if_pos (by omega)]
  · by_cases h1 : cutV l f = 0
    · rw [h1]; simp
    · rw [if_neg h0, if_neg (by omega), List.getElem?_drop]
      congr 1
      omega

theorem prune_since {l : List Vr} (hr : RiseV l) {f t : Int} (h : f ≤ t) : sinceV (pruneV l f) t = sinceV l t := by
  have hm := cutV_mono hr h
  unfold sinceV pruneV pruneN
  rw [cutV_drop hr (by omega), List.drop_drop]
  congr 1
  omega

theorem prune_last (l : List Vr) (f : Int) : (pruneV l f).getLast? = l.getLast? := by
  unfold pruneV pruneN
  have hc := cutV_le l f
  rw [List.getLast?_eq_getElem?, List.getLast?_eq_getElem?, List.getElem?_drop, List.length_drop]
  by_cases h0 : l.length = 0
  · rw [List.length_eq_zero_iff.1 h0]; simp
  · congr 1
    omega

theorem prune_twice {l : List Vr} (hr : RiseV l) (f : Int) : pruneN (pruneV l f) f = 0 := by
  unfold pruneV pruneN
  rw [cutV_drop hr (by omega)]
  omega

theorem prune_len (l : List Vr) (f : Int) : (pruneV l f).length = l.length - pruneN l f := by unfold pruneV; rw [List.length_drop]

/-- What is left begins with what was visible. -/
theorem prune_head {l : List Vr} {f : Int} {v : Vr} (h : atV l f = some v) : (pruneV l f)[0]? = some v := by
  unfold atV at h
  split at h
  · cases h
  · unfold pruneV pruneN
    rw [List.getElem?_drop, Nat.add_zero]
    exact h

theorem ok_nil : OkV [] := ⟨List.Pairwise.nil, fun i h => by simp at h, fun i h => by simp at h, fun v h => by cases h⟩

theorem ok_drop {l : List Vr} (h : OkV l) (n : Nat) : OkV (l.drop n) := by
  refine ⟨rise_drop h.rise n, fun i hi => ?_, fun i hi => ?_, fun v hv => h.first v (List.mem_of_mem_drop hv)⟩
  · rw [List.length_drop] at hi
    rw [List.getElem_drop, List.getElem_drop]
    exact h.nums (n + i) (by omega)
  · rw [List.length_drop] at hi
    rw [List.getElem_drop, List.getElem_drop]
    exact h.two (n + i) (by omega)

theorem ok_prune {l : List Vr} (h : OkV l) (f : Int) : OkV (pruneV l f) := ok_drop h _

theorem ok_num {l : List Vr} (h : OkV l) : ∀ i, (hi : i < l.length) → (l[i]).num = (l[0]'(by omega)).num + i
  | 0, _ => by simp
  | i + 1, hi => by
    rw [h.nums i hi, ok_num h i (by omega)]
    omega

theorem ok_cut {l : List Vr} (h : OkV l) (i : Nat) (hi : i < l.length) : cutV l (l[i]).stamp = i + 1 := by
  refine cutV_uniq h.rise (by omega) (fun j hj hji => ?_) (fun j hj hij => rise_lt h.rise (by omega) hj)
  rcases Nat.lt_or_ge j i with hlt | hge
  · have := rise_lt h.rise hlt hi
    omega
  · obtain rfl : j = i := by omega
    exact Int.le_refl _

/-- Each is found by its stamp. -/
theorem ok_at {l : List Vr} (h : OkV l) (i : Nat) (hi : i < l.length) : atV l (l[i]).stamp = some l[i] := by
  unfold atV
  rw [ok_cut h i hi, if_neg (by omega), Nat.add_sub_cancel, List.getElem?_eq_getElem hi]

/-- The one with the number n. -/
def numV (l : List Vr) (n : Int) : Option Vr := l.find? fun v => decide (v.num = n)
theorem ok_find {l : List Vr} (h : OkV l) (i : Nat) (hi : i < l.length) : numV l (l[i]).num = some l[i] := by
  unfold numV
  rw [List.find?_eq_some_iff_getElem]
  refine ⟨by simp, i, hi, rfl, fun j hj => ?_⟩
  have a := ok_num h i hi
  have b := ok_num h j (by omega)
  simp only [Bool.not_eq_true', decide_eq_false_iff_not]
  omega

theorem since_zero {l : List Vr} (h : OkV l) : sinceV l 0 = l := by
  unfold sinceV
  have : cutV l 0 = 0 := cutV_uniq h.rise (Nat.zero_le _) (fun i _ hi => by omega) (fun i hi _ => (h.first _ (List.getElem_mem hi)).2.1)
  rw [this, List.drop_zero]

/-- Put: the code (ErrOld, ErrField, ErrNone as old, field, none), and what is there behind it. -/
def lastV (l : List Vr) : Vr := l.getLast?.getD zeroV
def putCode (old field none : Int) (may : Bool) (l : List Vr) (stamp : Int) (live : Bool) : Int :=
  if stamp = 0 ∨ stamp ≤ (lastV l).stamp then old else if live = true ∧ may = false then field else if live = false ∧ (lastV l).live = false then none else 0
def putV (l : List Vr) (stamp tick : Int) (live : Bool) (val : List (ByteArray × List ByteArray)) : List Vr := l ++ [⟨(lastV l).num + 1, stamp, tick, live, if live then val else []⟩]

theorem lastV_snoc (l : List Vr) (v : Vr) : lastV (l ++ [v]) = v := by simp [lastV]

theorem lastV_get {l : List Vr} (h : 0 < l.length) : lastV l = l[l.length - 1] := by
  unfold lastV
  rw [List.getLast?_eq_getElem?, List.getElem?_eq_getElem (by omega)]
  rfl

theorem ok_put {l : List Vr} (h : OkV l) {old field none : Int} {may : Bool} {stamp tick : Int} {live : Bool} {val : List (ByteArray × List ByteArray)} (h0 : 0 ≤ stamp) (e1 : old ≠ 0) (e2 : field ≠ 0) (e3 : none ≠ 0) (hc : putCode old field none may l stamp live = 0) : OkV (putV l stamp tick live val) := by
  unfold putCode at hc
  split at hc
  · exact absurd hc e1
  · next hs =>
    split at hc
    · exact absurd hc e2
    · split at hc
      · exact absurd hc e3
      · next hl =>
        have hl' : live = true ∨ (lastV l).live = true := by
          cases live
          · right
            cases hx : (lastV l).live
            · exact absurd ⟨rfl, hx⟩ hl
            · rfl
          · exact Or.inl rfl
        have hs' : ¬ stamp = 0 ∧ (lastV l).stamp < stamp := ⟨fun e => hs (Or.inl e), Int.not_le.1 fun e => hs (Or.inr e)⟩
        refine ⟨?_, fun i hi => ?_, fun i hi => ?_, fun v hv => ?_⟩
        · refine List.pairwise_append.2 ⟨h.rise, List.pairwise_singleton _ _, fun a ha b hb => ?_⟩
          rw [List.mem_singleton] at hb
          subst hb
          obtain ⟨i, hi, rfl⟩ := List.mem_iff_getElem.1 ha
          have hg := lastV_get (l := l) (by omega)
          show (l[i]).stamp < stamp
          rcases Nat.lt_or_ge i (l.length - 1) with hlt | hge
          · have := rise_lt h.rise hlt (by omega)
            rw [hg] at hs'
            omega
          · have e : i = l.length - 1 := by omega
            subst e
            rw [hg] at hs'
            exact hs'.2
        · unfold putV at hi ⊢
          rw [List.length_append, List.length_singleton] at hi
          rcases Nat.lt_or_ge (i + 1) l.length with hlt | hge
          · rw [List.getElem_append_left hlt, List.getElem_append_left (by omega)]
            exact h.nums i hlt
          · have e : i = l.length - 1 := by omega
            subst e
            rw [List.getElem_append_right (by omega), List.getElem_append_left (by omega)]
            simp only [List.getElem_singleton]
            rw [lastV_get (by omega)]
        · unfold putV at hi ⊢
          rw [List.length_append, List.length_singleton] at hi
          rcases Nat.lt_or_ge (i + 1) l.length with hlt | hge
          · rw [List.getElem_append_left hlt, List.getElem_append_left (by omega)]
            exact h.two i hlt
          · have e : i = l.length - 1 := by omega
            subst e
            rw [List.getElem_append_right (by omega), List.getElem_append_left (by omega)]
            simp only [List.getElem_singleton]
            rw [lastV_get (by omega)] at hl'
            exact hl'
        · unfold putV at hv
          rw [List.mem_append, List.mem_singleton] at hv
          rcases hv with hv | rfl
          · exact h.first v hv
          · have hn : 0 ≤ (lastV l).num ∧ ((lastV l).live = true → 1 ≤ (lastV l).num) := by
              rcases Nat.eq_zero_or_pos l.length with e | e
              · obtain rfl := List.length_eq_zero_iff.1 e
                exact ⟨Int.le_refl _, fun h => by cases h⟩
              · rw [lastV_get e]
                have := (h.first _ (List.getElem_mem (show l.length - 1 < l.length by omega))).1
                exact ⟨by omega, fun _ => this⟩
            refine ⟨by show 1 ≤ (lastV l).num + 1; omega, by show 0 < stamp; omega, fun e => ?_, fun e => ?_⟩
            · show live = true
              rcases hl' with hl' | hl'
              · exact hl'
              · have := hn.2 hl'
                have e' : (lastV l).num + 1 = 1 := e
                omega
            · have e' : live = false := e
              show (if live = true then val else []) = []
              rw [e']; rfl

end Go.Proofs.Ytmihddbnddgfhaa

/-
  Versions in memory (stage 6), and the reference's SameVersion, SameVersions.
-/
namespace Go.Proofs.Ytmihddbnddgfhaa
open Go.RowKit

/-- A version as it lies in memory: its value's slice, and the fields there. -/
structure Vx where
  num : Int
  stamp : Int
  tick : Int
  live : Bool
  p : Option Addr
  cap : Nat
  o : List Fx
  deriving Inhabited

def Vx.sl (x : Vx) : Value := .slice x.p x.o.length x.cap
def Vx.ver (x : Vx) : Vr := ⟨x.num, x.stamp, x.tick, x.live, x.o.map Fx.fld⟩
def Vx.at (w : World) (x : Vx) : Prop := IsXs w x.sl x.o
def encVx (x : Vx) : List Value := [.int .i64 x.num, .int .u64 x.stamp, .int .i64 x.tick, .bool x.live, x.sl]
theorem ver_eq {x y : Vx} : x.ver = y.ver ↔ x.num = y.num ∧ x.stamp = y.stamp ∧ x.tick = y.tick ∧ x.live = y.live ∧ x.o.map Fx.fld = y.o.map Fx.fld := by
  unfold Vx.ver
  simp only [Vr.mk.injEq]

/-- The cells of a version, from a on in block b. -/
def CellsV (w : World) (b a : Nat) (x : Vx) : Prop := w.cell? ⟨b, a, none⟩ = some (.int .i64 x.num) ∧ w.cell? ⟨b, a + 1, none⟩ = some (.int .u64 x.stamp) ∧ w.cell? ⟨b, a + 2, none⟩ = some (.int .i64 x.tick) ∧ w.cell? ⟨b, a + 3, none⟩ = some (.bool x.live) ∧ w.cell? ⟨b, a + 4, none⟩ = some x.sl

end Go.Proofs.Ytmihddbnddgfhaa

/-
  The reference's chain in memory (stage 6): At.
-/
namespace Go.Proofs.Ytmihddbnddgfhaa
open Go.RowKit

def zeroVx : Vx := ⟨0, 0, 0, false, none, 0, []⟩

theorem cell_kept {w : World} {a : Addr} {v : Value} (o : Obj) (h : w.cell? a = some v) : (w.alloc o).cell? a = some v := (((Below.refl w.heap.size w).alloc (Nat.le_refl _) o).cell (cell_block h)).trans h

/-- What is visible at t, of the versions l. -/
def AnsX (l : List Vx) (t : Int) (x : Vx) (b : Bool) : Prop :=
  (b = true ∧ cutV (l.map Vx.ver) t ≠ 0 ∧ l[cutV (l.map Vx.ver) t - 1]? = some x) ∨ (b = false ∧ cutV (l.map Vx.ver) t = 0 ∧ x = zeroVx)

theorem ansX_none {d : List Vx} {gone : Nat} {t : Int} (hr : RiseV (d.map Vx.ver)) (h : ∀ j, (hj : j < d.length) → gone ≤ j → t < (d[j]).stamp) : AnsX (d.drop gone) t zeroVx false := by
  refine Or.inr ⟨rfl, ?_, rfl⟩
  rw [List.map_drop]
  refine cutV_uniq (rise_drop hr gone) (Nat.zero_le _) (fun i _ hi => by omega) (fun i hi _ => ?_)
  rw [List.length_drop, List.length_map] at hi
  rw [List.getElem_drop, List.getElem_map]
  exact h (gone + i) (by omega) (by omega)

theorem ansX_some {d : List Vx} {gone k : Nat} {t : Int} (hr : RiseV (d.map Vx.ver)) (hk : k < d.length) (hg : gone ≤ k) (hs : (d[k]).stamp ≤ t) (h : ∀ j, (hj : j < d.length) → k + 1 ≤ j → t < (d[j]).stamp) : AnsX (d.drop gone) t d[k] true := by
  have hc : cutV ((d.drop gone).map Vx.ver) t = k + 1 - gone := by
    rw [List.map_drop]
    refine cutV_uniq (rise_drop hr gone) (by rw [List.length_drop, List.length_map]; omega) (fun i hi hik => ?_) (fun i hi hik => ?_)
    · rw [List.length_drop, List.length_map] at hi
      rw [List.getElem_drop, List.getElem_map]
      show (d[gone + i]).stamp ≤ t
      rcases Nat.lt_or_ge (gone + i) k with hlt | hge
      · have := rise_lt hr hlt (by rw [List.length_map]; exact hk)
        rw [List.getElem_map, List.getElem_map] at this
        have this' : (d[gone + i]).stamp < (d[k]).stamp := this
        omega
      · have e : gone + i = k := by omega
        simp only [e]
        exact hs
    · rw [List.length_drop, List.length_map] at hi
      rw [List.getElem_drop, List.getElem_map]
      exact h (gone + i) (by omega) (by omega)
  refine Or.inl ⟨rfl, by rw [hc]; omega, ?_⟩
  rw [hc, List.getElem?_drop, show gone + (k + 1 - gone - 1) = k by omega, List.getElem?_eq_getElem hk]

/-- What At leaves. -/
def AtPost (w : World) (l : List Vx) (t : Int) (e : Ending) (w' : World) : Prop := (∃ x b, e = .returned (.tuple #[.agg (encVx x).toArray, .bool b]) ∧ AnsX l t x b) ∧ Below w.heap.size w w'

/-- What Number leaves. -/
def NumPost (w : World) (d : List Vx) (gone : Nat) (n : Int) (e : Ending) (w' : World) : Prop :=
  (∃ x b, e = .returned (.tuple #[.agg (encVx x).toArray, .bool b]) ∧ ((b = true ∧ ∃ k : Nat, n = (k : Int) + 1 ∧ gone ≤ k ∧ d[k]? = some x) ∨ (b = false ∧ (n ≤ gone ∨ (d.length : Int) < n) ∧ x = zeroVx))) ∧ Below w.heap.size w w'

end Go.Proofs.Ytmihddbnddgfhaa

/-
  The reference's chain (stage 6): Since.
-/
namespace Go.Proofs.Ytmihddbnddgfhaa
open Go.RowKit

def sinceX (l : List Vx) (t : Int) : List Vx := l.filter fun x => decide (t < x.stamp)

/-- Where the stamps rise, those above t are the rest. -/
theorem sinceX_drop : ∀ (l : List Vx) (t : Int), RiseV (l.map Vx.ver) → sinceX l t = l.drop (cutV (l.map Vx.ver) t)
  | [], _, _ => by simp [sinceX]
  | x :: l, t, hr => by
    rw [List.map_cons] at hr
    obtain ⟨h1, h2⟩ := List.pairwise_cons.1 hr
    rw [List.map_cons, cutV_cons]
    unfold sinceX
    by_cases h : x.ver.stamp ≤ t
    · rw [if_pos h, List.drop_succ_cons, ← sinceX_drop l t h2, List.filter_cons_of_neg (by have h' : x.stamp ≤ t := h; simpa using h')]
      rfl
    · rw [if_neg h, List.drop_zero]
      refine List.filter_eq_self.2 fun y hy => ?_
      rcases List.mem_cons.1 hy with rfl | hy
      · have h' : ¬ y.stamp ≤ t := h
        simpa using h'
      · have := h1 y.ver (List.mem_map.2 ⟨y, hy, rfl⟩)
        have h' : t < x.ver.stamp := Int.not_le.1 h
        have e : y.ver.stamp = y.stamp := rfl
        simp only [decide_eq_true_eq]
        omega

end Go.Proofs.Ytmihddbnddgfhaa

/-
  The reference's chain (stage 6): Last, All.
-/
namespace Go.Proofs.Ytmihddbnddgfhaa
open Go.RowKit

theorem grown_below {w W : World} (hb : Below w.heap.size w W) (ob : Option Nat) : w.grownBy W ob := ⟨hb.os, hb.tape, hb.output, hb.size, fun k hk _ => hb.block k hk⟩

theorem grown_two {w1 w2 w3 : World} {ob : Option Nat} (h : w1.grownBy w2 ob) (k : w2.grownBy w3 ob) : w1.grownBy w3 ob :=
  ⟨k.os.trans h.os, k.tape.trans h.tape, k.output.trans h.output, Nat.le_trans h.size k.size, fun j hj hn => (k.block j (Nat.lt_of_lt_of_le hj h.size) hn).trans (h.block j hj hn)⟩

theorem ansX_num {d : List Vx} {gone : Nat} {t : Int} {x : Vx} (hn : ∀ k, (h : k < d.length) → (d[k]).num = (k : Int) + 1) (hle : gone ≤ d.length) (h : AnsX (d.drop gone) t x true) :
    cutV ((d.drop gone).map Vx.ver) t ≠ 0 ∧ gone + cutV ((d.drop gone).map Vx.ver) t ≤ d.length ∧ x.num = (gone : Int) + cutV ((d.drop gone).map Vx.ver) t := by
  rcases h with ⟨_, h1, h2⟩ | ⟨h, _⟩
  · have hc := cutV_le ((d.drop gone).map Vx.ver) t
    rw [List.length_map, List.length_drop] at hc
    rw [List.getElem?_drop] at h2
    obtain ⟨hlt, he⟩ := List.getElem?_eq_some_iff.1 h2
    refine ⟨h1, by omega, ?_⟩
    rw [← he, hn _ hlt]
    omega
  · cases h

end Go.Proofs.Ytmihddbnddgfhaa

/-
  The contract of withText: a text behind a row of bytes.
-/
namespace Go.Proofs.Ytmihddbnddgfhaa
open Go.RowKit

/-- v owns the bytes bs, in a row at or behind n0. -/
def OwnB (n0 : Nat) (w : World) (v : Value) (bs : List UInt8) : Prop := w.ownsRow n0 5 1 v bs.length (Lib.byteCells bs)

/-- Whatever is no row of bytes lies as it lay. -/
def KeptB (w w' : World) : Prop := ∀ (k : Nat) (o : Obj), w.heap[k]? = some o → (¬ ∃ cs fr, o = .cells cs 5 fr) → w'.heap[k]? = some o

theorem KeptB.refl (w : World) : KeptB w w := fun _ _ h _ => h
theorem KeptB.trans {a b c : World} (h : KeptB a b) (k : KeptB b c) : KeptB a c := fun i o hi hn => k i o (h i o hi hn) hn
theorem KeptB.alloc (w : World) (o : Obj) : KeptB w (w.alloc o) := fun i _ hi _ => (Below.heap_alloc w o i (Array.getElem?_eq_some_iff.1 hi).1).trans hi
theorem KeptB.grown {w w' : World} {n0 : Nat} {v : Value} {n : Nat} {xs : List Value} (hown : w.ownsRow n0 5 1 v n xs) (hg : w.grownBy w' v.ownBlock) : KeptB w w' := fun i o hi hn => by
  refine (hg.block i (Array.getElem?_eq_some_iff.1 hi).1 fun e => ?_).trans hi
  rcases hown.2 with ⟨hv, _⟩ | ⟨g, cap, cur, hv, _, hgb, _⟩
  · rw [hv] at e; cases e
  · rw [hv] at e
    have : i = g := by simpa [Value.ownBlock] using e
    subst this
    rw [hgb] at hi
    exact hn ⟨cur, (0, 0), by cases hi; rfl⟩
theorem KeptB.below {w w' : World} (h : Below w.heap.size w w') : KeptB w w' := fun i _ hi _ => (h.block i (Array.getElem?_eq_some_iff.1 hi).1).trans hi

theorem OwnB.on {n0 : Nat} {w w' : World} {v : Value} {bs : List UInt8} (h : OwnB n0 w v bs) (hb : Below w.heap.size w w') : OwnB n0 w' v bs := own_on h hb

end Go.Proofs.Ytmihddbnddgfhaa

/-
  The contracts of Encode and Size.
-/
namespace Go.Proofs.Ytmihddbnddgfhaa
open Go.RowKit

def encT (t : ByteArray) : List UInt8 := UInt8.ofNat t.size :: t.data.toList
def encF (f : Fld) : List UInt8 := encT f.1 ++ [UInt8.ofNat f.2.length] ++ f.2.flatMap encT
def encL (fs : List Fld) : List UInt8 := UInt8.ofNat fs.length :: fs.flatMap encF

theorem encT_len (t : ByteArray) : (encT t).length = t.size + 1 := by simp [encT]

theorem flat_len {α : Type} (f : α → List UInt8) (c : Nat) (l : List α) (h : ∀ x ∈ l, (f x).length ≤ c) : (l.flatMap f).length ≤ l.length * c := by
  induction l with
  | nil => simp
  | cons x l ih =>
    rw [List.flatMap_cons, List.length_append, List.length_cons, Nat.add_mul]
    have h1 := h x (by simp)
    have h2 := ih fun y hy => h y (by simp [hy])
    omega

theorem fieldB_len {l : List UInt8} (h : fieldB l = true) : l.length ≤ 32 := by
  unfold fieldB spell at h
  cases l with
  | nil => simp
  | cons c r => simp at h; simp; omega

theorem fits_parts {f : Fld} (h : fitsB f = true) : f.1.size ≤ 32 ∧ 0 < f.2.length ∧ f.2.length ≤ 8 ∧ (∀ t ∈ f.2, t.size ≤ 128) ∧ fieldB f.1.data.toList = true := by
  unfold fitsB at h
  simp only [Bool.and_eq_true, Bool.not_eq_true', decide_eq_true_eq] at h
  obtain ⟨⟨⟨h1, h2⟩, h3⟩, h4⟩ := h
  refine ⟨by simpa using fieldB_len h1, ?_, h3, fun t ht => ?_, h1⟩
  · cases hf : f.2 with
    | nil => rw [hf] at h2; simp at h2
    | cons _ _ => simp
  · rw [List.any_eq_false] at h4
    have := h4 t ht
    unfold longB at this
    simpa using this

theorem fits_texts {f : Fld} (h : fitsB f = true) (j : Nat) : ((f.2.take j).flatMap encT).length ≤ 1032 := by
  obtain ⟨_, _, h3, h4, _⟩ := fits_parts h
  have := flat_len encT 129 (f.2.take j) (fun t ht => by rw [encT_len]; have := h4 t (List.mem_of_mem_take ht); omega)
  rw [List.length_take] at this
  have h5 : min j f.2.length * 129 ≤ 8 * 129 := Nat.mul_le_mul_right _ (by omega)
  omega

theorem encF_len {f : Fld} (h : fitsB f = true) : (encF f).length ≤ 1066 := by
  have h1 := (fits_parts h).1
  have h2 := fits_texts h f.2.length
  rw [List.take_length] at h2
  unfold encF
  rw [List.length_append, List.length_append, encT_len]
  simp only [List.length_cons, List.length_nil]
  omega

theorem may_parts {fs : List Fld} (h : mayB fs = true) : fs.length ≤ 16 ∧ ∀ i, i < fs.length → stepOk fs i = true := by
  unfold mayB at h
  rw [Bool.and_eq_true, decide_eq_true_eq, List.all_eq_true] at h
  exact ⟨h.1, fun i hi => h.2 i (List.mem_range.2 hi)⟩

theorem may_fits {fs : List Fld} (h : mayB fs = true) : ∀ f ∈ fs, fitsB f = true := by
  intro f hf
  obtain ⟨i, hi, rfl⟩ := List.mem_iff_getElem.1 hf
  have := (may_parts h).2 i hi
  unfold stepOk at this
  rw [Bool.and_eq_true, List.getD_eq_getElem?_getD, List.getElem?_eq_getElem hi] at this
  exact this.1

theorem enc_ahead {fs : List Fld} (h : mayB fs = true) (i : Nat) : ((fs.take i).flatMap encF).length ≤ 17056 := by
  have := flat_len encF 1066 (fs.take i) (fun f hf => encF_len (may_fits h f (List.mem_of_mem_take hf)))
  rw [List.length_take] at this
  have h5 : min i fs.length * 1066 ≤ 16 * 1066 := Nat.mul_le_mul_right _ (by have := (may_parts h).1; omega)
  omega

/-- A field's box is no row of bytes. -/
theorem box_kept {w w' : World} {F : Nat} {cs : Array Value} {fr : Nat × Nat} (hk : KeptB w w') (h : w.heap[F]? = some (.cells cs 90 fr)) : w'.heap[F]? = some (.cells cs 90 fr) :=
  hk F _ h (by rintro ⟨cs', fr', e⟩; injection e with _ e; exact absurd e (by decide))

theorem box_cells {w w' : World} {u v : Value} (hk : KeptB (w.alloc (.cells #[u, v] 90)) w') :
    w'.cell? ⟨w.heap.size, 0, none⟩ = some u ∧ w'.cell? ⟨w.heap.size, 1, none⟩ = some v := by
  have hbx := box_kept hk (heap_alloc_new w _)
  exact ⟨by rw [Lib.cell_of_heap hbx]; rfl, by rw [Lib.cell_of_heap hbx]; rfl⟩

def encV (w' : World) (n0 : Nat) (fs : List Fld) (e : Ending) : Prop :=
  if mayB fs = true then ∃ v, e = .returned (.tuple #[v, .int .i64 0]) ∧ OwnB n0 w' v (encL fs) else e = .returned (.tuple #[.slice none 0 0, .int .i64 3])

end Go.Proofs.Ytmihddbnddgfhaa

/-
  Frames (stage 6): which blocks have turned; and what of the rest stays.
-/
namespace Go.Proofs.Ytmihddbnddgfhaa
open Go.RowKit

/-- The blocks of a value: its fields' row, and the rows of their texts. -/
def BlkX (u : Value) (o : List Fx) (k : Nat) : Prop := u.ownBlock = some k ∨ ∃ f ∈ o, f.sl.ownBlock = some k
def BlkV (x : Vx) (k : Nat) : Prop := BlkX x.sl x.o k

theorem ownJ_blk {N : Nat} {w : World} {u : Value} {o : List Fx} (h : OwnJ N w u o) (k : Nat) (hk : BlkX u o k) : N ≤ k ∧ k < w.heap.size := by
  rcases hk with hk | ⟨f, hf, hk⟩
  · exact World.ownsRow.lt h.1.1 k hk
  · exact World.ownsRow.lt (h.1.2 f hf) k hk

theorem ownJ_slice {n0 : Nat} {w : World} {u : Value} {o : List Fx} (h : OwnJ n0 w u o) : ∃ p cap, u = .slice p o.length cap := by
  rcases h.1.1.2 with ⟨h1, h2⟩ | ⟨g, cap, _, h1, _⟩
  · exact ⟨none, 0, by rw [h2]; exact h1⟩
  · exact ⟨_, _, h1⟩

theorem ownJ_fr {P : Nat → Prop} {N : Nat} {w W : World} {u : Value} {o : List Fx} (h : OwnJ N w u o) (f : Fr P w W) (hP : ∀ k, BlkX u o k → ¬ P k) : OwnJ N W u o :=
  ⟨⟨f.row h.1.1 fun k hk => hP k (Or.inl hk), fun x hx => f.row (h.1.2 x hx) fun k hk => hP k (Or.inr ⟨x, hx, hk⟩)⟩, h.2⟩

/-- A row of versions is no row of fields, and none of texts. -/
theorem ownJ_set {B : Nat} {w : World} {u : Value} {o : List Fx} (h : OwnJ B w u o) {b j : Nat} (hb : b < B) (v : Value) : OwnJ B (w.setCell ⟨b, j, none⟩ v) u o :=
  ownJ_fr h (Fr.of_grown (P := fun k => k = b) (grown_set w b j v) fun k hk => by simpa using hk.symm) fun k hk e => by
    have h1 := (ownJ_blk h k hk).1
    omega

/-- A value that may be, fits. -/
theorem may_small {fs : List Fld} (h : mayB fs = true) : fs.length ≤ 16 ∧ ∀ f ∈ fs, f.1.size ≤ maxLen ∧ f.2.length ≤ 8 ∧ ∀ t ∈ f.2, t.size ≤ 128 := by
  unfold mayB at h
  rw [Bool.and_eq_true, decide_eq_true_eq, List.all_eq_true] at h
  refine ⟨h.1, fun f hf => ?_⟩
  obtain ⟨i, hi, rfl⟩ := List.mem_iff_getElem.1 hf
  have hs := h.2 i (by simpa using hi)
  have hg : fs.getD i default = fs[i] := by simp [List.getD, hi]
  unfold stepOk at hs
  rw [hg, Bool.and_eq_true] at hs
  obtain ⟨h1, _, h2, h3, _⟩ := fits_parts hs.1
  exact ⟨by unfold maxLen; omega, h2, h3⟩

theorem may_fit {o : List Fx} (h : mayB (o.map Fx.fld) = true) : FitX o ∧ CopyX o := by
  obtain ⟨h1, h2⟩ := may_small h
  rw [List.length_map] at h1
  have h3 : ∀ x ∈ o, x.name.size ≤ maxLen ∧ x.txt.length ≤ 8 ∧ ∀ t ∈ x.txt, t.size ≤ 128 := fun x hx => h2 x.fld (List.mem_map.2 ⟨x, hx, rfl⟩)
  refine ⟨⟨by unfold maxLen; omega, fun x hx => ⟨(h3 x hx).1, ?_, fun t ht => ?_⟩⟩, ⟨by omega, fun x hx => by have := (h3 x hx).2.1; omega⟩⟩
  · have := (h3 x hx).2.1
    show x.txt.length ≤ maxLen
    unfold maxLen; omega
  · have := (h3 x hx).2.2 t ht
    unfold maxLen; omega

theorem may_nil : mayB [] = true := by decide

/-- The blocks of a chain. -/
def BlkC (g : Nat) (d : List Vx) (vs : Value) (k : Nat) : Prop := k = g ∨ vs.ownBlock = some k ∨ ∃ x ∈ d, BlkV x k

theorem ok_len {l : List Vr} (h : OkV l) : (l.length : Int) ≤ (lastV l).num := by
  rcases Nat.eq_zero_or_pos l.length with e | e
  · obtain rfl := List.length_eq_zero_iff.1 e
    exact Int.le_refl _
  · rw [lastV_get e, ok_num h (l.length - 1) (by omega)]
    have := (h.first _ (List.getElem_mem e)).1
    omega

end Go.Proofs.Ytmihddbnddgfhaa

/-
  What the laws of stage 13 lean on of package track: done ones in memory, a tracker, its calls. (Filled in where the package has landed.)
-/
namespace Go.Proofs.Ytmihddbnddgfhaa
open Go.RowKit

/-- A done transaction as it lies in memory. -/
structure Dx where
  snap : Int
  stamp : Int
  out : Bool
  m : Mx
  cp : Option Addr
  cc : Nat
  cs : List Cx
  deriving Inhabited

def Dx.csl (x : Dx) : Value := .slice x.cp x.cs.length x.cc
def Dx.dn (x : Dx) : Dn := ⟨x.snap, x.stamp, x.out, x.m.mk', x.cs.map Cx.ch⟩
def encDx (x : Dx) : List Value := [.int .u64 x.snap, .int .u64 x.stamp, .bool x.out, x.m.ksl, x.m.rsl, x.csl]
def KDx : Kind Dx := ⟨35, 6, encDx, fun _ => rfl, by decide, fun x u hu => by simp [encDx, Mx.ksl, Mx.rsl, Dx.csl] at hu; rcases hu with rfl | rfl | rfl | rfl | rfl | rfl <;> rfl⟩

/-- What a machine can hold of marks and changes. -/
structure SzD (m : Mx) (cs : List Cx) : Prop where
  keys : m.ks.length ≤ 4398046510976
  rows : m.rs.length ≤ 3518437208780
  terms : ∀ r ∈ m.rs, r.tm.length ≤ 3518437208780
  chg : cs.length ≤ 1466015503658
  copy : ∀ c ∈ cs, CopyX c.wo ∧ CopyX c.io
  kfit : ∀ k ∈ m.ks, FitKy12 k
  cfit : ∀ c ∈ cs, FitKy12 (c.a, c.b)
theorem SzD.len {m : Mx} {cs : List Cx} (h : SzD m cs) : LenM m := ⟨by have := h.keys; omega, by have := h.rows; omega⟩

/-- A done one that came in. -/
structure DIn (W : World) (x : Dx) : Prop where
  mrk : MIn W x.m
  chg : ChgIn W x.csl x.cs
  sz : SzD x.m x.cs
  snap : 0 ≤ x.snap ∧ x.snap ≤ 18446744073709551615
  stamp : 0 ≤ x.stamp ∧ x.stamp ≤ 18446744073709551615
theorem DIn.on {W W' : World} {x : Dx} (h : DIn W x) (hb : Below W.heap.size W W') : DIn W' x := ⟨h.mrk.on hb, h.chg.on hb, h.sz, h.snap, h.stamp⟩

/-- What a call leaves of a tracker. -/
def YTurn (Prg : Nat → World → (Nat → Prop) → Nat → Tk → Prop) (n0 : Nat) (W : World) (B : Nat → Prop) (g : Nat) (t : Tk) (w' : World) : Prop := ∃ B', Prg n0 w' B' g t ∧ Fr B W w' ∧ ∀ k, B' k → B k ∨ W.heap.size ≤ k

/-- The blocks of a change. -/
def BlkCx (x : Cx) (k : Nat) : Prop := BlkX (.slice x.wp x.wo.length x.wc) x.wo k ∨ BlkX (.slice x.ip x.io.length x.ic) x.io k
/-- A change in memory of its own. -/
structure COwn (N : Nat) (W : World) (x : Cx) : Prop where
  was : OwnJ N W (.slice x.wp x.wo.length x.wc) x.wo
  is : OwnJ N W (.slice x.ip x.io.length x.ic) x.io
  wfit : FitX x.wo
  ifit : FitX x.io
  apart : ∀ k, BlkX (.slice x.wp x.wo.length x.wc) x.wo k → ¬ BlkX (.slice x.ip x.io.length x.ic) x.io k
  wcp : CopyX x.wo
  icp : CopyX x.io
/-- A done one in memory of its own. -/
structure DOwn (N : Nat) (W : World) (x : Dx) : Prop where
  mrk : MOwn N W x.m
  row : KCx.Own N W x.csl x.cs
  each : ∀ c ∈ x.cs, COwn N W c
  apart : x.cs.Pairwise fun c d => ∀ k, BlkCx c k → ¬ BlkCx d k
/-- The blocks of a done one. -/
def BlkD13 (x : Dx) (k : Nat) : Prop := x.m.ksl.ownBlock = some k ∨ x.m.rsl.ownBlock = some k ∨ (∃ r ∈ x.m.rs, r.sl.ownBlock = some k) ∨ x.csl.ownBlock = some k ∨ ∃ c ∈ x.cs, BlkCx c k
/-- What List answers. -/
def ListPost (W : World) (l : List Dn) (e : Ending) (w' : World) : Prop :=
  ∃ u ds, e = .returned u ∧ KDx.Own W.heap.size w' u ds ∧ (∀ d ∈ ds, DOwn W.heap.size w' d ∧ SzD d.m d.cs) ∧ (ds.Pairwise fun c d => ∀ k, BlkD13 c k → ¬ BlkD13 d k) ∧ ds.map Dx.dn = l ∧ Below W.heap.size W w'

structure TrackApi where
  Prg : Nat → World → (Nat → Prop) → Nat → Tk → Prop
  blk : ∀ {n0 W B g t}, Prg n0 W B g t → ∀ k, B k → n0 ≤ k ∧ k < W.heap.size
  own : ∀ {n0 W B g t}, Prg n0 W B g t → B g
  fr : ∀ {n0 W B g t W' P}, Prg n0 W B g t → Fr P W W' → (∀ k, B k → ¬ P k) → Prg n0 W' B g t
  ok : ∀ {n0 W B g t}, Prg n0 W B g t → OkT t
  new : ∀ (n0 : Nat) (W : World) (most : Int), n0 ≤ W.heap.size → Calls Try.prog 10 #[.int .i64 most] W fun e w' => ∃ B g, e = .returned (.pointer (some ⟨g, 0, none⟩)) ∧ Prg n0 w' B g (newT most) ∧ Below W.heap.size W w' ∧ ∀ k, B k → W.heap.size ≤ k
  check : ∀ {n0 W B g t}, Prg n0 W B g t → ∀ (s : Int) (m : Mx) (v : Value) (cs : List Cx), 0 ≤ s → s ≤ 18446744073709551615 → MIn W m → ChgIn W v cs → SzD m cs →
    Calls Try.prog 20 #[.pointer (some ⟨g, 0, none⟩), .int .u64 s, .agg (encMx m).toArray, v] W fun e w' => e = .returned (.tuple #[.bool (checkT t s m.mk' (cs.map Cx.ch)).1, .int .i64 (checkT t s m.mk' (cs.map Cx.ch)).2]) ∧ Below W.heap.size W w'
  add : ∀ {n0 W B g t}, Prg n0 W B g t → n0 ≤ W.heap.size → ∀ (d : Dx), DIn W d →
    Calls Try.prog 22 #[.pointer (some ⟨g, 0, none⟩), .agg (encDx d).toArray] W fun e w' => e = .returned (.int .i64 (addT t d.dn).1) ∧ YTurn Prg n0 W B g (addT t d.dn).2 w'
  drop : ∀ {n0 W B g t}, Prg n0 W B g t → n0 ≤ W.heap.size → ∀ (s : Int), 0 ≤ s → s ≤ 18446744073709551615 →
    Calls Try.prog 21 #[.pointer (some ⟨g, 0, none⟩), .int .u64 s] W fun e w' => e = .returned (.int .i64 ((t.kept.length : Int) - ((dropT t s).kept.length : Int))) ∧ YTurn Prg n0 W B g (dropT t s) w'
  len : ∀ {n0 W B g t}, Prg n0 W B g t → Calls Try.prog 13 #[.pointer (some ⟨g, 0, none⟩)] W fun e w' => e = .returned (.int .i64 (t.kept.length : Nat)) ∧ Below W.heap.size W w'
  sum : ∀ {n0 W B g t}, Prg n0 W B g t → Calls Try.prog 15 #[.pointer (some ⟨g, 0, none⟩)] W fun e w' => e = .returned (.int .u64 t.sum) ∧ Below W.heap.size W w'
  list : ∀ {n0 W B g t}, Prg n0 W B g t → Calls Try.prog 17 #[.pointer (some ⟨g, 0, none⟩)] W fun e w' => ListPost W t.kept e w'
  check_nil : ∀ (W : World) (s : Int) (m : Mx) (v : Value), Calls Try.prog 20 #[.pointer none, .int .u64 s, .agg (encMx m).toArray, v] W fun e w' => e = .returned (.tuple #[.bool false, .int .i64 1]) ∧ Below W.heap.size W w'
  add_nil : ∀ (W : World) (d : Dx), Calls Try.prog 22 #[.pointer none, .agg (encDx d).toArray] W fun e w' => e = .returned (.int .i64 1) ∧ Below W.heap.size W w'
  drop_nil : ∀ (W : World) (s : Int), Calls Try.prog 21 #[.pointer none, .int .u64 s] W fun e w' => e = .returned (.int .i64 0) ∧ Below W.heap.size W w'
  len_nil : ∀ (W : World), Calls Try.prog 13 #[.pointer none] W fun e w' => e = .returned (.int .i64 0) ∧ Below W.heap.size W w'
  sum_nil : ∀ (W : World), Calls Try.prog 15 #[.pointer none] W fun e w' => e = .returned (.int .u64 0) ∧ Below W.heap.size W w'
  list_nil : ∀ (W : World), Calls Try.prog 17 #[.pointer none] W fun e w' => ListPost W [] e w'

/-- A tracker of the program along a run: from V on only C's blocks, and new ones, have turned. -/
def OneY (S : TrackApi) (n0 : Nat) (V : World) (C : Nat → Prop) (g : Nat) (t : Tk) (W : World) : Prop := ∃ B, S.Prg n0 W B g t ∧ Fr C V W ∧ ∀ k, B k → C k ∨ V.heap.size ≤ k

section
variable {S : TrackApi} {n0 : Nat} {V : World} {C : Nat → Prop} {g : Nat} {t : Tk} {W : World}
theorem TrackApi.on {W' : World} {B : Nat → Prop} (h : S.Prg n0 W B g t) (hb : Below W.heap.size W W') : S.Prg n0 W' B g t :=
  S.fr (P := fun _ => False) h (Fr.of_below hb) fun _ _ k => k
theorem OneY.on {W' : World} (h : OneY S n0 V C g t W) (hb : Below W.heap.size W W') : OneY S n0 V C g t W' := by
  obtain ⟨B, h1, h2, h3⟩ := h
  exact ⟨B, TrackApi.on h1 hb, Fr.then h2 (Fr.of_below (P := fun _ => False) hb) fun _ h => h.elim, h3⟩
theorem OneY.turn {B : Nat → Prop} {t' : Tk} {w' : World} (f : Fr C V W) (hB : ∀ k, B k → C k ∨ V.heap.size ≤ k) (h : YTurn S.Prg n0 W B g t' w') : OneY S n0 V C g t' w' := by
  obtain ⟨B', h1, h2, h3⟩ := h
  exact ⟨B', h1, f.then h2 hB, fun k hk => (h3 k hk).elim (hB k) fun h => Or.inr (Nat.le_trans f.size h)⟩
theorem OneY.size (h : OneY S n0 V C g t W) : V.heap.size ≤ W.heap.size := by
  obtain ⟨B, h1, h2, h3⟩ := h
  exact h2.size
theorem OneY.below (h : OneY S n0 V C g t W) {N : Nat} (hN : N ≤ V.heap.size) (hC : ∀ k, C k → N ≤ k) : Below N V W := by
  obtain ⟨B, h1, h2, h3⟩ := h
  exact h2.below hN hC
theorem OneY.ok (h : OneY S n0 V C g t W) : OkT t := by
  obtain ⟨B, h1, _⟩ := h
  exact S.ok h1

theorem oney_add (h : OneY S n0 V C g t W) (hn : n0 ≤ W.heap.size) (d : Dx) (hd : DIn W d) :
    Calls Try.prog 22 #[.pointer (some ⟨g, 0, none⟩), .agg (encDx d).toArray] W fun e w' => e = .returned (.int .i64 (addT t d.dn).1) ∧ OneY S n0 V C g (addT t d.dn).2 w' := by
  obtain ⟨B, h1, h2, h3⟩ := h
  exact (S.add h1 hn d hd).mono fun e w' q => ⟨q.1, OneY.turn h2 h3 q.2⟩
/-- .. and what was laid since stays. -/
theorem oney_add2 (h : OneY S n0 V C g t W) {W1 : World} (hb : Below W.heap.size W W1) (hn : n0 ≤ W1.heap.size) (d : Dx) (hd : DIn W1 d) :
    Calls Try.prog 22 #[.pointer (some ⟨g, 0, none⟩), .agg (encDx d).toArray] W1 fun e w' => e = .returned (.int .i64 (addT t d.dn).1) ∧ OneY S n0 V C g (addT t d.dn).2 w' ∧ ∀ b, W.heap.size ≤ b → b < W1.heap.size → w'.heap[b]? = W1.heap[b]? := by
  obtain ⟨B, h1, h2, h3⟩ := h
  refine (S.add (TrackApi.on h1 hb) hn d hd).mono fun e w' q => ⟨q.1, OneY.turn (Fr.then h2 (Fr.of_below (P := fun _ => False) hb) fun _ h => h.elim) h3 q.2, fun b hb1 hb2 => ?_⟩
  obtain ⟨B', _, f, _⟩ := q.2
  exact f.block b hb2 fun hB => by have := (S.blk h1 b hB).2; omega
theorem oney_drop (h : OneY S n0 V C g t W) (hn : n0 ≤ W.heap.size) (s : Int) (h0 : 0 ≤ s) (hs : s ≤ 18446744073709551615) :
    Calls Try.prog 21 #[.pointer (some ⟨g, 0, none⟩), .int .u64 s] W fun e w' => e = .returned (.int .i64 ((t.kept.length : Int) - ((dropT t s).kept.length : Int))) ∧ OneY S n0 V C g (dropT t s) w' := by
  obtain ⟨B, h1, h2, h3⟩ := h
  exact (S.drop h1 hn s h0 hs).mono fun e w' q => ⟨q.1, OneY.turn h2 h3 q.2⟩
theorem oney_check (h : OneY S n0 V C g t W) (s : Int) (m : Mx) (v : Value) (cs : List Cx) (h0 : 0 ≤ s) (hs : s ≤ 18446744073709551615) (hm : MIn W m) (hc : ChgIn W v cs) (hz : SzD m cs) :
    Calls Try.prog 20 #[.pointer (some ⟨g, 0, none⟩), .int .u64 s, .agg (encMx m).toArray, v] W fun e w' => e = .returned (.tuple #[.bool (checkT t s m.mk' (cs.map Cx.ch)).1, .int .i64 (checkT t s m.mk' (cs.map Cx.ch)).2]) ∧ Below W.heap.size W w' := by
  obtain ⟨B, h1, _⟩ := h
  exact S.check h1 s m v cs h0 hs hm hc hz
theorem oney_len (h : OneY S n0 V C g t W) : Calls Try.prog 13 #[.pointer (some ⟨g, 0, none⟩)] W fun e w' => e = .returned (.int .i64 (t.kept.length : Nat)) ∧ Below W.heap.size W w' := by
  obtain ⟨B, h1, _⟩ := h
  exact S.len h1
theorem oney_sum (h : OneY S n0 V C g t W) : Calls Try.prog 15 #[.pointer (some ⟨g, 0, none⟩)] W fun e w' => e = .returned (.int .u64 t.sum) ∧ Below W.heap.size W w' := by
  obtain ⟨B, h1, _⟩ := h
  exact S.sum h1
theorem oney_list (h : OneY S n0 V C g t W) : Calls Try.prog 17 #[.pointer (some ⟨g, 0, none⟩)] W fun e w' => ListPost W t.kept e w' := by
  obtain ⟨B, h1, _⟩ := h
  exact S.list h1
end
theorem oney_new (S : TrackApi) (n0 : Nat) (W : World) (hn : n0 ≤ W.heap.size) (most : Int) : Calls Try.prog 10 #[.int .i64 most] W fun e w' => ∃ g, e = .returned (.pointer (some ⟨g, 0, none⟩)) ∧ OneY S n0 W (fun _ => False) g (newT most) w' :=
  (S.new n0 W most hn).mono fun _ _ ⟨B, g, he, hp, hb, hB⟩ => ⟨g, he, B, hp, Fr.of_below hb, fun k hk => Or.inr (hB k hk)⟩

/-! ## Operations -/

/-- An operation as it lies in memory. -/
structure Oy13 where
  kind : Int
  d : Dx
  deriving Inhabited
def encOt (x : Oy13) : List Value := .int .i64 x.kind :: encDx x.d
def KOt : Kind Oy13 := ⟨37, 7, encOt, fun _ => rfl, by decide, fun x u hu => by simp [encOt, encDx, Mx.ksl, Mx.rsl, Dx.csl] at hu; rcases hu with rfl | rfl | rfl | rfl | rfl | rfl | rfl <;> rfl⟩
theorem kot_at {w : World} {b off : Nat} {d : List Oy13} (h : KOt.At w b off d) (i : Nat) (hi : i < d.length) :
    w.cell? ⟨b, off + i * 7, none⟩ = some (.int .i64 (d[i]).kind) ∧ w.cell? ⟨b, off + i * 7 + 1, none⟩ = some (.int .u64 (d[i]).d.snap) ∧ w.cell? ⟨b, off + i * 7 + 2, none⟩ = some (.int .u64 (d[i]).d.stamp) ∧ w.cell? ⟨b, off + i * 7 + 3, none⟩ = some (.bool (d[i]).d.out) ∧ w.cell? ⟨b, off + i * 7 + 4, none⟩ = some (d[i]).d.m.ksl ∧ w.cell? ⟨b, off + i * 7 + 5, none⟩ = some (d[i]).d.m.rsl ∧ w.cell? ⟨b, off + i * 7 + 6, none⟩ = some (d[i]).d.csl :=
  ⟨h i hi 0 _ rfl, h i hi 1 _ rfl, h i hi 2 _ rfl, h i hi 3 _ rfl, h i hi 4 _ rfl, h i hi 5 _ rfl, h i hi 6 _ rfl⟩

/-- What fixed answers. -/
def Fixed13 : Prop := ∀ W : World, Calls Try.prog 9 #[] W fun e w' => e = .returned (.bool true) ∧ Below W.heap.size W w'

end Go.Proofs.Ytmihddbnddgfhaa

/-
  The reference of stage 13: SameChanges of the same changes. (Written by mkys.py.)
-/
namespace Go.Proofs.Ytmihddbnddgfhaa
open Go.RowKit

set_option linter.unusedSimpArgs false in
set_option maxHeartbeats 8000000 in
set_option maxRecDepth 100000 in
theorem samech_yes (v u : Value) (d e : List Cx) (w : World) (hv : KCx.Is w v d) (hu : KCx.Is w u e) (ha : ∀ x ∈ d, CIn w x) (hb : ∀ x ∈ e, CIn w x) (hl : d.length ≤ 9000000000000000000) (heq : d.map Cx.ch = e.map Cx.ch) :
    Calls Try.prog 31 #[v, u] w fun r w' => r = .returned (.bool true) ∧ Below w.heap.size w w' := by
  obtain ⟨p, cap, rfl, hd⟩ := hv
  obtain ⟨q, cap', rfl, he⟩ := hu
  have HD := hid hd
  have HE := hid he
  have HA := hid ha
  have HB := hid hb
  have HQ := hid heq
  have hle : e.length = d.length := by
    have := congrArg List.length heq
    simpa using this.symm
  clear hd he ha hb heq
  have HLE := hid hle
  obtain ⟨el, hel⟩ : ∃ el, e.length = el := ⟨_, rfl⟩
  rw [hel] at hle ⊢
  have HEL := hid hel
  subst hle
  clear hel
  go_enter Try.func31, Try.ntmps31
  go_wp2_with fail
  go_loopg [5] d.length (fun g vi wr => ∃ i : Nat, vi = .int .i64 i ∧ i ≤ d.length ∧ d.length - i ≤ g ∧ Hid (Below w.heap.size w wr))
  case atStart => exact ⟨0, rfl, by omega, by omega, Below.refl _ _⟩
  case round =>
    obtain ⟨i, rfl, hi, hgk, HW⟩ := hrel
    by_cases hlt : i < d.length
    · have hlt2 : i < e.length := by have h : e.length = d.length := HLE.out; omega
      have i1 : (0 : Int) ≤ ↑i := by omega
      have i2 : (↑i : Int) < ↑d.length := by omega
      obtain ⟨b1, o1, rfl, k1⟩ : ∃ b off, p = some ⟨b, off, none⟩ ∧ KCx.At w b off d := by
        rcases HD.out with h | h
        · rw [h] at hlt; simp at hlt
        · exact h
      obtain ⟨b2, o2, rfl, k2⟩ : ∃ b off, q = some ⟨b, off, none⟩ ∧ KCx.At w b off e := by
        rcases HE.out with h | h
        · rw [h] at hlt2; simp at hlt2
        · exact h
      have f1 := HA.out _ (List.getElem_mem hlt)
      have f2 := HB.out _ (List.getElem_mem hlt2)
      have hxy : Cx.ch d[i] = Cx.ch e[i] := by
        have h1 : (d.map Cx.ch)[i]? = (e.map Cx.ch)[i]? := by rw [HQ.out]
        rw [List.getElem?_map, List.getElem?_map, List.getElem?_eq_getElem hlt, List.getElem?_eq_getElem hlt2] at h1
        exact Option.some.inj h1
      have HS : Hid (∀ W, Below w.heap.size w W → (W.cell? ⟨b1, o1 + i * 6, none⟩ = some (.string (d[i]).a) ∧ W.cell? ⟨b1, o1 + i * 6 + 1, none⟩ = some (.string (d[i]).b) ∧ W.cell? ⟨b1, o1 + i * 6 + 2, none⟩ = some (.bool (d[i]).wl) ∧ W.cell? ⟨b1, o1 + i * 6 + 3, none⟩ = some (.slice (d[i]).wp (d[i]).wo.length (d[i]).wc) ∧ W.cell? ⟨b1, o1 + i * 6 + 4, none⟩ = some (.bool (d[i]).il) ∧ W.cell? ⟨b1, o1 + i * 6 + 5, none⟩ = some (.slice (d[i]).ip (d[i]).io.length (d[i]).ic)) ∧ (W.cell? ⟨b2, o2 + i * 6, none⟩ = some (.string (e[i]).a) ∧ W.cell? ⟨b2, o2 + i * 6 + 1, none⟩ = some (.string (e[i]).b) ∧ W.cell? ⟨b2, o2 + i * 6 + 2, none⟩ = some (.bool (e[i]).wl) ∧ W.cell? ⟨b2, o2 + i * 6 + 3, none⟩ = some (.slice (e[i]).wp (e[i]).wo.length (e[i]).wc) ∧ W.cell? ⟨b2, o2 + i * 6 + 4, none⟩ = some (.bool (e[i]).il) ∧ W.cell? ⟨b2, o2 + i * 6 + 5, none⟩ = some (.slice (e[i]).ip (e[i]).io.length (e[i]).ic))) := fun W hW => ⟨kcx_at (Kind.at_kept k1 hW) i hlt, kcx_at (Kind.at_kept k2 hW) i hlt2⟩
      obtain ⟨x, hx⟩ : ∃ x, d[i] = x := ⟨_, rfl⟩
      obtain ⟨y, hy⟩ : ∃ y, e[i] = y := ⟨_, rfl⟩
      rw [hx] at HS f1 hxy
      rw [hy] at HS f2 hxy
      clear hx hy
      obtain ⟨xa, xb, xwl, xwp, xwc, xwo, xil, xip, xic, xio⟩ := x
      obtain ⟨ya, yb, ywl, ywp, ywc, ywo, yil, yip, yic, yio⟩ := y
      injection hxy with e1 e2 e3 e4 e5
      injection e1 with e6 e7
      have e6' : xa = ya := e6
      have e7' : xb = yb := e7
      have e2' : xwl = ywl := e2
      have e4' : xil = yil := e4
      subst e6' e7' e2' e4'
      have hne := fun W => Z.neq_key xa xb xa xb W
      have hk : Z.eqK xa xb xa xb = true := (Z.eqK_iff (xa, xb) (xa, xb)).trans (decide_eq_true rfl)
      rw [hk] at hne
      have HC1 : Hid (∀ W, Below w.heap.size w W → Calls Try.prog 45 #[.slice xwp xwo.length xwc, .slice ywp ywo.length ywc] W fun r w' => r = .returned (.bool true) ∧ ∃ n, w' = W.drewN n) := fun W hW => by
        have := sameF_any _ _ xwo ywo W (f1.was.kept hW) (f2.was.kept hW) f1.wfit f2.wfit
        rw [decide_eq_true e3] at this
        exact this
      have HC2 : Hid (∀ W, Below w.heap.size w W → Calls Try.prog 45 #[.slice xip xio.length xic, .slice yip yio.length yic] W fun r w' => r = .returned (.bool true) ∧ ∃ n, w' = W.drewN n) := fun W hW => by
        have := sameF_any _ _ xio yio W (f1.is.kept hW) (f2.is.kept hW) f1.ifit f2.ifit
        rw [decide_eq_true e5] at this
        exact this
      clear hk e2 e3 e4 e5 e6 e7
      simp only at HS
      clear k1 k2 f1 f2
      go_upto_region 6 with fail
      have HWD : Hid (Below w.heap.size w wr.drew) := HW.out.drew
      refine wp_region_held_drew (S := fun w' => w'.cell? ⟨b1, o1 + i * 6, none⟩ = some (.string xa) ∧ w'.cell? ⟨b1, o1 + i * 6 + 1, none⟩ = some (.string xb) ∧ w'.cell? ⟨b1, o1 + i * 6 + 2, none⟩ = some (.bool xwl) ∧ w'.cell? ⟨b1, o1 + i * 6 + 3, none⟩ = some (.slice xwp xwo.length xwc) ∧ w'.cell? ⟨b1, o1 + i * 6 + 4, none⟩ = some (.bool xil) ∧ w'.cell? ⟨b1, o1 + i * 6 + 5, none⟩ = some (.slice xip xio.length xic) ∧ w'.cell? ⟨b2, o2 + i * 6, none⟩ = some (.string xa) ∧ w'.cell? ⟨b2, o2 + i * 6 + 1, none⟩ = some (.string xb) ∧ w'.cell? ⟨b2, o2 + i * 6 + 2, none⟩ = some (.bool xwl) ∧ w'.cell? ⟨b2, o2 + i * 6 + 3, none⟩ = some (.slice ywp ywo.length ywc) ∧ w'.cell? ⟨b2, o2 + i * 6 + 4, none⟩ = some (.bool xil) ∧ w'.cell? ⟨b2, o2 + i * 6 + 5, none⟩ = some (.slice yip yio.length yic)) (by kernel_rfl) (by have := HS.out _ HWD.out; simpa only [and_assoc] using this) (fun hHeld => ?_)
      refine take_val (i := 0) (.slice (some ⟨b1, o1, none⟩) d.length cap) rfl (by kernel_rfl) (by kernel_rfl) (by kernel_rfl) (fun _ _ _ h => h) (by rfl) (fun w hSw => by go_simp) hHeld ?_
      simp only [Act.put, List.setIfInBounds_toArray, List.set_cons_zero, List.set_cons_succ]
      refine take_val (i := 1) (.int .i64 i) rfl (by kernel_rfl) (by kernel_rfl) (by kernel_rfl) (fun _ _ _ h => h) (by rfl) (fun w hSw => by go_simp) hHeld ?_
      simp only [Act.put, List.setIfInBounds_toArray, List.set_cons_zero, List.set_cons_succ]
      refine take_val (i := 2) (.pointer (some ⟨b1, o1 + i * 6, none⟩)) rfl (by kernel_rfl) (by kernel_rfl) (by kernel_rfl) (fun _ _ _ h => h) (by rfl) (fun w hSw => by go_simp) hHeld ?_
      simp only [Act.put, List.setIfInBounds_toArray, List.set_cons_zero, List.set_cons_succ]
      refine take_val (i := 3) (.pointer (some ⟨b1, o1 + i * 6, none⟩)) rfl (by kernel_rfl) (by kernel_rfl) (by kernel_rfl) (fun _ _ _ h => h) (by rfl) (fun w hSw => by go_simp) hHeld ?_
      simp only [Act.put, List.setIfInBounds_toArray, List.set_cons_zero, List.set_cons_succ]
      refine take_val (i := 4) (.agg #[.string xa, .string xb]) rfl (by kernel_rfl) (by kernel_rfl) (by kernel_rfl) (fun _ _ _ h => h) (by rfl) (fun w hSw => by go_simp) hHeld ?_
      simp only [Act.put, List.setIfInBounds_toArray, List.set_cons_zero, List.set_cons_succ]
      refine take_val (i := 5) (.slice (some ⟨b2, o2, none⟩) d.length cap') rfl (by kernel_rfl) (by kernel_rfl) (by kernel_rfl) (fun _ _ _ h => h) (by rfl) (fun w hSw => by go_simp) hHeld ?_
      simp only [Act.put, List.setIfInBounds_toArray, List.set_cons_zero, List.set_cons_succ]
      refine take_val (i := 6) (.int .i64 i) rfl (by kernel_rfl) (by kernel_rfl) (by kernel_rfl) (fun _ _ _ h => h) (by rfl) (fun w hSw => by go_simp) hHeld ?_
      simp only [Act.put, List.setIfInBounds_toArray, List.set_cons_zero, List.set_cons_succ]
      refine take_val (i := 7) (.pointer (some ⟨b2, o2 + i * 6, none⟩)) rfl (by kernel_rfl) (by kernel_rfl) (by kernel_rfl) (fun _ _ _ h => h) (by rfl) (fun w hSw => by go_simp) hHeld ?_
      simp only [Act.put, List.setIfInBounds_toArray, List.set_cons_zero, List.set_cons_succ]
      refine take_val (i := 8) (.pointer (some ⟨b2, o2 + i * 6, none⟩)) rfl (by kernel_rfl) (by kernel_rfl) (by kernel_rfl) (fun _ _ _ h => h) (by rfl) (fun w hSw => by go_simp) hHeld ?_
      simp only [Act.put, List.setIfInBounds_toArray, List.set_cons_zero, List.set_cons_succ]
      refine take_val (i := 9) (.agg #[.string xa, .string xb]) rfl (by kernel_rfl) (by kernel_rfl) (by kernel_rfl) (fun _ _ _ h => h) (by rfl) (fun w hSw => by go_simp) hHeld ?_
      simp only [Act.put, List.setIfInBounds_toArray, List.set_cons_zero, List.set_cons_succ]
      refine take_val (i := 10) (.bool false) rfl (by kernel_rfl) (by kernel_rfl) (by kernel_rfl) (fun _ _ _ h => h) (by rfl) (fun w hSw => by go_simp) hHeld ?_
      simp only [Act.put, List.setIfInBounds_toArray, List.set_cons_zero, List.set_cons_succ]
      refine take_val (i := 11) (.bool false) rfl (by kernel_rfl) (by kernel_rfl) (by kernel_rfl) (fun _ _ _ h => h) (by rfl) (fun w hSw => by go_simp) hHeld ?_
      simp only [Act.put, List.setIfInBounds_toArray, List.set_cons_zero, List.set_cons_succ]
      refine take_val (i := 12) (.slice (some ⟨b1, o1, none⟩) d.length cap) rfl (by kernel_rfl) (by kernel_rfl) (by kernel_rfl) (fun _ _ _ h => h) (by rfl) (fun w hSw => by go_simp) hHeld ?_
      simp only [Act.put, List.setIfInBounds_toArray, List.set_cons_zero, List.set_cons_succ]
      refine take_val (i := 13) (.int .i64 i) rfl (by kernel_rfl) (by kernel_rfl) (by kernel_rfl) (fun _ _ _ h => h) (by rfl) (fun w hSw => by go_simp) hHeld ?_
      simp only [Act.put, List.setIfInBounds_toArray, List.set_cons_zero, List.set_cons_succ]
      refine take_val (i := 14) (.pointer (some ⟨b1, o1 + i * 6, none⟩)) rfl (by kernel_rfl) (by kernel_rfl) (by kernel_rfl) (fun _ _ _ h => h) (by rfl) (fun w hSw => by go_simp) hHeld ?_
      simp only [Act.put, List.setIfInBounds_toArray, List.set_cons_zero, List.set_cons_succ]
      refine take_val (i := 15) (.pointer (some ⟨b1, o1 + i * 6 + 2, none⟩)) rfl (by kernel_rfl) (by kernel_rfl) (by kernel_rfl) (fun _ _ _ h => h) (by rfl) (fun w hSw => by go_simp) hHeld ?_
      simp only [Act.put, List.setIfInBounds_toArray, List.set_cons_zero, List.set_cons_succ]
      refine take_val (i := 16) (.bool xwl) rfl (by kernel_rfl) (by kernel_rfl) (by kernel_rfl) (fun _ _ _ h => h) (by rfl) (fun w hSw => by go_simp) hHeld ?_
      simp only [Act.put, List.setIfInBounds_toArray, List.set_cons_zero, List.set_cons_succ]
      refine take_val (i := 17) (.slice (some ⟨b2, o2, none⟩) d.length cap') rfl (by kernel_rfl) (by kernel_rfl) (by kernel_rfl) (fun _ _ _ h => h) (by rfl) (fun w hSw => by go_simp) hHeld ?_
      simp only [Act.put, List.setIfInBounds_toArray, List.set_cons_zero, List.set_cons_succ]
      refine take_val (i := 18) (.int .i64 i) rfl (by kernel_rfl) (by kernel_rfl) (by kernel_rfl) (fun _ _ _ h => h) (by rfl) (fun w hSw => by go_simp) hHeld ?_
      simp only [Act.put, List.setIfInBounds_toArray, List.set_cons_zero, List.set_cons_succ]
      refine take_val (i := 19) (.pointer (some ⟨b2, o2 + i * 6, none⟩)) rfl (by kernel_rfl) (by kernel_rfl) (by kernel_rfl) (fun _ _ _ h => h) (by rfl) (fun w hSw => by go_simp) hHeld ?_
      simp only [Act.put, List.setIfInBounds_toArray, List.set_cons_zero, List.set_cons_succ]
      refine take_val (i := 20) (.pointer (some ⟨b2, o2 + i * 6 + 2, none⟩)) rfl (by kernel_rfl) (by kernel_rfl) (by kernel_rfl) (fun _ _ _ h => h) (by rfl) (fun w hSw => by go_simp) hHeld ?_
      simp only [Act.put, List.setIfInBounds_toArray, List.set_cons_zero, List.set_cons_succ]
      refine take_val (i := 21) (.bool xwl) rfl (by kernel_rfl) (by kernel_rfl) (by kernel_rfl) (fun _ _ _ h => h) (by rfl) (fun w hSw => by go_simp) hHeld ?_
      simp only [Act.put, List.setIfInBounds_toArray, List.set_cons_zero, List.set_cons_succ]
      refine take_val (i := 22) (.bool false) rfl (by kernel_rfl) (by kernel_rfl) (by kernel_rfl) (fun _ _ _ h => h) (by rfl) (fun w hSw => by go_simp) hHeld ?_
      simp only [Act.put, List.setIfInBounds_toArray, List.set_cons_zero, List.set_cons_succ]
      refine take_val (i := 23) (.bool false) rfl (by kernel_rfl) (by kernel_rfl) (by kernel_rfl) (fun _ _ _ h => h) (by rfl) (fun w hSw => by go_simp) hHeld ?_
      simp only [Act.put, List.setIfInBounds_toArray, List.set_cons_zero, List.set_cons_succ]
      refine take_val (i := 24) (.bool false) rfl (by kernel_rfl) (by kernel_rfl) (by kernel_rfl) (fun _ _ _ h => h) (by rfl) (fun w hSw => by go_simp) hHeld ?_
      simp only [Act.put, List.setIfInBounds_toArray, List.set_cons_zero, List.set_cons_succ]
      refine take_val (i := 25) (.slice (some ⟨b1, o1, none⟩) d.length cap) rfl (by kernel_rfl) (by kernel_rfl) (by kernel_rfl) (fun _ _ _ h => h) (by rfl) (fun w hSw => by go_simp) hHeld ?_
      simp only [Act.put, List.setIfInBounds_toArray, List.set_cons_zero, List.set_cons_succ]
      refine take_val (i := 26) (.int .i64 i) rfl (by kernel_rfl) (by kernel_rfl) (by kernel_rfl) (fun _ _ _ h => h) (by rfl) (fun w hSw => by go_simp) hHeld ?_
      simp only [Act.put, List.setIfInBounds_toArray, List.set_cons_zero, List.set_cons_succ]
      refine take_val (i := 27) (.pointer (some ⟨b1, o1 + i * 6, none⟩)) rfl (by kernel_rfl) (by kernel_rfl) (by kernel_rfl) (fun _ _ _ h => h) (by rfl) (fun w hSw => by go_simp) hHeld ?_
      simp only [Act.put, List.setIfInBounds_toArray, List.set_cons_zero, List.set_cons_succ]
      refine take_val (i := 28) (.pointer (some ⟨b1, o1 + i * 6 + 4, none⟩)) rfl (by kernel_rfl) (by kernel_rfl) (by kernel_rfl) (fun _ _ _ h => h) (by rfl) (fun w hSw => by go_simp) hHeld ?_
      simp only [Act.put, List.setIfInBounds_toArray, List.set_cons_zero, List.set_cons_succ]
      refine take_val (i := 29) (.bool xil) rfl (by kernel_rfl) (by kernel_rfl) (by kernel_rfl) (fun _ _ _ h => h) (by rfl) (fun w hSw => by go_simp) hHeld ?_
      simp only [Act.put, List.setIfInBounds_toArray, List.set_cons_zero, List.set_cons_succ]
      refine take_val (i := 30) (.slice (some ⟨b2, o2, none⟩) d.length cap') rfl (by kernel_rfl) (by kernel_rfl) (by kernel_rfl) (fun _ _ _ h => h) (by rfl) (fun w hSw => by go_simp) hHeld ?_
      simp only [Act.put, List.setIfInBounds_toArray, List.set_cons_zero, List.set_cons_succ]
      refine take_val (i := 31) (.int .i64 i) rfl (by kernel_rfl) (by kernel_rfl) (by kernel_rfl) (fun _ _ _ h => h) (by rfl) (fun w hSw => by go_simp) hHeld ?_
      simp only [Act.put, List.setIfInBounds_toArray, List.set_cons_zero, List.set_cons_succ]
      refine take_val (i := 32) (.pointer (some ⟨b2, o2 + i * 6, none⟩)) rfl (by kernel_rfl) (by kernel_rfl) (by kernel_rfl) (fun _ _ _ h => h) (by rfl) (fun w hSw => by go_simp) hHeld ?_
      simp only [Act.put, List.setIfInBounds_toArray, List.set_cons_zero, List.set_cons_succ]
      refine take_val (i := 33) (.pointer (some ⟨b2, o2 + i * 6 + 4, none⟩)) rfl (by kernel_rfl) (by kernel_rfl) (by kernel_rfl) (fun _ _ _ h => h) (by rfl) (fun w hSw => by go_simp) hHeld ?_
      simp only [Act.put, List.setIfInBounds_toArray, List.set_cons_zero, List.set_cons_succ]
      refine take_val (i := 34) (.bool xil) rfl (by kernel_rfl) (by kernel_rfl) (by kernel_rfl) (fun _ _ _ h => h) (by rfl) (fun w hSw => by go_simp) hHeld ?_
      simp only [Act.put, List.setIfInBounds_toArray, List.set_cons_zero, List.set_cons_succ]
      refine take_val (i := 35) (.bool false) rfl (by kernel_rfl) (by kernel_rfl) (by kernel_rfl) (fun _ _ _ h => h) (by rfl) (fun w hSw => by go_simp) hHeld ?_
      simp only [Act.put, List.setIfInBounds_toArray, List.set_cons_zero, List.set_cons_succ]
      refine take_val (i := 36) (.bool false) rfl (by kernel_rfl) (by kernel_rfl) (by kernel_rfl) (fun _ _ _ h => h) (by rfl) (fun w hSw => by go_simp) hHeld ?_
      simp only [Act.put, List.setIfInBounds_toArray, List.set_cons_zero, List.set_cons_succ]
      refine take_val (i := 37) (.bool false) rfl (by kernel_rfl) (by kernel_rfl) (by kernel_rfl) (fun _ _ _ h => h) (by rfl) (fun w hSw => by go_simp) hHeld ?_
      simp only [Act.put, List.setIfInBounds_toArray, List.set_cons_zero, List.set_cons_succ]
      refine take_val (i := 38) (.slice (some ⟨b1, o1, none⟩) d.length cap) rfl (by kernel_rfl) (by kernel_rfl) (by kernel_rfl) (fun _ _ _ h => h) (by rfl) (fun w hSw => by go_simp) hHeld ?_
      simp only [Act.put, List.setIfInBounds_toArray, List.set_cons_zero, List.set_cons_succ]
      refine take_val (i := 39) (.int .i64 i) rfl (by kernel_rfl) (by kernel_rfl) (by kernel_rfl) (fun _ _ _ h => h) (by rfl) (fun w hSw => by go_simp) hHeld ?_
      simp only [Act.put, List.setIfInBounds_toArray, List.set_cons_zero, List.set_cons_succ]
      refine take_val (i := 40) (.pointer (some ⟨b1, o1 + i * 6, none⟩)) rfl (by kernel_rfl) (by kernel_rfl) (by kernel_rfl) (fun _ _ _ h => h) (by rfl) (fun w hSw => by go_simp) hHeld ?_
      simp only [Act.put, List.setIfInBounds_toArray, List.set_cons_zero, List.set_cons_succ]
      refine take_val (i := 41) (.pointer (some ⟨b1, o1 + i * 6 + 3, none⟩)) rfl (by kernel_rfl) (by kernel_rfl) (by kernel_rfl) (fun _ _ _ h => h) (by rfl) (fun w hSw => by go_simp) hHeld ?_
      simp only [Act.put, List.setIfInBounds_toArray, List.set_cons_zero, List.set_cons_succ]
      refine take_val (i := 42) (.slice xwp xwo.length xwc) rfl (by kernel_rfl) (by kernel_rfl) (by kernel_rfl) (fun _ _ _ h => h) (by rfl) (fun w hSw => by go_simp) hHeld ?_
      simp only [Act.put, List.setIfInBounds_toArray, List.set_cons_zero, List.set_cons_succ]
      refine take_val (i := 43) (.slice (some ⟨b2, o2, none⟩) d.length cap') rfl (by kernel_rfl) (by kernel_rfl) (by kernel_rfl) (fun _ _ _ h => h) (by rfl) (fun w hSw => by go_simp) hHeld ?_
      simp only [Act.put, List.setIfInBounds_toArray, List.set_cons_zero, List.set_cons_succ]
      refine take_val (i := 44) (.int .i64 i) rfl (by kernel_rfl) (by kernel_rfl) (by kernel_rfl) (fun _ _ _ h => h) (by rfl) (fun w hSw => by go_simp) hHeld ?_
      simp only [Act.put, List.setIfInBounds_toArray, List.set_cons_zero, List.set_cons_succ]
      refine take_val (i := 45) (.pointer (some ⟨b2, o2 + i * 6, none⟩)) rfl (by kernel_rfl) (by kernel_rfl) (by kernel_rfl) (fun _ _ _ h => h) (by rfl) (fun w hSw => by go_simp) hHeld ?_
      simp only [Act.put, List.setIfInBounds_toArray, List.set_cons_zero, List.set_cons_succ]
      refine take_val (i := 46) (.pointer (some ⟨b2, o2 + i * 6 + 3, none⟩)) rfl (by kernel_rfl) (by kernel_rfl) (by kernel_rfl) (fun _ _ _ h => h) (by rfl) (fun w hSw => by go_simp) hHeld ?_
      simp only [Act.put, List.setIfInBounds_toArray, List.set_cons_zero, List.set_cons_succ]
      refine take_val (i := 47) (.slice ywp ywo.length ywc) rfl (by kernel_rfl) (by kernel_rfl) (by kernel_rfl) (fun _ _ _ h => h) (by rfl) (fun w hSw => by go_simp) hHeld ?_
      simp only [Act.put, List.setIfInBounds_toArray, List.set_cons_zero, List.set_cons_succ]
      clear hHeld
      refine wpAnyH_ready (rs := [48]) (by kernel_rfl) (by simp) ?_
      refine AllReadyH.cons (at_drop0 rfl) (fun K hK => ?_) AllReadyH.nil
      rw [if_pos (by rfl)]
      go_simp
      refine (HC1.out _ HWD.out).mono ?_
      rintro z w1 ⟨rfl, hq⟩
      have HB1 : Hid (Below w.heap.size w w1) := by obtain ⟨n, rfl⟩ := hq; exact bel_drewN HWD.out n
      clear hq
      go_wp2_with fail
      refine hK.out _ _ ((by have := HS.out _ HB1.out; simpa only [and_assoc] using this)) (fun hHeld => ?_)
      clear hK K
      try simp only [Act.put, List.setIfInBounds_toArray, List.set_cons_zero, List.set_cons_succ]
      refine take_val (i := 49) (.bool false) rfl (by kernel_rfl) (by kernel_rfl) (by kernel_rfl) (fun _ _ _ h => h) (by rfl) (fun w hSw => by go_simp) hHeld ?_
      simp only [Act.put, List.setIfInBounds_toArray, List.set_cons_zero, List.set_cons_succ]
      refine take_val (i := 50) (.bool false) rfl (by kernel_rfl) (by kernel_rfl) (by kernel_rfl) (fun _ _ _ h => h) (by rfl) (fun w hSw => by go_simp) hHeld ?_
      simp only [Act.put, List.setIfInBounds_toArray, List.set_cons_zero, List.set_cons_succ]
      refine take_val (i := 51) (.bool false) rfl (by kernel_rfl) (by kernel_rfl) (by kernel_rfl) (fun _ _ _ h => h) (by rfl) (fun w hSw => by go_simp) hHeld ?_
      simp only [Act.put, List.setIfInBounds_toArray, List.set_cons_zero, List.set_cons_succ]
      refine take_val (i := 52) (.slice (some ⟨b1, o1, none⟩) d.length cap) rfl (by kernel_rfl) (by kernel_rfl) (by kernel_rfl) (fun _ _ _ h => h) (by rfl) (fun w hSw => by go_simp) hHeld ?_
      simp only [Act.put, List.setIfInBounds_toArray, List.set_cons_zero, List.set_cons_succ]
      refine take_val (i := 53) (.int .i64 i) rfl (by kernel_rfl) (by kernel_rfl) (by kernel_rfl) (fun _ _ _ h => h) (by rfl) (fun w hSw => by go_simp) hHeld ?_
      simp only [Act.put, List.setIfInBounds_toArray, List.set_cons_zero, List.set_cons_succ]
      refine take_val (i := 54) (.pointer (some ⟨b1, o1 + i * 6, none⟩)) rfl (by kernel_rfl) (by kernel_rfl) (by kernel_rfl) (fun _ _ _ h => h) (by rfl) (fun w hSw => by go_simp) hHeld ?_
      simp only [Act.put, List.setIfInBounds_toArray, List.set_cons_zero, List.set_cons_succ]
      refine take_val (i := 55) (.pointer (some ⟨b1, o1 + i * 6 + 5, none⟩)) rfl (by kernel_rfl) (by kernel_rfl) (by kernel_rfl) (fun _ _ _ h => h) (by rfl) (fun w hSw => by go_simp) hHeld ?_
      simp only [Act.put, List.setIfInBounds_toArray, List.set_cons_zero, List.set_cons_succ]
      refine take_val (i := 56) (.slice xip xio.length xic) rfl (by kernel_rfl) (by kernel_rfl) (by kernel_rfl) (fun _ _ _ h => h) (by rfl) (fun w hSw => by go_simp) hHeld ?_
      simp only [Act.put, List.setIfInBounds_toArray, List.set_cons_zero, List.set_cons_succ]
      refine take_val (i := 57) (.slice (some ⟨b2, o2, none⟩) d.length cap') rfl (by kernel_rfl) (by kernel_rfl) (by kernel_rfl) (fun _ _ _ h => h) (by rfl) (fun w hSw => by go_simp) hHeld ?_
      simp only [Act.put, List.setIfInBounds_toArray, List.set_cons_zero, List.set_cons_succ]
      refine take_val (i := 58) (.int .i64 i) rfl (by kernel_rfl) (by kernel_rfl) (by kernel_rfl) (fun _ _ _ h => h) (by rfl) (fun w hSw => by go_simp) hHeld ?_
      simp only [Act.put, List.setIfInBounds_toArray, List.set_cons_zero, List.set_cons_succ]
      refine take_val (i := 59) (.pointer (some ⟨b2, o2 + i * 6, none⟩)) rfl (by kernel_rfl) (by kernel_rfl) (by kernel_rfl) (fun _ _ _ h => h) (by rfl) (fun w hSw => by go_simp) hHeld ?_
      simp only [Act.put, List.setIfInBounds_toArray, List.set_cons_zero, List.set_cons_succ]
      refine take_val (i := 60) (.pointer (some ⟨b2, o2 + i * 6 + 5, none⟩)) rfl (by kernel_rfl) (by kernel_rfl) (by kernel_rfl) (fun _ _ _ h => h) (by rfl) (fun w hSw => by go_simp) hHeld ?_
      simp only [Act.put, List.setIfInBounds_toArray, List.set_cons_zero, List.set_cons_succ]
      refine take_val (i := 61) (.slice yip yio.length yic) rfl (by kernel_rfl) (by kernel_rfl) (by kernel_rfl) (fun _ _ _ h => h) (by rfl) (fun w hSw => by go_simp) hHeld ?_
      simp only [Act.put, List.setIfInBounds_toArray, List.set_cons_zero, List.set_cons_succ]
      clear hHeld
      refine wpAnyH_ready (rs := [62]) (by kernel_rfl) (by simp) ?_
      refine AllReadyH.cons (at_drop0 rfl) (fun K hK => ?_) AllReadyH.nil
      rw [if_pos (by rfl)]
      go_simp
      refine (HC2.out _ HB1.out).mono ?_
      rintro z w2 ⟨rfl, hq⟩
      have HB2 : Hid (Below w.heap.size w w2) := by obtain ⟨n, rfl⟩ := hq; exact bel_drewN HB1.out n
      clear hq
      go_wp2_with fail
      refine hK.out _ _ ((by have := HS.out _ HB2.out; simpa only [and_assoc] using this)) (fun hHeld => ?_)
      clear hK K
      try simp only [Act.put, List.setIfInBounds_toArray, List.set_cons_zero, List.set_cons_succ]
      refine take_val (i := 63) (.bool false) rfl (by kernel_rfl) (by kernel_rfl) (by kernel_rfl) (fun _ _ _ h => h) (by rfl) (fun w hSw => by go_simp) hHeld ?_
      simp only [Act.put, List.setIfInBounds_toArray, List.set_cons_zero, List.set_cons_succ]
      refine take_val (i := 64) (.bool false) rfl (by kernel_rfl) (by kernel_rfl) (by kernel_rfl) (fun _ _ _ h => h) (by rfl) (fun w hSw => by go_simp) hHeld ?_
      simp only [Act.put, List.setIfInBounds_toArray, List.set_cons_zero, List.set_cons_succ]
      refine wpAnyH_done (by kernel_rfl) ?_ _
      clear hHeld
      go_wp2_with fail
      go_roundg (d.length - (i + 1))
      case measure => omega
      exact ⟨i + 1, by go_num, by omega, by omega, HB2.out⟩
    · have hltz : ¬ (i : Int) < (d.length : Int) := by omega
      go_wp2_with fail
      go_ret
      exact ⟨rfl, HW.out⟩

end Go.Proofs.Ytmihddbnddgfhaa

/-
  A tracker with what a script adds; TrackAlone (stage 13).
-/
namespace Go.Proofs.Ytmihddbnddgfhaa
open Go.RowKit

/-- One more of the script: what is kept, and the last stamp. -/
def layT (p : Tk × Int) (d : Dn) : Tk × Int := ((addT p.1 d).2, if oldT p.1 d then p.2 else d.stamp)
def laidT (most : Int) (ds : List Dn) : Tk × Int := ds.foldl layT (newT most, 0)

theorem laidT_snoc (most : Int) (ds : List Dn) (d : Dn) : laidT most (ds ++ [d]) = layT (laidT most ds) d := by
  unfold laidT
  rw [List.foldl_append]
  rfl

/-- The last stamp is the tracker's. -/
def LastT (p : Tk × Int) : Prop := (p.1.last = none ∧ p.2 = 0) ∨ p.1.last = some p.2
theorem last_lay {p : Tk × Int} (h : LastT p) (d : Dn) : LastT (layT p d) := by
  unfold layT addT
  cases e : oldT p.1 d with
  | true => exact h
  | false => exact Or.inr (keepT_last p.1 d)
theorem last_laid (most : Int) (ds : List Dn) : LastT (laidT most ds) := by
  unfold laidT
  have : ∀ (l : List Dn) (p : Tk × Int), LastT p → LastT (l.foldl layT p) := fun l => by
    induction l with
    | nil => exact fun p h => h
    | cons d l ih => exact fun p h => ih _ (last_lay h d)
  exact this ds _ (Or.inl ⟨rfl, rfl⟩)

theorem add_zero (t : Tk) (d : Dn) : ((addT t d).1 == 0) = !oldT t d := by
  unfold addT
  cases oldT t d <;> rfl

set_option maxHeartbeats 4000000 in
set_option maxRecDepth 100000 in
theorem laid13_any (S : TrackApi) (n0 : Nat) (most : Int) (v : Value) (ops : List Oy13) (W : World) (hn : n0 ≤ W.heap.size) (hv : KOt.Is W v ops) (hx : ∀ x ∈ ops, DIn W x.d) (hl : ops.length ≤ 9000000000000000000) :
    Calls Try.prog 19 #[.int .i64 most, v] W fun e w' => ∃ g, e = .returned (.tuple #[.pointer (some ⟨g, 0, none⟩), .int .u64 (laidT most (ops.map fun x => x.d.dn)).2]) ∧ OneY S n0 W (fun _ => False) g (laidT most (ops.map fun x => x.d.dn)).1 w' := by
  obtain ⟨p, cap, rfl, hd⟩ := hv
  have HD := hid hd
  have HX := hid hx
  have HN := hid (oney_new S n0 W hn most)
  have HN0 := hid hn
  clear hd hx hn
  go_enter Try.func19, Try.ntmps19
  go_wp2_with fail
  refine HN.out.mono ?_
  rintro e w1 ⟨g, rfl, h1⟩
  have H0 : Hid (OneY S n0 W (fun _ => False) g (laidT most ((ops.map fun x => x.d.dn).take 0)).1 w1) := h1
  clear h1 HN
  go_wp2_with fail
  go_loopg [7, 14] ops.length (fun gg v7 vi wr => ∃ i : Nat, vi = .int .i64 i ∧ v7 = .int .u64 (laidT most ((ops.map fun x => x.d.dn).take i)).2 ∧ i ≤ ops.length ∧ ops.length - i ≤ gg ∧ Hid (OneY S n0 W (fun _ => False) g (laidT most ((ops.map fun x => x.d.dn).take i)).1 wr))
  case atStart => exact ⟨0, rfl, rfl, by omega, by omega, H0.out⟩
  case round =>
    clear H0
    obtain ⟨i, rfl, rfl, hi, hgk, HS⟩ := hrel
    have hbw : Below W.heap.size W wr := HS.out.below (Nat.le_refl _) fun k hk => hk.elim
    by_cases hlt : i < ops.length
    · have hltz : (i : Int) < (ops.length : Int) := by omega
      have hiz : (0 : Int) ≤ i := by omega
      obtain ⟨b1, o1, rfl, k1⟩ : ∃ b off, p = some ⟨b, off, none⟩ ∧ KOt.At wr b off ops := by
        rcases HD.out with h | ⟨b, off, h, k⟩
        · rw [h] at hlt; simp at hlt
        · exact ⟨b, off, h, Kind.at_kept k hbw⟩
      obtain ⟨y0, y1, y2, y3, y4, y5, y6⟩ := kot_at k1 i hlt
      have hdi := (HX.out _ (List.getElem_mem hlt)).on hbw
      have htk : (ops.map fun x => x.d.dn).take (i + 1) = (ops.map fun x => x.d.dn).take i ++ [(ops[i]).d.dn] := by
        rw [List.take_succ_eq_append_getElem (by rw [List.length_map]; exact hlt), List.getElem_map]
      obtain ⟨L, hL⟩ : ∃ L, (ops.map fun x => x.d.dn).take i = L := ⟨_, rfl⟩
      rw [hL] at htk HS ⊢
      obtain ⟨P, hP⟩ : ∃ P, laidT most L = P := ⟨_, rfl⟩
      have hsn := laidT_snoc most L (ops[i]).d.dn
      rw [← htk, hP] at hsn
      rw [hP] at HS ⊢
      have HSN := hid hsn
      clear k1 htk hsn hL hP
      generalize ops[i] = x at *
      obtain ⟨V, hV⟩ : ∃ V, wr.alloc (.cells (encOt x).toArray 37) = V := ⟨_, rfl⟩
      obtain ⟨O, hO⟩ : ∃ O, wr.heap.size = O := ⟨_, rfl⟩
      have hbV : Below wr.heap.size wr V := by rw [← hV]; exact (Below.refl _ _).alloc (Nat.le_refl _) _
      have hVo : V.heap[O]? = some (.cells (encOt x).toArray 37 (0, 0)) := by rw [← hV, ← hO]; exact heap_alloc_new wr _
      have HA := hid (oney_add2 HS.out hbV (Nat.le_trans HN0.out (Nat.le_trans hbw.size hbV.size)) x.d (hdi.on hbV))
      have HBX : Hid (∀ W' : World, W'.heap[O]? = V.heap[O]? → W'.cell? ⟨O, 2, none⟩ = some (.int .u64 x.d.stamp)) := fun W' h => by
        rw [Lib.cell_of_heap (h.trans hVo)]; rfl
      have HOLD : Hid (((addT P.1 x.d.dn).1 == 0) = !oldT P.1 x.d.dn) := add_zero _ _
      have hOlt : O < V.heap.size := (Array.getElem?_eq_some_iff.1 hVo).1
      obtain ⟨bo, hbo⟩ : ∃ b, oldT P.1 x.d.dn = b := ⟨_, rfl⟩
      rw [hbo] at HOLD
      have HLAY : Hid (layT P x.d.dn = ((addT P.1 x.d.dn).2, if bo then P.2 else x.d.stamp)) := by show layT P x.d.dn = _; unfold layT; rw [hbo]; rfl
      obtain ⟨cd, hcd⟩ : ∃ c, (addT P.1 x.d.dn).1 = c := ⟨_, rfl⟩
      rw [hcd] at HOLD HA
      obtain ⟨T2, hT2⟩ : ∃ T2, (addT P.1 x.d.dn).2 = T2 := ⟨_, rfl⟩
      rw [hT2] at HLAY HA
      clear hbo hcd hT2 hbV hdi hbw
      obtain ⟨kd, ⟨sn, st, ou, ⟨kp, kc, ks, rp, rc, rs⟩, cp, cc, cs⟩⟩ := x
      simp only [encOt, encDx, Mx.ksl, Mx.rsl, Dx.csl] at *
      have hce := HOLD.out
      have z1 : V.cell? ⟨O, 1, none⟩ = some (.int .u64 sn) := by rw [Lib.cell_of_heap hVo]; rfl
      have z2 : V.cell? ⟨O, 2, none⟩ = some (.int .u64 st) := by rw [Lib.cell_of_heap hVo]; rfl
      have z3 : V.cell? ⟨O, 3, none⟩ = some (.bool ou) := by rw [Lib.cell_of_heap hVo]; rfl
      have z4 : V.cell? ⟨O, 4, none⟩ = some (.slice kp ks.length kc) := by rw [Lib.cell_of_heap hVo]; rfl
      have z5 : V.cell? ⟨O, 5, none⟩ = some (.slice rp rs.length rc) := by rw [Lib.cell_of_heap hVo]; rfl
      have z6 : V.cell? ⟨O, 6, none⟩ = some (.slice cp cs.length cc) := by rw [Lib.cell_of_heap hVo]; rfl
      clear hVo
      go_wp2_with fail
      try rw [hO]
      try rw [hV]
      refine HA.out.mono ?_
      rintro e w5 ⟨rfl, h5, hk5⟩
      have c2 := HBX.out w5 (hk5 O (by omega) hOlt)
      have H5 := hid h5
      clear h5 hk5 y0 y1 y2 y3 y4 y5 y6 z1 z2 z3 z4 z5 z6
      cases bo with
      | true =>
        go_wp2_with fail
        go_roundg (ops.length - (i + 1))
        case measure => omega
        exact ⟨i + 1, by go_num, by rw [HSN.out, HLAY.out]; rfl, by omega, by omega, by rw [HSN.out, HLAY.out]; exact H5.out⟩
      | false =>
        go_wp2_with fail
        go_roundg (ops.length - (i + 1))
        case measure => omega
        exact ⟨i + 1, by go_num, by rw [HSN.out, HLAY.out]; rfl, by omega, by omega, by rw [HSN.out, HLAY.out]; exact H5.out⟩
    · have hltz : ¬ (i : Int) < (ops.length : Int) := by omega
      have hti : (ops.map fun x => x.d.dn).take i = ops.map fun x => x.d.dn := List.take_of_length_le (by rw [List.length_map]; omega)
      rw [hti] at HS ⊢
      go_wp2_with fail
      go_ret2
      exact ⟨g, rfl, HS.out⟩

end Go.Proofs.Ytmihddbnddgfhaa

/-
  TrackAlone (stage 13): a snapshot at or above all stamps never clashes.
-/
namespace Go.Proofs.Ytmihddbnddgfhaa
open Go.RowKit

theorem laidT_ok (most : Int) (ds : List Dn) (h : ∀ d ∈ ds, 0 ≤ d.stamp) : OkT (laidT most ds).1 := by
  unfold laidT
  have : ∀ (l : List Dn) (p : Tk × Int), OkT p.1 → (∀ d ∈ l, 0 ≤ d.stamp) → OkT (l.foldl layT p).1 := fun l => by
    induction l with
    | nil => exact fun p h _ => h
    | cons d l ih => exact fun p h hl => ih _ (ok_addT h d (hl d (by simp))) fun x hx => hl x (List.mem_cons_of_mem _ hx)
  exact this ds _ (ok_newT most) h

theorem laidT_last (most : Int) (ds : List Dn) (h : ∀ d ∈ ds, 0 ≤ d.stamp ∧ d.stamp ≤ 18446744073709551615) : 0 ≤ (laidT most ds).2 ∧ (laidT most ds).2 ≤ 18446744073709551615 := by
  unfold laidT
  have : ∀ (l : List Dn) (p : Tk × Int), (0 ≤ p.2 ∧ p.2 ≤ 18446744073709551615) → (∀ d ∈ l, 0 ≤ d.stamp ∧ d.stamp ≤ 18446744073709551615) → 0 ≤ (l.foldl layT p).2 ∧ (l.foldl layT p).2 ≤ 18446744073709551615 := fun l => by
    induction l with
    | nil => exact fun p h _ => h
    | cons d l ih =>
      refine fun p h hl => ih _ ?_ fun x hx => hl x (List.mem_cons_of_mem _ hx)
      show 0 ≤ (if oldT p.1 d then p.2 else d.stamp) ∧ (if oldT p.1 d then p.2 else d.stamp) ≤ 18446744073709551615
      have := hl d (by simp)
      split <;> omega
  exact this ds _ ⟨Int.le_refl _, by omega⟩ h

/-- What a snapshot at or above the last stamp is told. -/
theorem laid_alone {p : Tk × Int} (hp : LastT p) (hk : OkT p.1) (h2 : 0 ≤ p.2) {s : Int} (hs : p.2 ≤ s) (m : Mk) (c : List Ch) : checkT p.1 s m c = (false, 0) ∧ p.1.sum ≤ p.2 := by
  refine ⟨alone_ok hk (fun x hx => ?_) (by omega) m c, ?_⟩
  · rcases hp with ⟨h, _⟩ | h
    · rw [h] at hx; cases hx
    · rw [h] at hx
      injection hx with hx
      omega
  · rcases hk.sum.2 with e | ⟨x, hx, hle⟩
    · omega
    · rcases hp with ⟨h, _⟩ | h
      · rw [h] at hx; cases hx
      · rw [h] at hx
        injection hx with hx
        omega

set_option maxHeartbeats 4000000 in
set_option maxRecDepth 100000 in
theorem talone13_any (S : TrackApi) (hF : Fixed13) (most : Int) (v : Value) (ops : List Oy13) (ask : Dx) (W : World) (hv : KOt.Is W v ops) (hx : ∀ x ∈ ops, DIn W x.d) (hl : ops.length ≤ 9000000000000000000) (ha : DIn W ask) :
    Calls Try.prog 4 #[.int .i64 most, v, .agg (encDx ask).toArray] W fun e w' => e = .returned (.bool true) ∧ Below W.heap.size W w' := by
  obtain ⟨M, hM⟩ : ∃ M, W.heap.size = M := ⟨_, rfl⟩
  obtain ⟨V, hV⟩ : ∃ V, W.alloc (.cells (encDx ask).toArray 35) = V := ⟨_, rfl⟩
  have hbV : Below W.heap.size W V := by rw [← hV]; exact (Below.refl _ _).alloc (Nat.le_refl _) _
  have hVo : V.heap[M]? = some (.cells (encDx ask).toArray 35 (0, 0)) := by rw [← hV, ← hM]; exact heap_alloc_new W _
  have hMl : M < V.heap.size := (Array.getElem?_eq_some_iff.1 hVo).1
  have hst : ∀ d ∈ ops.map fun x => x.d.dn, 0 ≤ d.stamp ∧ d.stamp ≤ 18446744073709551615 := fun d hd => by
    obtain ⟨x, hxx, rfl⟩ := List.mem_map.1 hd
    exact (hx x hxx).stamp
  obtain ⟨P, hP⟩ : ∃ P, laidT most (ops.map fun x => x.d.dn) = P := ⟨_, rfl⟩
  have hlast := laidT_last most _ hst
  have hok := laidT_ok most _ fun d hd => (hst d hd).1
  have hlt := last_laid most (ops.map fun x => x.d.dn)
  rw [hP] at hlast hok hlt
  have hsn := ha.snap
  have HC0 := hid (laid_alone hlt hok hlast.1 (s := max ask.snap P.2) (by omega) ask.m.mk' (ask.cs.map Cx.ch))
  have HF1 := hid (hF V)
  have HLD : Hid (∀ w1, Below V.heap.size V w1 → Calls Try.prog 19 #[.int .i64 most, v] w1 fun e w' => ∃ g, e = .returned (.tuple #[.pointer (some ⟨g, 0, none⟩), .int .u64 P.2]) ∧ OneY S w1.heap.size w1 (fun _ => False) g P.1 w') := fun w1 hb => by
    have hbw := bel_then hbV hbV.size hb
    have := laid13_any S w1.heap.size most v ops w1 (Nat.le_refl _) (Kind.is_kept hv hbw) (fun x hxx => (hx x hxx).on hbw) hl
    rw [hP] at this
    exact this
  have HA := hid ha
  have HBV := hid hbV
  have HBX : Hid (∀ W' : World, W'.heap[M]? = V.heap[M]? → W'.cell? ⟨M, 0, none⟩ = some (.int .u64 ask.snap) ∧ W'.cell? ⟨M, 3, none⟩ = some ask.m.ksl ∧ W'.cell? ⟨M, 4, none⟩ = some ask.m.rsl ∧ W'.cell? ⟨M, 5, none⟩ = some ask.csl) := fun W' h => by
    have := h.trans hVo
    exact ⟨by rw [Lib.cell_of_heap this]; rfl, by rw [Lib.cell_of_heap this]; rfl, by rw [Lib.cell_of_heap this]; rfl, by rw [Lib.cell_of_heap this]; rfl⟩
  obtain ⟨pv, cv, rfl⟩ : ∃ p c, v = .slice p ops.length c := by obtain ⟨p, c, h1, _⟩ := hv; exact ⟨p, c, h1⟩
  have hmx : max ask.snap P.2 ≤ 18446744073709551615 := by omega
  have HMX := hid hmx
  clear hv hx ha hst hP hok hlt hbV hVo hmx
  obtain ⟨sn, st, ou, ⟨kp, kc, ks, rp, rc, rs⟩, cp, cc, cs⟩ := ask
  simp only [encDx, Mx.ksl, Mx.rsl, Dx.csl] at *
  go_enter Try.func4, Try.ntmps4
  go_wp2_with fail
  try rw [hM]
  try rw [hV]
  refine HF1.out.mono ?_
  rintro e w1 ⟨rfl, hb1⟩
  have HL1 := hid (HLD.out w1 hb1)
  have HB1 := hid hb1
  clear hb1 HLD HF1
  go_wp2_with fail
  refine HL1.out.mono ?_
  rintro e w2 ⟨g, rfl, h2⟩
  have hb2 : Below w1.heap.size w1 w2 := h2.below (Nat.le_refl _) fun k hk => hk.elim
  have hbV2 : Below V.heap.size V w2 := bel_then HB1.out HB1.out.size hb2
  obtain ⟨c0, c3, c4, c5⟩ := HBX.out w2 (hbV2.block M hMl)
  have hbw2 : Below W.heap.size W w2 := bel_then HBV.out HBV.out.size hbV2
  have hin := HA.out.on hbw2
  have HCK := hid (oney_check h2 (max sn P.2) ⟨kp, kc, ks, rp, rc, rs⟩ (.slice cp cs.length cc) cs (by omega) HMX.out hin.mrk hin.chg hin.sz)
  rw [HC0.out.1] at HCK
  have H2 := hid h2
  have HBW2 := hid hbw2
  clear h2 hb2 hbV2 hbw2 hin HL1
  simp only [encMx, Mx.ksl, Mx.rsl] at HCK
  go_wp2_with fail
  refine HCK.out.mono ?_
  rintro e w3 ⟨rfl, hb3⟩
  have HSM := hid (oney_sum (H2.out.on hb3))
  have HB3 := hid (bel_then HBW2.out HBW2.out.size hb3)
  have hle := HC0.out.2
  have hled : decide (P.1.sum ≤ P.2) = true := decide_eq_true hle
  clear hb3 HCK c0 c3 c4 c5
  go_wp2_with (go_at_call 15; refine HSM.out.mono ?_; rintro e w4 ⟨rfl, hb4⟩; have HB4 := hid (bel_then HB3.out HB3.out.size hb4); clear hb4)
  go_ret
  exact ⟨by first | rfl | simp [hle], HB4.out⟩

end Go.Proofs.Ytmihddbnddgfhaa

/-
  TrackDrops (stage 13): what is dropped is not seen by snapshots of that stamp or above; a tracker that keeps fewer is no less strict.
-/
namespace Go.Proofs.Ytmihddbnddgfhaa
open Go.RowKit

theorem less_lay {p q : Tk × Int} (h : LessT p.1 q.1) (d : Dn) : LessT (layT p d).1 (layT q d).1 := (less_add h d).1
theorem less_laid {x y : Int} (h : roomT x ≤ roomT y) (ds : List Dn) : LessT (laidT x ds).1 (laidT y ds).1 := by
  unfold laidT
  have : ∀ (l : List Dn) (p q : Tk × Int), LessT p.1 q.1 → LessT (l.foldl layT p).1 (l.foldl layT q).1 := fun l => by
    induction l with
    | nil => exact fun p q h => h
    | cons d l ih => exact fun p q h => ih _ _ (less_lay h d)
  exact this ds _ _ (less_new h)
theorem room_less (most : Int) : roomT (min (max most 0) 64 - 1) ≤ roomT most := by
  unfold roomT
  omega

theorem addT_most (t : Tk) (d : Dn) : (addT t d).2.most = t.most := by
  unfold addT
  split
  · rfl
  · exact keepT_most t d
theorem laid_most (most : Int) (ds : List Dn) : (laidT most ds).1.most = roomT most := by
  unfold laidT
  have : ∀ (l : List Dn) (p : Tk × Int), (l.foldl layT p).1.most = p.1.most := fun l => by
    induction l with
    | nil => exact fun p => rfl
    | cons d l ih => exact fun p => (ih _).trans (addT_most p.1 d)
  exact this ds _
theorem room_le (most : Int) : roomT most ≤ 64 := by
  unfold roomT
  omega

/-- What two checks tell where the one keeps fewer. -/
theorem less_told {f a : Tk} (h : LessT f a) (s : Int) (m : Mk) (c : List Ch) : (checkT a s m c).2 = 0 ∨ ((checkT a s m c).2 = 11 ∧ (checkT a s m c).1 = false ∧ (checkT f s m c).2 = 11 ∧ (checkT f s m c).1 = false) := by
  cases e : clashT a s m c with
  | false => left; unfold checkT; rw [e]; rfl
  | true =>
    right
    have := less_clash h e
    unfold checkT
    rw [e, this]
    exact ⟨rfl, rfl, rfl, rfl⟩

/-- Another tracker's turn is none of one's own. -/
theorem prg_apart {S : TrackApi} {n0 n1 : Nat} {W W1 w' : World} {B Bc : Nat → Prop} {g gc : Nat} {t tc : Tk} (hb : S.Prg n0 W B g t) (hc : S.Prg n1 W1 Bc gc tc) (hn : W.heap.size ≤ n1) (f : Fr B W1 w') : S.Prg n1 w' Bc gc tc :=
  S.fr hc f fun k hk hB => by
    have h1 := (S.blk hb k hB).2
    have h2 := (S.blk hc k hk).1
    omega

set_option maxHeartbeats 8000000 in
set_option maxRecDepth 100000 in
theorem tdrops13_any (S : TrackApi) (hF : Fixed13) (most : Int) (v : Value) (ops : List Oy13) (ask : Dx) (W : World) (hm0 : -9223372036854775808 ≤ most) (hm1 : most ≤ 9223372036854775807) (hv : KOt.Is W v ops) (hx : ∀ x ∈ ops, DIn W x.d) (hl : ops.length ≤ 9000000000000000000) (ha : DIn W ask) :
    Calls Try.prog 5 #[.int .i64 most, v, .agg (encDx ask).toArray] W fun e w' => e = .returned (.bool true) ∧ Below W.heap.size W w' := by
  obtain ⟨M, hM⟩ : ∃ M, W.heap.size = M := ⟨_, rfl⟩
  obtain ⟨V, hV⟩ : ∃ V, W.alloc (.cells (encDx ask).toArray 35) = V := ⟨_, rfl⟩
  have hbV : Below W.heap.size W V := by rw [← hV]; exact (Below.refl _ _).alloc (Nat.le_refl _) _
  have hVo : V.heap[M]? = some (.cells (encDx ask).toArray 35 (0, 0)) := by rw [← hV, ← hM]; exact heap_alloc_new W _
  have hMl : M < V.heap.size := (Array.getElem?_eq_some_iff.1 hVo).1
  obtain ⟨P, hP⟩ : ∃ P, laidT most (ops.map fun x => x.d.dn) = P := ⟨_, rfl⟩
  obtain ⟨Z, hZ⟩ : ∃ Z, laidT (min (max most 0) 64 - 1) (ops.map fun x => x.d.dn) = Z := ⟨_, rfl⟩
  have hless := less_laid (room_less most) (ops.map fun x => x.d.dn)
  rw [hP, hZ] at hless
  have HLESS := hid hless
  have hmo := laid_most most (ops.map fun x => x.d.dn)
  have hro := room_le most
  rw [hP] at hmo
  have HF1 := hid (hF V)
  have HLD : Hid (∀ w1, Below V.heap.size V w1 → Calls Try.prog 19 #[.int .i64 most, v] w1 fun e w' => ∃ g, e = .returned (.tuple #[.pointer (some ⟨g, 0, none⟩), .int .u64 P.2]) ∧ OneY S w1.heap.size w1 (fun _ => False) g P.1 w') := fun w1 hb => by
    have hbw := bel_then hbV hbV.size hb
    have := laid13_any S w1.heap.size most v ops w1 (Nat.le_refl _) (Kind.is_kept hv hbw) (fun x hxx => (hx x hxx).on hbw) hl
    rw [hP] at this
    exact this
  have HLF : Hid (∀ w1, Below V.heap.size V w1 → Calls Try.prog 19 #[.int .i64 (min (max most 0) 64 - 1), v] w1 fun e w' => ∃ g, e = .returned (.tuple #[.pointer (some ⟨g, 0, none⟩), .int .u64 Z.2]) ∧ OneY S w1.heap.size w1 (fun _ => False) g Z.1 w') := fun w1 hb => by
    have hbw := bel_then hbV hbV.size hb
    have := laid13_any S w1.heap.size (min (max most 0) 64 - 1) v ops w1 (Nat.le_refl _) (Kind.is_kept hv hbw) (fun x hxx => (hx x hxx).on hbw) hl
    rw [hZ] at this
    exact this
  have HA := hid ha
  have HBV := hid hbV
  have HBX : Hid (∀ W' : World, Below V.heap.size V W' → W'.cell? ⟨M, 0, none⟩ = some (.int .u64 ask.snap) ∧ W'.cell? ⟨M, 1, none⟩ = some (.int .u64 ask.stamp) ∧ W'.cell? ⟨M, 3, none⟩ = some ask.m.ksl ∧ W'.cell? ⟨M, 4, none⟩ = some ask.m.rsl ∧ W'.cell? ⟨M, 5, none⟩ = some ask.csl) := fun W' h => by
    have := (h.block M hMl).trans hVo
    exact ⟨by rw [Lib.cell_of_heap this]; rfl, by rw [Lib.cell_of_heap this]; rfl, by rw [Lib.cell_of_heap this]; rfl, by rw [Lib.cell_of_heap this]; rfl, by rw [Lib.cell_of_heap this]; rfl⟩
  obtain ⟨pv, cv, rfl⟩ : ∃ p c, v = .slice p ops.length c := by obtain ⟨p, c, h1, _⟩ := hv; exact ⟨p, c, h1⟩
  have hsn := ha.snap
  have hst := ha.stamp
  have hwr : IntKind.i64.wrap (min (max most 0) 64 - 1) = min (max most 0) 64 - 1 := by rw [IntKind.wrap_i64]; omega
  clear hv hx ha hP hZ hbV hVo hless
  obtain ⟨sn, st, ou, ⟨kp, kc, ks, rp, rc, rs⟩, cp, cc, cs⟩ := ask
  simp only [encDx, Mx.ksl, Mx.rsl, Dx.csl] at *
  go_enter Try.func5, Try.ntmps5
  go_wp2_with fail
  try rw [hM]
  try rw [hV]
  refine HF1.out.mono ?_
  rintro e w1 ⟨rfl, hb1⟩
  have HL1 := hid (HLD.out w1 hb1)
  have HB1 := hid hb1
  clear hb1 HF1
  go_wp2_with fail
  refine HL1.out.mono ?_
  rintro e w2 ⟨g, rfl, h2⟩
  have HB2 := hid (bel_then HB1.out HB1.out.size (h2.below (Nat.le_refl _) fun k hk => hk.elim))
  have H2 := hid h2
  have HL2 := hid (HLD.out w2 HB2.out)
  clear h2 HL1 HLD
  go_wp2_with fail
  refine HL2.out.mono ?_
  rintro e w3 ⟨g3, rfl, h3⟩
  have HB23 : Hid (Below w2.heap.size w2 w3) := h3.below (Nat.le_refl _) fun k hk => hk.elim
  have HB3 := hid (bel_then HB2.out HB2.out.size HB23.out)
  have H3 := hid h3
  have HL3 := hid (HLF.out w3 HB3.out)
  clear h3 HL2 HLF
  go_wp2_with fail
  refine HL3.out.mono ?_
  rintro e w4 ⟨g4, rfl, h4⟩
  have HB34 : Hid (Below w3.heap.size w3 w4) := h4.below (Nat.le_refl _) fun k hk => hk.elim
  have HB4 := hid (bel_then HB3.out HB3.out.size HB34.out)
  obtain ⟨c0, c1, c3, c4, c5⟩ := HBX.out w4 HB4.out
  obtain ⟨Bb, hb1, hb2, hb3⟩ := H3.out
  obtain ⟨Bc, hc1, _⟩ := h4
  have HDR := hid (S.drop (TrackApi.on hb1 HB34.out) (Nat.le_trans HB23.out.size HB34.out.size) st hst.1 hst.2)
  have HAP : Hid (∀ w5, Fr Bb w4 w5 → S.Prg w3.heap.size w5 Bc g4 Z.1) := fun w5 f => prg_apart hb1 hc1 (Nat.le_refl _) f
  have HTB : Hid (∀ w5, YTurn S.Prg w2.heap.size w4 Bb g3 (dropT P.1 st) w5 → OneY S w2.heap.size w2 (fun _ => False) g3 (dropT P.1 st) w5 ∧ S.Prg w3.heap.size w5 Bc g4 Z.1) := fun w5 h => by
    refine ⟨OneY.turn (Fr.then hb2 (Fr.of_below (P := fun _ => False) HB34.out) fun _ h => h.elim) hb3 h, ?_⟩
    obtain ⟨B', _, f, _⟩ := h
    exact HAP.out w5 f
  clear hb1 hb2 hb3 hc1 HL3 H3 HAP
  go_wp2_with fail
  refine HDR.out.mono ?_
  rintro e w5 ⟨rfl, h5⟩
  obtain ⟨hb5, hc5⟩ := HTB.out w5 h5
  have HB25 : Hid (Below w2.heap.size w2 w5) := hb5.below (Nat.le_refl _) fun k hk => hk.elim
  have HB5 := hid (bel_then HB2.out HB2.out.size HB25.out)
  have HA5 := hid (H2.out.on HB25.out)
  have HBT := hid hb5
  have HCT := hid hc5
  have hin5 := HA.out.on (bel_then HBV.out HBV.out.size HB5.out)
  obtain ⟨d0, d1, d3, d4, d5⟩ := HBX.out w5 HB5.out
  have HK1 := hid (oney_check HA5.out (max sn st) ⟨kp, kc, ks, rp, rc, rs⟩ (.slice cp cs.length cc) cs (by omega) (by omega) hin5.mrk hin5.chg hin5.sz)
  obtain ⟨X, hX⟩ : ∃ X, checkT P.1 (max sn st) (Mx.mk' ⟨kp, kc, ks, rp, rc, rs⟩) (cs.map Cx.ch) = X := ⟨_, rfl⟩
  have HX2 : Hid (checkT (dropT P.1 st) (max sn st) (Mx.mk' ⟨kp, kc, ks, rp, rc, rs⟩) (cs.map Cx.ch) = X) := by show _ = _; rw [drop_check P.1 (by omega), hX]
  rw [hX] at HK1
  clear h5 hb5 hc5 hin5 HTB HDR c0 c1 c3 c4 c5 hX
  simp only [encMx, Mx.ksl, Mx.rsl] at HK1
  go_wp2_with fail
  refine HK1.out.mono ?_
  rintro e w6 ⟨rfl, hb56⟩
  have HB6 := hid (bel_then HB5.out HB5.out.size hb56)
  have HA6 := hid (HA5.out.on hb56)
  have HBT6 := hid (HBT.out.on hb56)
  have HCT6 := hid (TrackApi.on HCT.out hb56)
  have hin6 := HA.out.on (bel_then HBV.out HBV.out.size HB6.out)
  have HK2 := hid (oney_check HBT6.out (max sn st) ⟨kp, kc, ks, rp, rc, rs⟩ (.slice cp cs.length cc) cs (by omega) (by omega) hin6.mrk hin6.chg hin6.sz)
  rw [HX2.out] at HK2
  clear d0 d1 d3 d4 d5
  obtain ⟨d0, d1, d3, d4, d5⟩ := HBX.out w6 HB6.out
  clear hb56 hin6 HK1 HA5 HBT HCT HX2
  simp only [encMx, Mx.ksl, Mx.rsl] at HK2
  go_wp2_with fail
  refine HK2.out.mono ?_
  rintro e w7 ⟨rfl, hb67⟩
  have HB7 := hid (bel_then HB6.out HB6.out.size hb67)
  have HA7 := hid (HA6.out.on hb67)
  have HBT7 := hid (HBT6.out.on hb67)
  have HCT7 := hid (TrackApi.on HCT6.out hb67)
  have hin7 := HA.out.on (bel_then HBV.out HBV.out.size HB7.out)
  have HK3 := hid (oney_check HA7.out sn ⟨kp, kc, ks, rp, rc, rs⟩ (.slice cp cs.length cc) cs hsn.1 hsn.2 hin7.mrk hin7.chg hin7.sz)
  have HTOLD := hid (less_told HLESS.out sn (Mx.mk' ⟨kp, kc, ks, rp, rc, rs⟩) (cs.map Cx.ch))
  obtain ⟨Y, hY⟩ : ∃ Y, checkT P.1 sn (Mx.mk' ⟨kp, kc, ks, rp, rc, rs⟩) (cs.map Cx.ch) = Y := ⟨_, rfl⟩
  obtain ⟨U, hU⟩ : ∃ U, checkT Z.1 sn (Mx.mk' ⟨kp, kc, ks, rp, rc, rs⟩) (cs.map Cx.ch) = U := ⟨_, rfl⟩
  rw [hY] at HK3 HTOLD
  rw [hU] at HTOLD
  clear d0 d1 d3 d4 d5
  obtain ⟨d0, d1, d3, d4, d5⟩ := HBX.out w7 HB7.out
  clear hb67 hin7 HK2 HA6 HBT6 HCT6 hY
  simp only [encMx, Mx.ksl, Mx.rsl] at HK3
  go_wp2_with fail
  refine HK3.out.mono ?_
  rintro e w8 ⟨rfl, hb78⟩
  have HB8 := hid (bel_then HB7.out HB7.out.size hb78)
  have HA8 := hid (HA7.out.on hb78)
  have HBT8 := hid (HBT7.out.on hb78)
  have HCT8 := hid (TrackApi.on HCT7.out hb78)
  have hin8 := HA.out.on (bel_then HBV.out HBV.out.size HB8.out)
  have HK4 := hid (S.check HCT8.out sn ⟨kp, kc, ks, rp, rc, rs⟩ (.slice cp cs.length cc) cs hsn.1 hsn.2 hin8.mrk hin8.chg hin8.sz)
  rw [hU] at HK4
  clear d0 d1 d3 d4 d5
  obtain ⟨d0, d1, d3, d4, d5⟩ := HBX.out w8 HB8.out
  clear hb78 hin8 HK3 HA7 HBT7 HCT7 hU
  simp only [encMx, Mx.ksl, Mx.rsl] at HK4
  go_wp2_with fail
  refine HK4.out.mono ?_
  rintro e w9 ⟨rfl, hb89⟩
  have HB9 := hid (bel_then HB8.out HB8.out.size hb89)
  have HA9 := hid (HA8.out.on hb89)
  have HBT9 := hid (HBT8.out.on hb89)
  clear hb89 HK4 HA8 HBT8 HCT8 d0 d1 d3 d4 d5
  have HLA := hid (oney_len HA9.out)
  go_wp2_with fail
  refine HLA.out.mono ?_
  rintro e w10 ⟨rfl, hb10⟩
  have hfew := HA9.out.ok.few
  have hdl : (dropT P.1 st).kept.length ≤ P.1.kept.length := List.length_filter_le _ _
  have HB10 := hid (bel_then HB9.out HB9.out.size hb10)
  have HA10 := hid (HA9.out.on hb10)
  have HBT10 := hid (HBT9.out.on hb10)
  have HLB := hid (oney_len HBT10.out)
  have HTW : Hid ((dropT (dropT P.1 st) st).kept.length = (dropT P.1 st).kept.length ∧ (dropT P.1 st).sum = P.1.sum) := ⟨by rw [drop_twice], rfl⟩
  have HDR2 : Hid (∀ w, Below w10.heap.size w10 w → Calls Try.prog 21 #[.pointer (some ⟨g3, 0, none⟩), .int .u64 st] w fun e w' => e = .returned (.int .i64 0) ∧ Below W.heap.size W w') := fun w hb => by
    refine (oney_drop (HBT10.out.on hb) (Nat.le_trans HBT10.out.size hb.size) st hst.1 hst.2).mono fun e w' q => ⟨?_, ?_⟩
    · rw [q.1, HTW.out.1, Int.sub_self]
    · have hq : Below w2.heap.size w2 w' := q.2.below (Nat.le_refl _) fun k hk => hk.elim
      exact bel_then HBV.out HBV.out.size (bel_then HB2.out HB2.out.size hq)
  have HSB : Hid (∀ w, Below w10.heap.size w10 w → Calls Try.prog 15 #[.pointer (some ⟨g3, 0, none⟩)] w fun e w' => e = .returned (.int .u64 P.1.sum) ∧ Below w.heap.size w w') := fun w hb => by
    have := oney_sum (HBT10.out.on hb)
    rw [HTW.out.2] at this
    exact this
  have HSA : Hid (∀ w, Below w10.heap.size w10 w → Calls Try.prog 15 #[.pointer (some ⟨g, 0, none⟩)] w fun e w' => e = .returned (.int .u64 P.1.sum) ∧ Below w.heap.size w w') := fun w hb => oney_sum (HA10.out.on hb)
  have hTold := HTOLD.out
  obtain ⟨kl, hkl⟩ : ∃ kl, P.1.kept.length = kl := ⟨_, rfl⟩
  obtain ⟨dl, hdl2⟩ : ∃ dl, (dropT P.1 st).kept.length = dl := ⟨_, rfl⟩
  rw [hdl2] at HLB hdl
  rw [hkl] at hdl hfew
  try rw [hkl]
  try rw [hdl2]
  have hw1 : IntKind.i64.wrap ((kl : Int) - ((kl : Int) - (dl : Int))) = (dl : Int) := by rw [IntKind.wrap_i64]; omega
  have hw2 : IntKind.i64.wrap ((kl : Int) - (dl : Int)) = (kl : Int) - (dl : Int) := by rw [IntKind.wrap_i64]; omega
  clear hb10 hkl hdl2 HLA HA9 HBT9 HTW
  go_wp2_with fail
  refine HLB.out.mono ?_
  rintro e w11 ⟨rfl, hb11⟩
  have HS1 := hid (HSA.out w11 hb11)
  have HB11 := hid hb11
  clear hb11 HSA
  go_wp2_with fail
  refine HS1.out.mono ?_
  rintro e w12 ⟨rfl, hb12⟩
  have HB12 := hid (bel_then HB11.out HB11.out.size hb12)
  have HS2 := hid (HSB.out w12 HB12.out)
  clear hb12 HSB
  go_wp2_with fail
  refine HS2.out.mono ?_
  rintro e w13 ⟨rfl, hb13⟩
  have HB13 := hid (bel_then HB12.out HB12.out.size hb13)
  have HD2 := hid (HDR2.out w13 HB13.out)
  obtain ⟨d0, d1, d3, d4, d5⟩ := HBX.out w13 (bel_then HB10.out HB10.out.size HB13.out)
  clear hb13 HDR2
  go_wp2_with fail
  refine HD2.out.mono ?_
  rintro e w14 ⟨rfl, hb14⟩
  have HB14 := hid hb14
  clear hb14 d0 d1 d3 d4 d5
  obtain ⟨Y1, Y2⟩ := Y
  obtain ⟨U1, U2⟩ := U
  simp only at hTold
  rcases hTold with rfl | ⟨rfl, rfl, rfl, rfl⟩
  · go_wp2_with fail
    go_ret
    exact ⟨rfl, HB14.out⟩
  · go_wp2_with fail
    go_ret
    exact ⟨rfl, HB14.out⟩

end Go.Proofs.Ytmihddbnddgfhaa

/-
  A drawn region in which variables are made while calls go on: the calls and stores come in one order, the allocs float. One proof for each call, alloc and store, whatever came before. No program.
-/
namespace Go.Proofs.Ytmihddbnddgfhaa

def allB : Nat → List (List Bool)
  | 0 => [[]]
  | n + 1 => (allB n).map (List.cons false) ++ (allB n).map (List.cons true)
theorem mem_allB : ∀ l : List Bool, l ∈ allB l.length
  | [] => by simp [allB]
  | false :: r => List.mem_append.2 (Or.inl (List.mem_map.2 ⟨r, mem_allB r, rfl⟩))
  | true :: r => List.mem_append.2 (Or.inr (List.mem_map.2 ⟨r, mem_allB r, rfl⟩))

/-- What has come up: of the chain the first k, of the floating ones those that fl names. -/
def lstF (base : Array Bool) (L As : List Nat) (k : Nat) (fl : List Bool) : Array Bool :=
  ((L.take k) ++ ((As.zip fl).filter (·.2)).map (·.1)).foldl (fun l i => l.setIfInBounds i true) base

/-- All that may come up is the chain's next one, or a floating one; nothing may only where all have. -/
def chkF (md : Region.Mode) (ops : Array Oper) (base : Array Bool) (L As : List Nat) (k : Nat) (fl : List Bool) : Bool :=
  ((Region.ready md ops (lstF base L As k fl)).all fun i =>
    (decide (L[k]? = some i) && decide ((lstF base L As k fl).setIfInBounds i true = lstF base L As (k + 1) fl)) ||
    (List.range As.length).any fun j => decide (As[j]? = some i) && decide (fl[j]? = some false) && decide ((lstF base L As k fl).setIfInBounds i true = lstF base L As k (fl.set j true))) &&
  (!(Region.ready md ops (lstF base L As k fl)).isEmpty || (decide (k = L.length) && fl.all id))

theorem all_true : ∀ fl : List Bool, fl.all id = true → fl = List.replicate fl.length true
  | [], _ => rfl
  | b :: r, h => by
    simp only [List.all_cons, Bool.and_eq_true, id] at h
    rw [List.length_cons, List.replicate_succ, h.1, ← all_true r h.2]
theorem count_set : ∀ (fl : List Bool) (j : Nat), fl[j]? = some false → (fl.set j true).count false + 1 = fl.count false
  | [], j, h => by simp at h
  | b :: r, 0, h => by
    simp at h
    subst h
    simp
  | b :: r, j + 1, h => by
    have := count_set r j (by simpa using h)
    simp only [List.set_cons_succ, List.count_cons]
    omega

section
variable {P : Program} {ops : Array Oper} {Q : Exit → Act → World → Prop} {md : Region.Mode} {S : World → Prop}

/-- The step of one operation, handed over behind a '∀ K'. -/
def StepF (P : Program) (ops : Array Oper) (Q : Exit → Act → World → Prop) (i : Nat) (R : Act → World → Prop) (a : Act) (w : World) : Prop :=
  ∃ o : Oper, ops[i]? = some o ∧ ∀ K' : Act → World → Prop, Shut (∀ a w, R a w → K' a w) → if Region.wanted o (yielded ops a.tmps) = true then Oper.wp P o a w K' Q else K' (a.put o.dst undef) w

theorem wpAnyH_float {base : Array Bool} (L As : List Nat) (R : Act → Nat → List Bool → Act → World → Prop) {a0 : Act}
    (hchk : ((List.range (L.length + 1)).all fun k => (allB As.length).all fun fl => chkF md ops base L As k fl) = true)
    (hS : ∀ k fl a w, R a0 k fl a w → S w)
    (hmain : ∀ k i fl a w, L[k]? = some i → fl.length = As.length → i ∈ Region.ready md ops (lstF base L As k fl) → R a0 k fl a w → StepF P ops Q i (R a0 (k + 1) fl) a w)
    (halloc : ∀ j i k fl a w, As[j]? = some i → k ≤ L.length → fl.length = As.length → fl[j]? = some false → R a0 k fl a w → StepF P ops Q i (R a0 k (fl.set j true)) a w)
    (hend : ∀ a w, R a0 L.length (List.replicate As.length true) a w → Q .normal a w) :
    ∀ fuel k fl a w, L.length - k + fl.count false ≤ fuel → k ≤ L.length → fl.length = As.length → R a0 k fl a w → wpAnyH P md ops Q S fuel (lstF base L As k fl) a w := by
  have hc : ∀ k fl, k ≤ L.length → fl.length = As.length → chkF md ops base L As k fl = true := fun k fl hk hf => by
    have h1 := List.all_eq_true.1 hchk k (List.mem_range.2 (by omega))
    exact List.all_eq_true.1 h1 fl (hf ▸ mem_allB fl)
  have hnil : ∀ k fl a w, k ≤ L.length → fl.length = As.length → R a0 k fl a w → Region.ready md ops (lstF base L As k fl) = [] → Q .normal a w := fun k fl a w hk hf hR hr => by
    have h := hc k fl hk hf
    unfold chkF at h
    rw [hr] at h
    simp only [List.all_nil, List.isEmpty_nil, Bool.not_true, Bool.false_or, Bool.true_and, Bool.and_eq_true, decide_eq_true_eq] at h
    obtain ⟨rfl, h2⟩ := h
    have e := all_true fl h2
    rw [hf] at e
    exact hend a w (e ▸ hR)
  have hsome : ∀ k fl, k ≤ L.length → fl.length = As.length → ∀ i ∈ Region.ready md ops (lstF base L As k fl),
      (L[k]? = some i ∧ (lstF base L As k fl).setIfInBounds i true = lstF base L As (k + 1) fl) ∨ ∃ j, As[j]? = some i ∧ fl[j]? = some false ∧ (lstF base L As k fl).setIfInBounds i true = lstF base L As k (fl.set j true) := fun k fl hk hf i hi => by
    have h := hc k fl hk hf
    unfold chkF at h
    rw [Bool.and_eq_true] at h
    have h1 := List.all_eq_true.1 h.1 i hi
    rw [Bool.or_eq_true] at h1
    rcases h1 with h1 | h1
    · rw [Bool.and_eq_true] at h1
      exact Or.inl ⟨of_decide_eq_true h1.1, of_decide_eq_true h1.2⟩
    · obtain ⟨j, _, h2⟩ := List.any_eq_true.1 h1
      rw [Bool.and_eq_true, Bool.and_eq_true] at h2
      exact Or.inr ⟨j, of_decide_eq_true h2.1.1, of_decide_eq_true h2.1.2, of_decide_eq_true h2.2⟩
  intro fuel
  induction fuel with
  | zero =>
    intro k fl a w hm hk hf hR
    have hr : Region.ready md ops (lstF base L As k fl) = [] := by
      refine List.eq_nil_iff_forall_not_mem.2 fun i hi => ?_
      rcases hsome k fl hk hf i hi with ⟨h1, _⟩ | ⟨j, _, h2, _⟩
      · have := (List.getElem?_eq_some_iff.1 h1).1
        omega
      · have : 0 < fl.count false := List.count_pos_iff.2 (List.mem_of_getElem? h2)
        omega
    exact ⟨hr, hnil k fl a w hk hf hR hr⟩
  | succ fuel ih =>
    intro k fl a w hm hk hf hR
    refine ⟨hnil k fl a w hk hf hR, fun i hi => ?_⟩
    rcases hsome k fl hk hf i hi with ⟨h1, h2⟩ | ⟨j, h1, h2, h3⟩
    · obtain ⟨o, ho, hstep⟩ := hmain k i fl a w h1 hf hi hR
      have hlt := (List.getElem?_eq_some_iff.1 h1).1
      refine wpOp_step ho fun K' hK => hstep K' fun a' w' hR' => hK a' w' ⟨hS _ _ _ _ hR', ?_⟩
      rw [h2]
      exact ih (k + 1) fl a' w' (by omega) (by omega) hf hR'
    · obtain ⟨o, ho, hstep⟩ := halloc j i k fl a w h1 hk hf h2 hR
      have hcs := count_set fl j h2
      refine wpOp_step ho fun K' hK => hstep K' fun a' w' hR' => hK a' w' ⟨hS _ _ _ _ hR', ?_⟩
      rw [h3]
      exact ih k (fl.set j true) a' w' (by omega) hk (by rw [List.length_set]; exact hf) hR'
theorem lstF_start (base : Array Bool) (L As : List Nat) (n : Nat) : lstF base L As 0 (List.replicate n false) = base := by
  have h : ((As.zip (List.replicate n false)).filter (·.2)) = [] := List.filter_eq_nil_iff.2 fun x hx => by
    have := (List.of_mem_zip (show (x.1, x.2) ∈ _ from hx)).2
    rw [(List.mem_replicate.1 this).2]
    simp
  unfold lstF
  rw [h]
  rfl

theorem wpAnyH_floats (L As : List Nat) (R : Act → Nat → List Bool → Act → World → Prop) {fuel : Nat} {listed : Array Bool} {a0 : Act} {w : World}
    (hchk : ((List.range (L.length + 1)).all fun k => (allB As.length).all fun fl => chkF md ops listed L As k fl) = true) (hfuel : L.length + As.length ≤ fuel)
    (h0 : R a0 0 (List.replicate As.length false) a0 w)
    (hS : ∀ k fl a w, R a0 k fl a w → S w)
    (hmain : ∀ k i fl a w, L[k]? = some i → fl.length = As.length → i ∈ Region.ready md ops (lstF listed L As k fl) → R a0 k fl a w → StepF P ops Q i (R a0 (k + 1) fl) a w)
    (halloc : ∀ j i k fl a w, As[j]? = some i → k ≤ L.length → fl.length = As.length → fl[j]? = some false → R a0 k fl a w → StepF P ops Q i (R a0 k (fl.set j true)) a w)
    (hend : ∀ a w, R a0 L.length (List.replicate As.length true) a w → Q .normal a w) : wpAnyH P md ops Q S fuel listed a0 w := by
  have := wpAnyH_float L As R hchk hS hmain halloc hend fuel 0 (List.replicate As.length false) a0 w (by rw [List.count_replicate]; simp; omega) (Nat.zero_le _) (by simp) h0
  rwa [lstF_start] at this
end

/-- Slots put, one behind the other. -/
def putS (a : Act) (l : List (Nat × Value)) : Act := l.foldl (fun a p => a.put (some p.1) p.2) a
theorem put_self (a : Act) (i : Nat) : a.put (some i) (a.tmps.getD i undef) = a := by
  obtain ⟨t, d⟩ := a
  simp only [Act.put, Act.mk.injEq, and_true]
  refine Array.ext (by simp) fun j h1 h2 => ?_
  rw [Array.getElem_setIfInBounds (by simpa using h1)]
  split
  · rename_i e
    subst e
    simp [Array.getD, h2]
  · rfl
theorem putS_self (a : Act) : ∀ l : List Nat, putS a (l.map fun i => (i, a.tmps.getD i undef)) = a
  | [] => rfl
  | i :: r => by
    have := putS_self a r
    unfold putS at *
    rw [List.map_cons, List.foldl_cons, put_self]
    exact this
theorem not_ready {md : Region.Mode} {ops : Array Oper} {l : Array Bool} {i : Nat} (h : i ∈ Region.ready md ops l) (hn : (Region.ready md ops l).contains i = false) : False := by
  rw [List.contains_eq_mem, decide_eq_false_iff_not] at hn
  exact hn h

end Go.Proofs.Ytmihddbnddgfhaa

/-
  'x, y := f(..), g(..)' where x and y are variables of struct types: two calls, two variables made meanwhile, two stores. No program.
-/
namespace Go.Proofs.Ytmihddbnddgfhaa
open Go.RowKit

/-- The blocks of the variables that have been made. -/
def TwoP (fl : List Bool) (B1 B2 : Nat) (b : Nat) : Prop := (fl[0]? = some true ∧ b = B1) ∨ (fl[1]? = some true ∧ b = B2)

section
variable {α β : Type}
/-- k of the calls and stores have been done, fl of the variables made. -/
structure TwoAt (V : World) (ea : α → Array Value) (Ta : TypeId) (za : Array Value) (eb : β → Array Value) (Tb : TypeId) (zb : Array Value) (G1 : World → α → Prop) (G2 : World → β → Prop) (BA : α → Nat → Prop) (BB : β → Nat → Prop)
    (k : Nat) (fl : List Bool) (v1 v2 u1 u2 : Value) (w : World) (B1 B2 : Nat) (x : α) (y : β) : Prop where
  bel : Below V.heap.size V w
  s1 : 3 ≤ k → fl[0]? = some true
  s2 : 4 ≤ k → fl[1]? = some true
  b1 : fl[0]? = some true → u1 = .pointer (some ⟨B1, 0, none⟩) ∧ V.heap.size ≤ B1 ∧ w.heap[B1]? = some (.cells (if 3 ≤ k then ea x else za) Ta (0, 0))
  b2 : fl[1]? = some true → u2 = .pointer (some ⟨B2, 0, none⟩) ∧ V.heap.size ≤ B2 ∧ w.heap[B2]? = some (.cells (if 4 ≤ k then eb y else zb) Tb (0, 0))
  ne : fl[0]? = some true → fl[1]? = some true → B1 ≠ B2
  g1 : 1 ≤ k → v1 = .agg (ea x) ∧ ∀ w', Fr (TwoP fl B1 B2) w w' → G1 w' x
  g2 : 2 ≤ k → v2 = .agg (eb y) ∧ ∀ w', Fr (TwoP fl B1 B2) w w' → G2 w' y
  l1 : 1 ≤ k → ∀ b, BA x b → V.heap.size ≤ b ∧ b < w.heap.size
  l2 : 2 ≤ k → ∀ b, BB y b → V.heap.size ≤ b ∧ b < w.heap.size
  ap : 2 ≤ k → ∀ b, BA x b → ¬ BB y b
def TwoSt (V : World) (ea : α → Array Value) (Ta : TypeId) (za : Array Value) (eb : β → Array Value) (Tb : TypeId) (zb : Array Value) (G1 : World → α → Prop) (G2 : World → β → Prop) (BA : α → Nat → Prop) (BB : β → Nat → Prop)
    (k : Nat) (fl : List Bool) (v1 v2 u1 u2 : Value) (w : World) : Prop := ∃ (B1 B2 : Nat) (x : α) (y : β), TwoAt V ea Ta za eb Tb zb G1 G2 BA BB k fl v1 v2 u1 u2 w B1 B2 x y

variable {V : World} {ea : α → Array Value} {Ta : TypeId} {za : Array Value} {eb : β → Array Value} {Tb : TypeId} {zb : Array Value} {G1 : World → α → Prop} {G2 : World → β → Prop} {BA : α → Nat → Prop} {BB : β → Nat → Prop} {k : Nat} {fl : List Bool} {v1 v2 u1 u2 : Value} {w : World}

theorem TwoSt.bel (h : TwoSt V ea Ta za eb Tb zb G1 G2 BA BB k fl v1 v2 u1 u2 w) : Below V.heap.size V w := by
  obtain ⟨_, _, _, _, h⟩ := h
  exact h.bel
theorem two_start [Inhabited α] [Inhabited β] (v1 v2 u1 u2 : Value) (h : Below V.heap.size V w) : TwoSt V ea Ta za eb Tb zb G1 G2 BA BB 0 [false, false] v1 v2 u1 u2 w :=
  ⟨0, 0, default, default, h, (fun h => by omega), (fun h => by omega), (fun h => by cases h), (fun h => by cases h), (fun h => by cases h), (fun h => by omega), (fun h => by omega), (fun h => by omega), (fun h => by omega), (fun h => by omega)⟩

theorem two_call1 {w2 : World} {x' : α} (h : TwoSt V ea Ta za eb Tb zb G1 G2 BA BB 0 fl v1 v2 u1 u2 w) (hb : Below w.heap.size w w2) (hG : ∀ P w', (∀ b, P b → V.heap.size ≤ b ∧ b < w.heap.size) → Fr P w2 w' → G1 w' x') (hB : ∀ b, BA x' b → w.heap.size ≤ b ∧ b < w2.heap.size) : TwoSt V ea Ta za eb Tb zb G1 G2 BA BB 1 fl (.agg (ea x')) v2 u1 u2 w2 := by
  obtain ⟨B1, B2, x, y, h⟩ := h
  have hl1 : fl[0]? = some true → B1 < w.heap.size := fun e => (Array.getElem?_eq_some_iff.1 (h.b1 e).2.2).1
  have hl2 : fl[1]? = some true → B2 < w.heap.size := fun e => (Array.getElem?_eq_some_iff.1 (h.b2 e).2.2).1
  refine ⟨B1, B2, x', y, bel_then h.bel h.bel.size hb, (fun h => by omega), (fun h => by omega), (fun e => ?_), (fun e => ?_), h.ne, (fun _ => ⟨rfl, fun w' f => hG _ w' (fun b hb => ?_) f⟩), (fun h => by omega), (fun _ b hb => ⟨Nat.le_trans h.bel.size (hB b hb).1, (hB b hb).2⟩), (fun h => by omega), (fun h => by omega)⟩
  · obtain ⟨q1, q2, q3⟩ := h.b1 e
    exact ⟨q1, q2, (hb.block B1 (hl1 e)).trans q3⟩
  · obtain ⟨q1, q2, q3⟩ := h.b2 e
    exact ⟨q1, q2, (hb.block B2 (hl2 e)).trans q3⟩
  · rcases hb with ⟨e, rfl⟩ | ⟨e, rfl⟩
    · exact ⟨(h.b1 e).2.1, hl1 e⟩
    · exact ⟨(h.b2 e).2.1, hl2 e⟩
theorem two_call2 {w2 : World} {y' : β} (h : TwoSt V ea Ta za eb Tb zb G1 G2 BA BB 1 fl v1 v2 u1 u2 w) (hb : Below w.heap.size w w2) (hG : ∀ P w', (∀ b, P b → V.heap.size ≤ b ∧ b < w.heap.size) → Fr P w2 w' → G2 w' y') (hB : ∀ b, BB y' b → w.heap.size ≤ b ∧ b < w2.heap.size) : TwoSt V ea Ta za eb Tb zb G1 G2 BA BB 2 fl v1 (.agg (eb y')) u1 u2 w2 := by
  obtain ⟨B1, B2, x, y, h⟩ := h
  have hl1 : fl[0]? = some true → B1 < w.heap.size := fun e => (Array.getElem?_eq_some_iff.1 (h.b1 e).2.2).1
  have hl2 : fl[1]? = some true → B2 < w.heap.size := fun e => (Array.getElem?_eq_some_iff.1 (h.b2 e).2.2).1
  refine ⟨B1, B2, x, y', bel_then h.bel h.bel.size hb, (fun h => by omega), (fun h => by omega), (fun e => ?_), (fun e => ?_), h.ne, (fun _ => ?_), (fun _ => ⟨rfl, fun w' f => hG _ w' (fun b hb => ?_) f⟩), (fun _ b hx => ⟨(h.l1 (Nat.le_refl _) b hx).1, Nat.lt_of_lt_of_le (h.l1 (Nat.le_refl _) b hx).2 hb.size⟩), (fun _ b hy => ⟨Nat.le_trans h.bel.size (hB b hy).1, (hB b hy).2⟩), (fun _ b hx hy => by
    have h1 := (h.l1 (Nat.le_refl _) b hx).2
    have h2 := (hB b hy).1
    omega)⟩
  · obtain ⟨q1, q2, q3⟩ := h.b1 e
    exact ⟨q1, q2, (hb.block B1 (hl1 e)).trans q3⟩
  · obtain ⟨q1, q2, q3⟩ := h.b2 e
    exact ⟨q1, q2, (hb.block B2 (hl2 e)).trans q3⟩
  · obtain ⟨q1, q2⟩ := h.g1 (Nat.le_refl _)
    exact ⟨q1, fun w' f => q2 w' ((Fr.of_below hb).then f fun k hk => Or.inl hk)⟩
  · rcases hb with ⟨e, rfl⟩ | ⟨e, rfl⟩
    · exact ⟨(h.b1 e).2.1, hl1 e⟩
    · exact ⟨(h.b2 e).2.1, hl2 e⟩
theorem two_alloc1 {f2 : Bool} (h : TwoSt V ea Ta za eb Tb zb G1 G2 BA BB k [false, f2] v1 v2 u1 u2 w) : TwoSt V ea Ta za eb Tb zb G1 G2 BA BB k [true, f2] v1 v2 (.pointer (some ⟨w.heap.size, 0, none⟩)) u2 (w.alloc (.cells za Ta)) := by
  obtain ⟨B1, B2, x, y, h⟩ := h
  have hal : Below w.heap.size w (w.alloc (.cells za Ta)) := (Below.refl _ _).alloc (Nat.le_refl _) _
  have hk : ¬ 3 ≤ k := fun e => by have := h.s1 e; cases this
  have hl2 : f2 = true → B2 < w.heap.size := fun e => (Array.getElem?_eq_some_iff.1 (h.b2 (by rw [e]; rfl)).2.2).1
  have hfr : ∀ w', Fr (TwoP [true, f2] w.heap.size B2) (w.alloc (.cells za Ta)) w' → Fr (TwoP [false, f2] B1 B2) w w' := fun w' f => (Fr.of_below hal).then f fun b hb => by
    rcases hb with ⟨_, rfl⟩ | hb
    · exact Or.inr (Nat.le_refl _)
    · exact Or.inl (Or.inr hb)
  refine ⟨w.heap.size, B2, x, y, bel_then h.bel h.bel.size hal, (fun _ => rfl), (fun e => absurd (by omega) hk), (fun _ => ⟨rfl, h.bel.size, ?_⟩), (fun e => ?_), (fun _ e => ?_), (fun e => ?_), (fun e => ?_), (fun e b hb => ⟨(h.l1 e b hb).1, Nat.lt_of_lt_of_le (h.l1 e b hb).2 hal.size⟩), (fun e b hb => ⟨(h.l2 e b hb).1, Nat.lt_of_lt_of_le (h.l2 e b hb).2 hal.size⟩), h.ap⟩
  · rw [if_neg hk]
    exact heap_alloc_new w _
  · obtain ⟨q1, q2, q3⟩ := h.b2 e
    exact ⟨q1, q2, (hal.block B2 (hl2 (by simpa using e))).trans q3⟩
  · have := hl2 (by simpa using e)
    omega
  · obtain ⟨q1, q2⟩ := h.g1 e
    exact ⟨q1, fun w' f => q2 w' (hfr w' f)⟩
  · obtain ⟨q1, q2⟩ := h.g2 e
    exact ⟨q1, fun w' f => q2 w' (hfr w' f)⟩
theorem two_alloc2 {f1 : Bool} (h : TwoSt V ea Ta za eb Tb zb G1 G2 BA BB k [f1, false] v1 v2 u1 u2 w) : TwoSt V ea Ta za eb Tb zb G1 G2 BA BB k [f1, true] v1 v2 u1 (.pointer (some ⟨w.heap.size, 0, none⟩)) (w.alloc (.cells zb Tb)) := by
  obtain ⟨B1, B2, x, y, h⟩ := h
  have hal : Below w.heap.size w (w.alloc (.cells zb Tb)) := (Below.refl _ _).alloc (Nat.le_refl _) _
  have hk : ¬ 4 ≤ k := fun e => by have := h.s2 e; cases this
  have hl1 : f1 = true → B1 < w.heap.size := fun e => (Array.getElem?_eq_some_iff.1 (h.b1 (by rw [e]; rfl)).2.2).1
  have hfr : ∀ w', Fr (TwoP [f1, true] B1 w.heap.size) (w.alloc (.cells zb Tb)) w' → Fr (TwoP [f1, false] B1 B2) w w' := fun w' f => (Fr.of_below hal).then f fun b hb => by
    rcases hb with hb | ⟨_, rfl⟩
    · exact Or.inl (Or.inl hb)
    · exact Or.inr (Nat.le_refl _)
  refine ⟨B1, w.heap.size, x, y, bel_then h.bel h.bel.size hal, (fun e => h.s1 e), (fun e => absurd e hk), (fun e => ?_), (fun _ => ⟨rfl, h.bel.size, ?_⟩), (fun e _ => ?_), (fun e => ?_), (fun e => ?_), (fun e b hb => ⟨(h.l1 e b hb).1, Nat.lt_of_lt_of_le (h.l1 e b hb).2 hal.size⟩), (fun e b hb => ⟨(h.l2 e b hb).1, Nat.lt_of_lt_of_le (h.l2 e b hb).2 hal.size⟩), h.ap⟩
  · obtain ⟨q1, q2, q3⟩ := h.b1 e
    exact ⟨q1, q2, (hal.block B1 (hl1 (by simpa using e))).trans q3⟩
  · rw [if_neg hk]
    exact heap_alloc_new w _
  · have := hl1 (by simpa using e)
    omega
  · obtain ⟨q1, q2⟩ := h.g1 e
    exact ⟨q1, fun w' f => q2 w' (hfr w' f)⟩
  · obtain ⟨q1, q2⟩ := h.g2 e
    exact ⟨q1, fun w' f => q2 w' (hfr w' f)⟩
/-- The first store: what is there, and what must be shown of the world behind it. -/
theorem two_store1 {f2 : Bool} (h : TwoSt V ea Ta za eb Tb zb G1 G2 BA BB 2 [true, f2] v1 v2 u1 u2 w) : ∃ B1 x, u1 = .pointer (some ⟨B1, 0, none⟩) ∧ v1 = .agg (ea x) ∧ w.heap[B1]? = some (.cells za Ta (0, 0)) ∧
    ∀ w', w'.heap[B1]? = some (.cells (ea x) Ta (0, 0)) → Fr (fun b => b = B1) w w' → TwoSt V ea Ta za eb Tb zb G1 G2 BA BB 3 [true, f2] v1 v2 u1 u2 w' := by
  obtain ⟨B1, B2, x, y, h⟩ := h
  obtain ⟨q1, q2, q3⟩ := h.b1 rfl
  rw [if_neg (by omega)] at q3
  obtain ⟨p1, p2⟩ := h.g1 (by omega)
  obtain ⟨p3, p4⟩ := h.g2 (by omega)
  refine ⟨B1, x, q1, p1, q3, fun w' hw f => ?_⟩
  have hlt := (Array.getElem?_eq_some_iff.1 q3).1
  have hfr : Fr (TwoP [true, f2] B1 B2) w w' := f.mono fun b hb => Or.inl ⟨rfl, hb⟩
  refine ⟨B1, B2, x, y, h.bel.trans (f.below (by have := h.bel.size; omega) fun b hb => by omega), (fun _ => rfl), (fun e => by omega), (fun _ => ⟨q1, q2, ?_⟩), (fun e => ?_), h.ne, (fun _ => ⟨p1, fun w3 f3 => p2 w3 (hfr.then f3 fun b hb => Or.inl hb)⟩), (fun _ => ⟨p3, fun w3 f3 => p4 w3 (hfr.then f3 fun b hb => Or.inl hb)⟩), (fun _ b hb => ⟨(h.l1 (by omega) b hb).1, Nat.lt_of_lt_of_le (h.l1 (by omega) b hb).2 f.size⟩), (fun _ b hb => ⟨(h.l2 (by omega) b hb).1, Nat.lt_of_lt_of_le (h.l2 (by omega) b hb).2 f.size⟩), (fun _ => h.ap (by omega))⟩
  · rw [if_pos (by omega)]
    exact hw
  · obtain ⟨r1, r2, r3⟩ := h.b2 e
    refine ⟨r1, r2, ?_⟩
    rw [if_neg (by omega)] at r3 ⊢
    exact (f.block B2 (Array.getElem?_eq_some_iff.1 r3).1 (h.ne rfl e).symm).trans r3
theorem two_store2 {f1 : Bool} (h : TwoSt V ea Ta za eb Tb zb G1 G2 BA BB 3 [f1, true] v1 v2 u1 u2 w) : ∃ B2 y, u2 = .pointer (some ⟨B2, 0, none⟩) ∧ v2 = .agg (eb y) ∧ w.heap[B2]? = some (.cells zb Tb (0, 0)) ∧
    ∀ w', w'.heap[B2]? = some (.cells (eb y) Tb (0, 0)) → Fr (fun b => b = B2) w w' → TwoSt V ea Ta za eb Tb zb G1 G2 BA BB 4 [f1, true] v1 v2 u1 u2 w' := by
  obtain ⟨B1, B2, x, y, h⟩ := h
  obtain ⟨q1, q2, q3⟩ := h.b2 rfl
  rw [if_neg (by omega)] at q3
  obtain ⟨p1, p2⟩ := h.g1 (by omega)
  obtain ⟨p3, p4⟩ := h.g2 (by omega)
  have hf1 : f1 = true := by simpa using h.s1 (Nat.le_refl _)
  refine ⟨B2, y, q1, p3, q3, fun w' hw f => ?_⟩
  have hlt := (Array.getElem?_eq_some_iff.1 q3).1
  have hfr : Fr (TwoP [f1, true] B1 B2) w w' := f.mono fun b hb => Or.inr ⟨rfl, hb⟩
  refine ⟨B1, B2, x, y, h.bel.trans (f.below (by have := h.bel.size; omega) fun b hb => by omega), (fun _ => h.s1 (Nat.le_refl _)), (fun e => rfl), (fun e => ?_), (fun _ => ⟨q1, q2, ?_⟩), h.ne, (fun _ => ⟨p1, fun w3 f3 => p2 w3 (hfr.then f3 fun b hb => Or.inl hb)⟩), (fun _ => ⟨p3, fun w3 f3 => p4 w3 (hfr.then f3 fun b hb => Or.inl hb)⟩), (fun _ b hb => ⟨(h.l1 (by omega) b hb).1, Nat.lt_of_lt_of_le (h.l1 (by omega) b hb).2 f.size⟩), (fun _ b hb => ⟨(h.l2 (by omega) b hb).1, Nat.lt_of_lt_of_le (h.l2 (by omega) b hb).2 f.size⟩), (fun _ => h.ap (by omega))⟩
  · obtain ⟨r1, r2, r3⟩ := h.b1 e
    refine ⟨r1, r2, ?_⟩
    rw [if_pos (by omega)] at r3 ⊢
    exact (f.block B1 (Array.getElem?_eq_some_iff.1 r3).1 (h.ne e rfl)).trans r3
  · rw [if_pos (by omega)]
    exact hw
/-- What lies behind. -/
structure TwoEnd (V : World) (ea : α → Array Value) (Ta : TypeId) (eb : β → Array Value) (Tb : TypeId) (G1 : World → α → Prop) (G2 : World → β → Prop) (BA : α → Nat → Prop) (BB : β → Nat → Prop) (B1 B2 : Nat) (x : α) (y : β) (w : World) : Prop where
  bel : Below V.heap.size V w
  low1 : V.heap.size ≤ B1
  low2 : V.heap.size ≤ B2
  box1 : w.heap[B1]? = some (.cells (ea x) Ta (0, 0))
  box2 : w.heap[B2]? = some (.cells (eb y) Tb (0, 0))
  ne : B1 ≠ B2
  g1 : G1 w x
  g2 : G2 w y
  l1 : ∀ b, BA x b → V.heap.size ≤ b ∧ b < w.heap.size
  l2 : ∀ b, BB y b → V.heap.size ≤ b ∧ b < w.heap.size
  ap : ∀ b, BA x b → ¬ BB y b
theorem two_end (h : TwoSt V ea Ta za eb Tb zb G1 G2 BA BB 4 [true, true] v1 v2 u1 u2 w) : ∃ B1 B2 x y, u1 = .pointer (some ⟨B1, 0, none⟩) ∧ u2 = .pointer (some ⟨B2, 0, none⟩) ∧ TwoEnd V ea Ta eb Tb G1 G2 BA BB B1 B2 x y w := by
  obtain ⟨B1, B2, x, y, h⟩ := h
  obtain ⟨q1, q2, q3⟩ := h.b1 rfl
  obtain ⟨r1, r2, r3⟩ := h.b2 rfl
  rw [if_pos (by omega)] at q3 r3
  exact ⟨B1, B2, x, y, q1, r1, h.bel, q2, r2, q3, r3, h.ne rfl rfl, (h.g1 (by omega)).2 w (Fr.refl _ _), (h.g2 (by omega)).2 w (Fr.refl _ _), h.l1 (by omega), h.l2 (by omega), h.ap (by omega)⟩
end

/-- A struct of two cells stored into its block. -/
theorem store_two {w : World} {B : Nat} {a b z1 z2 : Value} {T : TypeId} (h : w.heap[B]? = some (.cells #[z1, z2] T (0, 0))) :
    (w.cell? ⟨B, 0, none⟩ = some z1 ∧ w.cell? ⟨B, 1, none⟩ = some z2 ∧ w.frozen? ⟨B, 0, none⟩ = false ∧ w.frozen? ⟨B, 1, none⟩ = false) ∧ ((w.setCell ⟨B, 0, none⟩ a).setCell ⟨B, 1, none⟩ b).heap[B]? = some (.cells #[a, b] T (0, 0)) ∧ Fr (fun k => k = B) w ((w.setCell ⟨B, 0, none⟩ a).setCell ⟨B, 1, none⟩ b) := by
  have e1 : (w.setCell ⟨B, 0, none⟩ a).heap[B]? = some (.cells #[a, z2] T (0, 0)) := heap_setCell_same w B 0 _ _ _ h
  have e2 : ((w.setCell ⟨B, 0, none⟩ a).setCell ⟨B, 1, none⟩ b).heap[B]? = some (.cells #[a, b] T (0, 0)) := heap_setCell_same _ B 1 _ _ _ e1
  refine ⟨⟨by rw [Lib.cell_of_heap h]; rfl, by rw [Lib.cell_of_heap h]; rfl, Lib.frozen_of_heap h 0, Lib.frozen_of_heap h 1⟩, e2, ⟨rfl, rfl, rfl, by simp, fun k _ hn => ?_⟩⟩
  rw [heap_setCell_other _ _ k _ hn, heap_setCell_other _ _ k _ hn]

end Go.Proofs.Ytmihddbnddgfhaa

/-
  Which of two done ones must stand ahead (stage 13).
-/
namespace Go.Proofs.Ytmihddbnddgfhaa
open Go.RowKit

theorem kdx_at {w : World} {b off : Nat} {d : List Dx} (h : KDx.At w b off d) (i : Nat) (hi : i < d.length) :
    w.cell? ⟨b, off + i * 6, none⟩ = some (.int .u64 (d[i]).snap) ∧ w.cell? ⟨b, off + i * 6 + 1, none⟩ = some (.int .u64 (d[i]).stamp) ∧ w.cell? ⟨b, off + i * 6 + 2, none⟩ = some (.bool (d[i]).out) ∧ w.cell? ⟨b, off + i * 6 + 3, none⟩ = some (d[i]).m.ksl ∧ w.cell? ⟨b, off + i * 6 + 4, none⟩ = some (d[i]).m.rsl ∧ w.cell? ⟨b, off + i * 6 + 5, none⟩ = some (d[i]).csl :=
  ⟨h i hi 0 _ rfl, h i hi 1 _ rfl, h i hi 2 _ rfl, h i hi 3 _ rfl, h i hi 4 _ rfl, h i hi 5 _ rfl⟩

set_option maxHeartbeats 8000000 in
set_option maxRecDepth 100000 in
theorem ahead13_any (p : Option Addr) (cap : Nat) (l : List Dx) (i j : Nat) (W : World) (hl : KDx.Is W (.slice p l.length cap) l) (hx : ∀ x ∈ l, DIn W x) (hi : i < l.length) (hj : j < l.length) :
    Calls Try.prog 38 #[.slice p l.length cap, .int .i64 i, .int .i64 j] W fun e w' => e = .returned (.bool (aheadT (l.map Dx.dn) i j)) ∧ Below W.heap.size W w' := by
  have hAT : aheadT (l.map Dx.dn) i j = if i < j then decide ((l[i]).stamp ≤ (l[j]).snap) || hitsM (l[i]).m.mk' ((l[j]).cs.map Cx.ch) else decide ((l[i]).snap < (l[j]).stamp) && hitsM (l[i]).m.mk' ((l[j]).cs.map Cx.ch) := by
    unfold aheadT
    rw [List.getElem?_map, List.getElem?_map, List.getElem?_eq_getElem hi, List.getElem?_eq_getElem hj]
    rfl
  obtain ⟨b1, o1, rfl, k1⟩ : ∃ b off, p = some ⟨b, off, none⟩ ∧ KDx.At W b off l := by
    obtain ⟨p', c', he, h⟩ := hl
    injection he with e1 _ _
    subst e1
    rcases h with h | h
    · rw [h] at hi; simp at hi
    · exact h
  have KA : Hid (∀ W', Below W.heap.size W W' → KDx.At W' b1 o1 l) := fun W' hb => Kind.at_kept k1 hb
  have hxi := hx _ (List.getElem_mem hi)
  have hxj := hx _ (List.getElem_mem hj)
  have HH : Hid (∀ W', Below W.heap.size W W' → Calls Try.prog 42 #[.agg (encMx (l[i]).m).toArray, (l[j]).csl] W' fun e w' => e = .returned (.bool (hitsM (l[i]).m.mk' ((l[j]).cs.map Cx.ch))) ∧ Below W'.heap.size W' w') := fun W' hb =>
    hits12_any (l[i]).m (l[j]).csl (l[j]).cs W' (hxi.mrk.on hb) hxi.sz.len (hxj.chg.on hb).is (hxj.chg.on hb).each (by have := hxj.sz.chg; omega)
  have HC1 : Hid (∀ W', Below W.heap.size W W' → W'.cell? ⟨b1, o1 + i * 6, none⟩ = some (.int .u64 (l[i]).snap) ∧ W'.cell? ⟨b1, o1 + i * 6 + 1, none⟩ = some (.int .u64 (l[i]).stamp) ∧ W'.cell? ⟨b1, o1 + i * 6 + 2, none⟩ = some (.bool (l[i]).out) ∧ W'.cell? ⟨b1, o1 + i * 6 + 3, none⟩ = some (l[i]).m.ksl ∧ W'.cell? ⟨b1, o1 + i * 6 + 4, none⟩ = some (l[i]).m.rsl ∧ W'.cell? ⟨b1, o1 + i * 6 + 5, none⟩ = some (l[i]).csl) := fun W' hb => kdx_at (KA.out W' hb) i hi
  have HC2 : Hid (∀ W', Below W.heap.size W W' → W'.cell? ⟨b1, o1 + j * 6, none⟩ = some (.int .u64 (l[j]).snap) ∧ W'.cell? ⟨b1, o1 + j * 6 + 1, none⟩ = some (.int .u64 (l[j]).stamp) ∧ W'.cell? ⟨b1, o1 + j * 6 + 2, none⟩ = some (.bool (l[j]).out) ∧ W'.cell? ⟨b1, o1 + j * 6 + 3, none⟩ = some (l[j]).m.ksl ∧ W'.cell? ⟨b1, o1 + j * 6 + 4, none⟩ = some (l[j]).m.rsl ∧ W'.cell? ⟨b1, o1 + j * 6 + 5, none⟩ = some (l[j]).csl) := fun W' hb => kdx_at (KA.out W' hb) j hj
  rw [hAT]
  have hiz : (i : Int) < (l.length : Int) := by omega
  have hjz : (j : Int) < (l.length : Int) := by omega
  have hi0 : (0 : Int) ≤ (i : Int) := by omega
  have hj0 : (0 : Int) ≤ (j : Int) := by omega
  have hei : ((i : Int)).toNat = i := by omega
  have hej : ((j : Int)).toNat = j := by omega
  generalize l[i] = x at *
  generalize l[j] = y at *
  generalize hitsM x.m.mk' (y.cs.map Cx.ch) = hb at *
  obtain ⟨xsn, xst, xou, ⟨xkp, xkc, xks, xrp, xrc, xrs⟩, xcp, xcc, xcs⟩ := x
  obtain ⟨ysn, yst, you, ⟨ykp, ykc, yks, yrp, yrc, yrs⟩, ycp, ycc, ycs⟩ := y
  simp only [encMx, Mx.ksl, Mx.rsl, Dx.csl] at *
  have q1 := HC1.out W.drew (Below.refl _ W).drew
  have q2 := HC2.out W.drew (Below.refl _ W).drew
  clear k1 hxi hxj hx hl KA hAT
  go_enter Try.func38, Try.ntmps38
  obtain ⟨R, hR⟩ : ∃ R, (if i < j then decide (xst ≤ ysn) || hb else decide (xsn < yst) && hb) = R := ⟨_, rfl⟩
  rw [hR]
  have HR := hid hR
  clear hR
  have mixed := Try.mixed
  have hbl : b1 < W.heap.size := cell_block (a := ⟨b1, o1 + i * 6, none⟩) q1.1
  have hne0 : ¬ b1 = W.heap.size := by omega
  have hne1 : ¬ W.heap.size = b1 := by omega
  have hne2 : ¬ b1 = W.heap.size + 1 := by omega
  have hne3 : ¬ W.heap.size + 1 = b1 := by omega
  obtain ⟨a0, a1, a2, a3, a4, a5⟩ := HC1.out W (Below.refl _ _)
  obtain ⟨b0, b2, b3, b4, b5, b6⟩ := HC2.out W (Below.refl _ _)
  obtain ⟨u0, u1, u2, u3, u4, u5⟩ := q1
  obtain ⟨v0, v1, v2, v3, v4, v5⟩ := q2
  go_wp2_with fail
  have HZ1 : Hid (Below W.heap.size W ((W.alloc (.cells #[.int .u64 xsn, .int .u64 xst, .bool xou, .slice xkp xks.length xkc, .slice xrp xrs.length xrc, .slice xcp xcs.length xcc] 35)).alloc (.cells #[.int .u64 ysn, .int .u64 yst, .bool you, .slice ykp yks.length ykc, .slice yrp yrs.length yrc, .slice ycp ycs.length ycc] 35)).drew) := (((Below.refl _ _).alloc (Nat.le_refl _) _).alloc (by simp) _).drew
  have HZ2 : Hid (Below W.heap.size W ((W.alloc (.cells #[.int .u64 ysn, .int .u64 yst, .bool you, .slice ykp yks.length ykc, .slice yrp yrs.length yrc, .slice ycp ycs.length ycc] 35)).alloc (.cells #[.int .u64 xsn, .int .u64 xst, .bool xou, .slice xkp xks.length xkc, .slice xrp xrs.length xrc, .slice xcp xcs.length xcc] 35)).drew) := (((Below.refl _ _).alloc (Nat.le_refl _) _).alloc (by simp) _).drew
  go_region
  all_goals
    clear u0 u1 u2 u3 u4 u5 v0 v1 v2 v3 v4 v5 a0 a1 a2 a3 a4 a5 b0 b2 b3 b4 b5 b6
    by_cases c : i < j
    · have cz : (i : Int) < (j : Int) := by omega
      by_cases c2 : xst ≤ ysn
      · have hd : decide (xst ≤ ysn) = true := decide_eq_true c2
        go_wp2_with fail
        go_ret
        exact ⟨by rw [← HR.out, if_pos c, hd]; rfl, by first | exact HZ1.out | exact HZ2.out⟩
      · have hd : decide (xst ≤ ysn) = false := decide_eq_false c2
        go_wp2_with (go_at_call 42; refine (HH.out _ (by first | exact HZ1.out | exact HZ2.out)).mono ?_; rintro e w5 ⟨rfl, hb5⟩; have HB5 := hid (bel_then (by first | exact HZ1.out | exact HZ2.out) (by first | exact HZ1.out.size | exact HZ2.out.size) hb5); clear hb5)
        go_ret
        exact ⟨by rw [← HR.out, if_pos c, hd]; simp, HB5.out⟩
    · have cz : ¬ (i : Int) < (j : Int) := by omega
      by_cases c2 : xsn < yst
      · have hd : decide (xsn < yst) = true := decide_eq_true c2
        go_wp2_with (go_at_call 42; refine (HH.out _ (by first | exact HZ1.out | exact HZ2.out)).mono ?_; rintro e w5 ⟨rfl, hb5⟩; have HB5 := hid (bel_then (by first | exact HZ1.out | exact HZ2.out) (by first | exact HZ1.out.size | exact HZ2.out.size) hb5); clear hb5)
        go_ret
        exact ⟨by rw [← HR.out, if_neg c, hd]; simp, HB5.out⟩
      · have hd : decide (xsn < yst) = false := decide_eq_false c2
        go_wp2_with fail
        go_ret
        exact ⟨by rw [← HR.out, if_neg c, hd]; rfl, by first | exact HZ1.out | exact HZ2.out⟩

end Go.Proofs.Ytmihddbnddgfhaa
