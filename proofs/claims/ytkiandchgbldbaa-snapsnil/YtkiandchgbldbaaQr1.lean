/-
  The reference's registry of snapshots (stage 10): is, Close, Stamp, Count, Least, Raise.
-/
import Derived.Test.YtkiandchgbldbaaQr0
namespace Go.Proofs.Ytkiandchgbldbaa
open Go.RowKit

/-- A stamp that lies in its row. -/
theorem ks_rd {n0 : Nat} {W : World} {p : Option Addr} {n c : Nat} {d : List Int} (h : KS.Own n0 W (.slice p n c) d) (i : Nat) (hi : i < d.length) : ∃ b, p = some ⟨b, 0, none⟩ ∧ W.cell? ⟨b, i, none⟩ = some (.int .u64 d[i]) ∧ W.frozen? ⟨b, i, none⟩ = false := by
  obtain ⟨b, rfl, _, _, hat, hz⟩ := Kind.own_form h (by omega)
  have := hat i hi 0 (.int .u64 d[i]) rfl
  have e : 0 + i * KS.k + 0 = i := by show 0 + i * 1 + 0 = _; omega
  rw [e] at this
  exact ⟨b, rfl, this, hz i⟩
theorem kf_rd {n0 : Nat} {W : World} {p : Option Addr} {n c : Nat} {d : List Bool} (h : KF.Own n0 W (.slice p n c) d) (i : Nat) (hi : i < d.length) : ∃ b, p = some ⟨b, 0, none⟩ ∧ W.cell? ⟨b, i, none⟩ = some (.bool d[i]) ∧ W.frozen? ⟨b, i, none⟩ = false := by
  obtain ⟨b, rfl, _, _, hat, hz⟩ := Kind.own_form h (by omega)
  have := hat i hi 0 (.bool d[i]) rfl
  have e : 0 + i * KF.k + 0 = i := by show 0 + i * 1 + 0 = _; omega
  rw [e] at this
  exact ⟨b, rfl, this, hz i⟩

set_option maxHeartbeats 4000000 in
set_option maxRecDepth 100000 in
theorem risQ_any (n0 g : Nat) (os : Sn) (fl id : Int) (vs vc : Value) (W : World) (hq : RefQ n0 W g os fl vs vc) (hf : os.length ≤ 17000000000000) :
    Calls Try.prog 25 #[.pointer (some ⟨g, 0, none⟩), .int .i64 id] W fun e w' => e = .returned (.bool (atQ os id).isSome) ∧ w' = W := by
  obtain ⟨st, cl, h, hlen, rfl⟩ := hq
  have hzl := zipQ_len hlen
  rw [hzl] at hf
  obtain ⟨ps, cs, rfl⟩ := Kind.own_shape h.s
  obtain ⟨pc, cc, rfl⟩ := Kind.own_shape h.c
  obtain ⟨k0, k1, k2⟩ := h.cells
  by_cases h1 : 1 ≤ id
  · by_cases h2 : id ≤ (st.length : Int)
    · obtain ⟨i, rfl⟩ : ∃ i : Nat, id = (i : Int) + 1 := ⟨(id - 1).toNat, by omega⟩
      have hi : i < st.length := by omega
      obtain ⟨b, rfl, c1, _⟩ := kf_rd h.c i (by omega)
      have HQ : Hid ((atQ (zipQ st cl) ((i : Int) + 1)).isSome = !(cl[i]'(by omega))) := by
        show _ = _
        rw [atQ_zip hlen i hi]
        cases cl[i]'(by omega) <;> rfl
      generalize cl[i]'(by omega) = bb at *
      have hi0 : (0 : Int) ≤ (i : Int) := by omega
      have hi1 : (i : Int) < (cl.length : Int) := by omega
      have hw : IntKind.i64.wrap ((i : Int) + 1 - 1) = (i : Int) := by rw [IntKind.wrap_i64]; omega
      have hw2 : IntKind.i64.wrap (i : Int) = (i : Int) := by rw [IntKind.wrap_i64]; omega
      have hw3 : wrap64 (i : Int) = (i : Int) := by simp [wrap64]; omega
      have hw4 : wrap64 ((i : Int) + 1 - 1) = (i : Int) := by simp [wrap64]; omega
      clear h hlen hzl
      go_enter Try.func25, Try.ntmps25
      go_wp2_with fail
      go_ret
      exact ⟨by rw [HQ.out]; rfl, rfl⟩
    · have HQ : Hid (atQ (zipQ st cl) id = none) := atQ_le (by rw [hzl]; omega)
      clear h hlen hzl
      go_enter Try.func25, Try.ntmps25
      go_wp2_with fail
      go_ret
      exact ⟨by rw [HQ.out]; rfl, rfl⟩
  · have HQ : Hid (atQ (zipQ st cl) id = none) := by show _ = _; unfold atQ; rw [if_neg h1]
    clear h hlen hzl
    go_enter Try.func25, Try.ntmps25
    go_wp2_with fail
    go_ret
    exact ⟨by rw [HQ.out]; rfl, rfl⟩

/-- What the loops read of a registry: the cells of the place i. -/
theorem RefP.place {n0 : Nat} {W : World} {g : Nat} {st : List Int} {cl : List Bool} {fl : Int} {ps pc : Option Addr} {cs cc : Nat} (h : RefP n0 W g st cl fl (.slice ps st.length cs) (.slice pc cl.length cc)) (hlen : cl.length = st.length) (i : Nat) (hi : i < st.length) :
    ∃ b1 b2, ps = some ⟨b1, 0, none⟩ ∧ pc = some ⟨b2, 0, none⟩ ∧ W.cell? ⟨b1, i, none⟩ = some (.int .u64 st[i]) ∧ W.cell? ⟨b2, i, none⟩ = some (.bool (cl[i]'(by omega))) ∧ W.frozen? ⟨b2, i, none⟩ = false := by
  obtain ⟨b1, e1, c1, _⟩ := ks_rd h.s i hi
  obtain ⟨b2, e2, c2, z2⟩ := kf_rd h.c i (by omega)
  exact ⟨b1, b2, e1, e2, c1, c2, z2⟩

/-- A snapshot closed: its place written over. -/
theorem RefP.shut {n0 : Nat} {W : World} {g : Nat} {st : List Int} {cl : List Bool} {fl : Int} {vs : Value} {b cc : Nat} (h : RefP n0 W g st cl fl vs (.slice (some ⟨b, 0, none⟩) cl.length cc)) (i : Nat) (hi : i < cl.length) :
    RefP n0 (W.setCell ⟨b, i, none⟩ (.bool true)) g st (cl.set i true) fl vs (.slice (some ⟨b, 0, none⟩) cl.length cc) := by
  have hb : (Value.slice (some ⟨b, 0, none⟩) cl.length cc).ownBlock = some b := rfl
  have hne : g ≠ b := fun e => obj_off h.obj h.c (by decide) hb e.symm
  exact ⟨(heap_setCell_other W _ g _ hne).trans h.obj, h.low, own_same h.s fun k hk => heap_setCell_other W _ k _ (fun e => rows_off h.s h.c (by decide) hk (by rw [hb, e])), Kind.own_put1 rfl h.c rfl i hi true (.bool true) rfl⟩

set_option maxHeartbeats 4000000 in
set_option maxRecDepth 100000 in
theorem rcloseQ_any (n0 g : Nat) (os : Sn) (fl id : Int) (vs vc : Value) (W : World) (hq : RefQ n0 W g os fl vs vc) (hf : os.length ≤ 17000000000000) :
    Calls Try.prog 20 #[.pointer (some ⟨g, 0, none⟩), .int .i64 id] W fun e w' => e = .returned (.bool (atQ os id).isSome) ∧ RTurn n0 W g vs vc (closeQ os id) fl w' := by
  have HIS := hid (risQ_any n0 g os fl id vs vc W hq hf)
  cases ha : atQ os id with
  | none =>
    rw [ha] at HIS
    have HR : Hid (RTurn n0 W g vs vc (closeQ os id) fl W) := ⟨vs, vc, by rw [closeQ_same ha]; exact hq, Fr.refl _ _, fun _ h => Or.inl h⟩
    clear ha hq
    go_enter Try.func20, Try.ntmps20
    go_wp2_with fail
    refine HIS.out.mono ?_
    rintro e w1 ⟨rfl, rfl⟩
    simp only [Option.isSome]
    go_wp2_with fail
    go_ret
    exact ⟨rfl, HR.out⟩
  | some s =>
    rw [ha] at HIS
    obtain ⟨st, cl, h, hlen, rfl⟩ := hq
    have hzl := zipQ_len hlen
    have hid1 : 1 ≤ id := by
      rcases Int.lt_or_le id 1 with h1 | h1
      · unfold atQ at ha; rw [if_neg (by omega)] at ha; cases ha
      · exact h1
    have hid2 : id ≤ (st.length : Int) := by
      rcases Int.lt_or_le (st.length : Int) id with h1 | h1
      · rw [atQ_le (by rw [hzl]; exact h1)] at ha; cases ha
      · exact h1
    rw [hzl] at hf
    obtain ⟨i, rfl⟩ : ∃ i : Nat, id = (i : Int) + 1 := ⟨(id - 1).toNat, by omega⟩
    have hi : i < st.length := by omega
    obtain ⟨ps, cs, rfl⟩ := Kind.own_shape h.s
    obtain ⟨pc, cc, rfl⟩ := Kind.own_shape h.c
    obtain ⟨k0, k1, k2⟩ := h.cells
    obtain ⟨b1, b2, rfl, rfl, y1, y2, z2⟩ := h.place hlen i hi
    have HR : Hid (RTurn n0 W g (.slice (some ⟨b1, 0, none⟩) st.length cs) (.slice (some ⟨b2, 0, none⟩) cl.length cc) (closeQ (zipQ st cl) ((i : Int) + 1)) fl (W.setCell ⟨b2, i, none⟩ (.bool true))) := by
      refine ⟨_, _, ⟨st, cl.set i true, h.shut i (by omega), by rw [List.length_set]; exact hlen, ?_⟩, ?_, fun _ hk => Or.inl hk⟩
      · rw [zipQ_set hlen]
        unfold closeQ
        rw [if_pos (by omega), show ((i : Int) + 1 - 1).toNat = i by omega]
      · exact ⟨rfl, rfl, rfl, by simp, fun k _ hn => heap_setCell_other W _ k _ (fun e => hn (Or.inr (Or.inr (by rw [e]; rfl))))⟩
    have hi0 : (0 : Int) ≤ (i : Int) := by omega
    have hi1 : (i : Int) < (cl.length : Int) := by omega
    have hw : IntKind.i64.wrap ((i : Int) + 1 - 1) = (i : Int) := by rw [IntKind.wrap_i64]; omega
    have hw2 : IntKind.i64.wrap (i : Int) = (i : Int) := by rw [IntKind.wrap_i64]; omega
    have hw3 : wrap64 (i : Int) = (i : Int) := by simp [wrap64]; omega
    have hw4 : wrap64 ((i : Int) + 1 - 1) = (i : Int) := by simp [wrap64]; omega
    generalize cl[i]'(by omega) = bb at y2
    clear h hlen hzl ha
    go_enter Try.func20, Try.ntmps20
    go_wp2_with fail
    refine HIS.out.mono ?_
    rintro e w1 ⟨rfl, rfl⟩
    simp only [Option.isSome]
    go_wp2_with fail
    go_ret
    exact ⟨rfl, HR.out⟩

set_option maxHeartbeats 4000000 in
set_option maxRecDepth 100000 in
theorem rstampQ_any (n0 g : Nat) (os : Sn) (fl id : Int) (vs vc : Value) (W : World) (hq : RefQ n0 W g os fl vs vc) (hf : os.length ≤ 17000000000000) :
    Calls Try.prog 21 #[.pointer (some ⟨g, 0, none⟩), .int .i64 id] W fun e w' => e = .returned (.tuple #[.int .u64 ((atQ os id).getD 0), .bool (atQ os id).isSome]) ∧ w' = W := by
  have HIS := hid (risQ_any n0 g os fl id vs vc W hq hf)
  cases ha : atQ os id with
  | none =>
    rw [ha] at HIS
    clear ha hq
    go_enter Try.func21, Try.ntmps21
    go_wp2_with fail
    refine HIS.out.mono ?_
    rintro e w1 ⟨rfl, rfl⟩
    simp only [Option.isSome]
    go_wp2_with fail
    go_ret2
    exact ⟨rfl, rfl⟩
  | some s =>
    rw [ha] at HIS
    obtain ⟨st, cl, h, hlen, rfl⟩ := hq
    have hzl := zipQ_len hlen
    have hid1 : 1 ≤ id := by
      rcases Int.lt_or_le id 1 with h1 | h1
      · unfold atQ at ha; rw [if_neg (by omega)] at ha; cases ha
      · exact h1
    have hid2 : id ≤ (st.length : Int) := by
      rcases Int.lt_or_le (st.length : Int) id with h1 | h1
      · rw [atQ_le (by rw [hzl]; exact h1)] at ha; cases ha
      · exact h1
    rw [hzl] at hf
    obtain ⟨i, rfl⟩ : ∃ i : Nat, id = (i : Int) + 1 := ⟨(id - 1).toNat, by omega⟩
    have hi : i < st.length := by omega
    rw [atQ_zip hlen i hi] at ha
    have hs : st[i] = s := by
      split at ha
      · cases ha
      · injection ha
    obtain ⟨ps, cs, rfl⟩ := Kind.own_shape h.s
    obtain ⟨pc, cc, rfl⟩ := Kind.own_shape h.c
    obtain ⟨k0, k1, k2⟩ := h.cells
    obtain ⟨b1, b2, rfl, rfl, y1, y2, z2⟩ := h.place hlen i hi
    rw [hs] at y1
    have hi0 : (0 : Int) ≤ (i : Int) := by omega
    have hi1 : (i : Int) < (st.length : Int) := by omega
    have hw : IntKind.i64.wrap ((i : Int) + 1 - 1) = (i : Int) := by rw [IntKind.wrap_i64]; omega
    have hw2 : IntKind.i64.wrap (i : Int) = (i : Int) := by rw [IntKind.wrap_i64]; omega
    have hw3 : wrap64 (i : Int) = (i : Int) := by simp [wrap64]; omega
    have hw4 : wrap64 ((i : Int) + 1 - 1) = (i : Int) := by simp [wrap64]; omega
    generalize cl[i]'(by omega) = bb at y2
    clear h hlen hzl ha hs
    go_enter Try.func21, Try.ntmps21
    go_wp2_with fail
    refine HIS.out.mono ?_
    rintro e w1 ⟨rfl, rfl⟩
    simp only [Option.isSome]
    go_wp2_with fail
    go_ret2
    exact ⟨rfl, rfl⟩

set_option maxHeartbeats 4000000 in
set_option maxRecDepth 100000 in
theorem rcountQ_any (n0 g : Nat) (os : Sn) (fl : Int) (vs vc : Value) (W : World) (hq : RefQ n0 W g os fl vs vc) (hf : os.length ≤ 17000000000000) :
    Calls Try.prog 12 #[.pointer (some ⟨g, 0, none⟩)] W fun e w' => e = .returned (.int .i64 (countQ os : Nat)) ∧ w' = W := by
  obtain ⟨st, cl, h, hlen, rfl⟩ := hq
  have hzl := zipQ_len hlen
  rw [hzl] at hf
  obtain ⟨ps, cs, rfl⟩ := Kind.own_shape h.s
  obtain ⟨pc, cc, rfl⟩ := Kind.own_shape h.c
  obtain ⟨k0, k1, k2⟩ := h.cells
  have hcl : cl.length ≤ 17000000000000 := by omega
  have HH := hid h
  have HLEN := hid hlen
  have HZL := hid hzl
  clear h hlen hzl
  go_enter Try.func12, Try.ntmps12
  go_wp2_with fail
  go_loopg [3, 4] cl.length (fun gg vn vi wr => ∃ (i : Nat) (n : Nat), vn = .int .i64 n ∧ vi = .int .i64 i ∧ i ≤ cl.length ∧ cl.length - i ≤ gg ∧ n ≤ i ∧ wr = W ∧ Hid (n = countQ ((zipQ st cl).take i)))
  case atStart => exact ⟨0, 0, rfl, rfl, by omega, by omega, by omega, rfl, rfl⟩
  case round =>
    obtain ⟨i, n, rfl, rfl, hi1, hi2, hn, rfl, HC⟩ := hrel
    by_cases hlt : i < cl.length
    · have hi : i < st.length := by have := HLEN.out; omega
      obtain ⟨b1, b2, rfl, rfl, y1, y2, z2⟩ := HH.out.place HLEN.out i hi
      have HS : Hid (countQ ((zipQ st cl).take (i + 1)) = n + if cl[i] then 0 else 1) := by
        show _ = _
        have hiz : i < (zipQ st cl).length := by have := HZL.out; omega
        rw [count_take hiz, ← HC.out, zipQ_get HLEN.out i hi]
        cases cl[i] <;> rfl
      generalize cl[i] = bb at *
      have hl0 : (0 : Int) ≤ (i : Int) := by omega
      have hl1 : (i : Int) < (cl.length : Int) := by omega
      cases bb with
      | true =>
        go_wp2_with fail
        go_roundg (cl.length - (i + 1))
        case measure => omega
        exact ⟨i + 1, n, rfl, by go_num, by omega, by omega, by omega, rfl, by show _ = _; rw [HS.out]; simp⟩
      | false =>
        go_wp2_with fail
        go_roundg (cl.length - (i + 1))
        case measure => omega
        exact ⟨i + 1, n + 1, by go_num, by go_num, by omega, by omega, by omega, rfl, by show _ = _; rw [HS.out]; simp⟩
    · have hl : ¬ (i : Int) < (cl.length : Int) := by omega
      have HE : Hid ((n : Int) = (countQ (zipQ st cl) : Nat)) := by
        show _ = _
        rw [HC.out, List.take_of_length_le (by have := HZL.out; have := HLEN.out; omega)]
      go_wp2_with fail
      go_ret
      exact ⟨by rw [← HE.out]; rfl, rfl⟩

set_option maxHeartbeats 4000000 in
set_option maxRecDepth 100000 in
theorem rleastQ_any (n0 g : Nat) (os : Sn) (fl now : Int) (vs vc : Value) (W : World) (hq : RefQ n0 W g os fl vs vc) (hf : os.length ≤ 17000000000000) :
    Calls Try.prog 14 #[.pointer (some ⟨g, 0, none⟩), .int .u64 now] W fun e w' => e = .returned (.int .u64 (leastQ os now)) ∧ w' = W := by
  obtain ⟨st, cl, h, hlen, rfl⟩ := hq
  have hzl := zipQ_len hlen
  rw [hzl] at hf
  obtain ⟨ps, cs, rfl⟩ := Kind.own_shape h.s
  obtain ⟨pc, cc, rfl⟩ := Kind.own_shape h.c
  obtain ⟨k0, k1, k2⟩ := h.cells
  have HH := hid h
  have HLEN := hid hlen
  have HZL := hid hzl
  clear h hlen hzl
  go_enter Try.func14, Try.ntmps14
  go_wp2_with fail
  go_loopg [1, 5] st.length (fun gg vn vi wr => ∃ (i : Nat) (m : Int), vn = .int .u64 m ∧ vi = .int .i64 i ∧ i ≤ st.length ∧ st.length - i ≤ gg ∧ wr = W ∧ Hid (m = leastQ ((zipQ st cl).take i) now))
  case atStart => exact ⟨0, now, rfl, rfl, by omega, by omega, rfl, rfl⟩
  case round =>
    obtain ⟨i, m, rfl, rfl, hi1, hi2, rfl, HC⟩ := hrel
    by_cases hlt : i < st.length
    · obtain ⟨b1, b2, rfl, rfl, y1, y2, z2⟩ := HH.out.place HLEN.out i hlt
      have hlc : i < cl.length := by have := HLEN.out; omega
      have HS : Hid (leastQ ((zipQ st cl).take (i + 1)) now = minQ m (if cl[i] then none else some st[i])) := by
        show _ = _
        have hiz : i < (zipQ st cl).length := by have := HZL.out; omega
        rw [least_take hiz, ← HC.out, zipQ_get HLEN.out i hlt]
      generalize cl[i] = bb at *
      generalize st[i] = s at *
      have hl0 : (0 : Int) ≤ (i : Int) := by omega
      have hl1 : (i : Int) < (st.length : Int) := by omega
      have hl2 : (i : Int) < (cl.length : Int) := by omega
      cases bb with
      | true =>
        go_wp2_with fail
        go_roundg (st.length - (i + 1))
        case measure => omega
        exact ⟨i + 1, m, rfl, by go_num, by omega, by omega, rfl, by show _ = _; rw [HS.out]; rfl⟩
      | false =>
        by_cases hs : s < m
        · go_wp2_with fail
          go_roundg (st.length - (i + 1))
          case measure => omega
          exact ⟨i + 1, s, rfl, by go_num, by omega, by omega, rfl, by show _ = _; rw [HS.out]; exact (if_pos hs).symm⟩
        · go_wp2_with fail
          go_roundg (st.length - (i + 1))
          case measure => omega
          exact ⟨i + 1, m, rfl, by go_num, by omega, by omega, rfl, by show _ = _; rw [HS.out]; exact (if_neg (by omega)).symm⟩
    · have hl : ¬ (i : Int) < (st.length : Int) := by omega
      have HE : Hid (m = leastQ (zipQ st cl) now) := by
        show _ = _
        rw [HC.out, List.take_of_length_le (by have := HZL.out; omega)]
      go_wp2_with fail
      go_ret
      exact ⟨by rw [← HE.out]; rfl, rfl⟩

set_option maxHeartbeats 4000000 in
set_option maxRecDepth 100000 in
theorem rraiseQ_any (n0 g : Nat) (os : Sn) (fl f : Int) (vs vc : Value) (W : World) (hq : RefQ n0 W g os fl vs vc) (hf : os.length ≤ 17000000000000) :
    Calls Try.prog 22 #[.pointer (some ⟨g, 0, none⟩), .int .u64 f] W fun e w' => e = .returned (.int .i64 (raiseQ os fl f).1) ∧ RTurn n0 W g vs vc os (raiseQ os fl f).2 w' := by
  have HSAME : Hid (RTurn n0 W g vs vc os fl W) := ⟨vs, vc, hq, Fr.refl _ _, fun _ h => Or.inl h⟩
  have HNEW : Hid (RTurn n0 W g vs vc os f (W.setCell ⟨g, 2, none⟩ (.int .u64 f))) := by
    obtain ⟨st, cl, h, hlen, hz⟩ := hq
    refine ⟨vs, vc, ⟨st, cl, ⟨heap_setCell_same W g 2 _ _ _ h.obj, h.low, own_same h.s fun k hk => heap_setCell_other W _ k _ (obj_off h.obj h.s (by decide) hk), own_same h.c fun k hk => heap_setCell_other W _ k _ (obj_off h.obj h.c (by decide) hk)⟩, hlen, hz⟩, ?_, fun _ hk => Or.inl hk⟩
    exact ⟨rfl, rfl, rfl, by simp, fun k _ hn => heap_setCell_other W _ k _ (fun e => hn (Or.inl e))⟩
  obtain ⟨st, cl, h, hlen, rfl⟩ := hq
  have hzl := zipQ_len hlen
  rw [hzl] at hf
  obtain ⟨ps, cs, rfl⟩ := Kind.own_shape h.s
  obtain ⟨pc, cc, rfl⟩ := Kind.own_shape h.c
  obtain ⟨k0, k1, k2⟩ := h.cells
  have z2 := h.free 2
  have HH := hid h
  have HLEN := hid hlen
  have HZL := hid hzl
  clear h hlen hzl
  by_cases h8 : f < fl
  · have HR : Hid (raiseQ (zipQ st cl) fl f = (8, fl)) := by show _ = _; unfold raiseQ; rw [if_pos h8]
    go_enter Try.func22, Try.ntmps22
    go_wp2_with fail
    go_ret
    rw [HR.out]
    exact ⟨rfl, HSAME.out⟩
  · have HR : Hid (raiseQ (zipQ st cl) fl f = if lowQ (zipQ st cl) f then (1, fl) else (0, f)) := by show _ = _; unfold raiseQ; rw [if_neg h8]
    go_enter Try.func22, Try.ntmps22
    go_wp2_with fail
    go_loopg [5] st.length (fun gg vi wr => ∃ (i : Nat), vi = .int .i64 i ∧ i ≤ st.length ∧ st.length - i ≤ gg ∧ wr = W ∧ Hid (lowQ ((zipQ st cl).take i) f = false))
    case atStart => exact ⟨0, rfl, by omega, by omega, rfl, rfl⟩
    case round =>
      obtain ⟨i, rfl, hi1, hi2, rfl, HC⟩ := hrel
      by_cases hlt : i < st.length
      · obtain ⟨b1, b2, rfl, rfl, y1, y2, z2'⟩ := HH.out.place HLEN.out i hlt
        have hlc : i < cl.length := by have := HLEN.out; omega
        have hiz : i < (zipQ st cl).length := by have := HZL.out; omega
        have HS : Hid (lowQ ((zipQ st cl).take (i + 1)) f = match (if cl[i] then none else some st[i] : Option Int) with | some s => decide (s < f) | none => false) := by
          show _ = _
          rw [low_take hiz, HC.out, Bool.false_or, zipQ_get HLEN.out i hlt]
          cases cl[i] <;> rfl
        have HBAD : Hid (cl[i] = false → st[i] < f → lowQ (zipQ st cl) f = true) := fun e1 e2 => by
          refine (low_iff _ _).2 ⟨st[i], ?_, e2⟩
          have := zipQ_get HLEN.out i hlt
          rw [e1] at this
          have e3 : some st[i] = (zipQ st cl)[i] := by rw [this]; rfl
          rw [e3]
          exact List.getElem_mem hiz
        generalize cl[i] = bb at *
        generalize st[i] = s at *
        have hl0 : (0 : Int) ≤ (i : Int) := by omega
        have hl1 : (i : Int) < (st.length : Int) := by omega
        have hl2 : (i : Int) < (cl.length : Int) := by omega
        clear hiz
        cases bb with
        | true =>
          go_wp2_with fail
          go_roundg (st.length - (i + 1))
          case measure => omega
          exact ⟨i + 1, by go_num, by omega, by omega, rfl, by show _ = _; rw [HS.out]; rfl⟩
        | false =>
          by_cases hs : s < f
          · have HL := hid (HBAD.out rfl hs)
            clear HBAD HS
            go_wp2_with fail
            go_ret
            rw [HR.out, HL.out]
            exact ⟨rfl, HSAME.out⟩
          · clear HBAD
            go_wp2_with fail
            go_roundg (st.length - (i + 1))
            case measure => omega
            exact ⟨i + 1, by go_num, by omega, by omega, rfl, by show _ = _; rw [HS.out]; exact decide_eq_false (by omega)⟩
      · have hl : ¬ (i : Int) < (st.length : Int) := by omega
        have HE : Hid (lowQ (zipQ st cl) f = false) := by
          show _ = _
          rw [← HC.out, List.take_of_length_le (by have := HZL.out; omega)]
        go_wp2_with fail
        go_ret
        rw [HR.out, HE.out]
        exact ⟨rfl, HNEW.out⟩

end Go.Proofs.Ytkiandchgbldbaa
