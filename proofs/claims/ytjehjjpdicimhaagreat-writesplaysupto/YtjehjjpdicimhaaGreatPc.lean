/-
  Texts of this claim, one behind the other: Wr1 Zless Wr2 Psn Dfd Wr4 Krf Krk Rmay Wr3 Tok Rtok Rp3.
-/
import Derived.Test.YtjehjjpdicimhaaGreatPb
import Derived.Test.YtjehjjpdicimhaaGreatPa
import Derived.Deep.QuietTactic
import Derived.BigQuiet
/-
  The reference's set of writes (stage 11): Forget.
-/
namespace Go.Proofs.YtjehjjpdicimhaaGreat
open Go.RowKit

theorem Tryz.infoWx : (Tryz.prog.info? 76).map (fun i => (i.zero, i.size, i.bytes)) = some (some (.agg #[.string ⟨#[]⟩, .string ⟨#[]⟩, .bool false, .slice none 0 0]), 4, 64) := by kernel_rfl

/-- What a call leaves of a set of the reference. -/
def RTurnW (n0 : Nat) (W : World) (g : Nat) (d : List Wx) (vs : Value) (L : List RowW) (w' : World) : Prop :=
  ∃ d' vs', RefW n0 w' g d' vs' ∧ d'.map Wx.row = L ∧ Fr (fun k => k = g) W w' ∧ ∀ k, BlkW g d' vs' k → BlkW g d vs k ∨ W.heap.size ≤ k

theorem key_uniq {d : List Wx} (h : OkW (d.map Wx.row)) {i j : Nat} (hi : i < d.length) (hj : j < d.length) (he : (d[i]).key = (d[j]).key) : i = j := by
  have hp := List.pairwise_iff_getElem.1 h.rise
  rcases Nat.lt_trichotomy i j with hl | hl | hl
  · have := hp i j (by simpa using hi) (by simpa using hj) hl
    rw [List.getElem_map, List.getElem_map] at this
    have h2 : ltKy (d[i]).key (d[j]).key = true := this
    rw [he, totK.irr] at h2
    cases h2
  · exact hl
  · have := hp j i (by simpa using hj) (by simpa using hi) hl
    rw [List.getElem_map, List.getElem_map] at this
    have h2 : ltKy (d[j]).key (d[i]).key = true := this
    rw [he, totK.irr] at h2
    cases h2

theorem AtW.ne {d : List Wx} (h : OkW (d.map Wx.row)) {k : Ky} {q : Int} (hq : AtW d k q) {i : Nat} (hi : i < d.length) : ((i : Int) != q) = !decide ((d[i]).key = k) := by
  rcases hq with ⟨j, hj, rfl, hk⟩ | ⟨rfl, hn⟩
  · by_cases e : i = j
    · subst e
      rw [decide_eq_true hk]
      simp
    · rw [decide_eq_false fun e2 => e (key_uniq h hi hj (e2.trans hk.symm))]
      simp
      omega
  · rw [decide_eq_false (hn _ (List.getElem_mem hi))]
    simp

def keepX (d : List Wx) (k : Ky) : List Wx := d.filter fun x => !decide (x.key = k)
theorem keepX_row (d : List Wx) (k : Ky) : (keepX d k).map Wx.row = delW (d.map Wx.row) k := by
  unfold keepX delW
  rw [List.filter_map]
  rfl

/-- The row has been laid anew. -/
theorem RefW.laid {n0 N : Nat} {W w : World} {g : Nat} {d d' : List Wx} {vs v' : Value} (h : RefW n0 W g d vs) (hN : N = W.heap.size) (hn : n0 ≤ N) (hb : Below N W w) (ho : KWx.Own N w v' d') (hsub : ∀ x ∈ d', OwnJ n0 w x.sl x.o ∧ (x.live = false → x.o = []) ∧ ¬ BlkX x.sl x.o g) (hk : OkW (d'.map Wx.row)) :
    RefW n0 (w.setCell ⟨g, 0, none⟩ v') g d' v' ∧ Fr (fun k => k = g) W (w.setCell ⟨g, 0, none⟩ v') ∧ ∀ k, BlkW g d' v' k → k = g ∨ N ≤ k ∨ ∃ x ∈ d', BlkX x.sl x.o k := by
  subst hN
  have hlt := h.lt
  have hobj : w.heap[g]? = some (.cells #[vs] 29 (0, 0)) := (hb.block g hlt).trans h.obj
  have fset : Fr (fun b => b = g) w (w.setCell ⟨g, 0, none⟩ v') := ⟨rfl, rfl, rfl, by simp, fun k _ hn => heap_setCell_other w _ k _ hn⟩
  refine ⟨⟨heap_setCell_same w g 0 _ _ _ hobj, h.low, Kind.own_weak (fset.row ho fun k hk e => ?_) hn, fun x hx => ownJ_fr (hsub x hx).1 fset fun k hk e => (hsub x hx).2.2 (e ▸ hk), hk, fun x hx => (hsub x hx).2.1⟩, Fr.then (Fr.of_below hb) fset fun k hk => Or.inl hk, fun k hk => ?_⟩
  · have := (World.ownsRow.lt ho k hk).1
    omega
  · rcases hk with rfl | hk | ⟨x, hx, hk⟩
    · exact Or.inl rfl
    · exact Or.inr (Or.inl (World.ownsRow.lt ho k hk).1)
    · exact Or.inr (Or.inr ⟨x, hx, hk⟩)

theorem RefW.offX {n0 : Nat} {W : World} {g : Nat} {d : List Wx} {vs : Value} (h : RefW n0 W g d vs) {N : Nat} {u : Value} {o : List Fx} (hj : OwnJ N W u o) : ¬ BlkX u o g := fun hk => by
  have ty : ∃ cs t, W.heap[g]? = some (.cells cs t (0, 0)) ∧ (t = 63 ∨ t = 9) := by
    rcases hk with hk | ⟨f, hf, hk⟩
    · rcases hj.1.1.2 with ⟨rfl, _⟩ | ⟨b, cap, cur, rfl, _, hb, _⟩
      · cases hk
      · have e1 : b = g := by simpa [Value.ownBlock] using hk
        subst e1
        exact ⟨_, _, hb, Or.inl rfl⟩
    · rcases (hj.1.2 f hf).2 with ⟨e0, _⟩ | ⟨b, cap, cur, e0, _, hb, _⟩
      · rw [e0] at hk; cases hk
      · rw [e0] at hk
        have e1 : b = g := by simpa [Value.ownBlock] using hk
        subst e1
        exact ⟨_, _, hb, Or.inr rfl⟩
  obtain ⟨cs, t, h1, h2⟩ := ty
  rw [h.obj] at h1
  injection h1 with h1
  injection h1 with _ h1
  rcases h2 with rfl | rfl
  · exact absurd h1 (by decide)
  · exact absurd h1 (by decide)

set_option maxHeartbeats 4000000 in
set_option maxRecDepth 100000 in
theorem forgetW_any {n0 : Nat} {W : World} {g : Nat} {d : List Wx} {vs : Value} (hR : RefW n0 W g d vs) (hn : n0 ≤ W.heap.size) (hl : d.length ≤ 2000000000000) (k : Ky) :
    Calls Tryz.prog 25 #[.pointer (some ⟨g, 0, none⟩), .agg #[.string k.1, .string k.2]] W fun e w' => e = .returned (.bool (getW (d.map Wx.row) k).isSome) ∧ RTurnW n0 W g d vs (delW (d.map Wx.row) k) w' := by
  obtain ⟨p, cap, rfl⟩ := Kind.own_shape hR.row
  obtain ⟨i0, hi0, hz0, hz1, hz2⟩ := info_parts Tryz.infoWx
  have HI0 := hid hi0
  obtain ⟨N, hN⟩ : ∃ N, W.heap.size = N := ⟨_, rfl⟩
  obtain ⟨V, hV⟩ : ∃ V, W.alloc (.cells #[.string k.1, .string k.2] 31) = V := ⟨_, rfl⟩
  have hbV : Below W.heap.size W V := by rw [← hV]; exact (Below.refl _ _).alloc (Nat.le_refl _) _
  have HAT := hid (atW_any (hR.on hbV) (by omega) k)
  have HIS : Hid (∀ w, Below N W w → KWx.Is w (.slice p d.length cap) d ∧ w.cell? ⟨g, 0, none⟩ = some (.slice p d.length cap) ∧ w.frozen? ⟨g, 0, none⟩ = false) := fun w hw => by
    rw [← hN] at hw
    have := hR.on hw
    exact ⟨Kind.own_is this.row, this.cell, this.free⟩
  have HEND : Hid (∀ w v', RowSt KWx N W v' (keepX d k) w → RTurnW n0 W g d (.slice p d.length cap) (delW (d.map Wx.row) k) (w.setCell ⟨g, 0, none⟩ v')) := fun w v' hs => by
    have hmem : ∀ x ∈ keepX d k, x ∈ d := fun x hx => (List.mem_filter.1 hx).1
    have hRw := hR.on (show Below W.heap.size W w by rw [hN]; exact hs.bel)
    obtain ⟨t1, t2, t3⟩ := hR.laid hN.symm (by omega) hs.bel hs.own (fun x hx => ⟨hRw.each x (hmem x hx), hR.bare x (hmem x hx), hRw.offX (hRw.each x (hmem x hx))⟩) (by rw [keepX_row]; exact okW_del hR.ok k)
    refine ⟨_, _, t1, keepX_row d k, t2, fun j hj => ?_⟩
    rcases t3 j hj with rfl | h | ⟨x, hx, hk⟩
    · exact Or.inl (Or.inl rfl)
    · exact Or.inr (by omega)
    · exact Or.inl (Or.inr (Or.inr ⟨x, hmem x hx, hk⟩))
  have HOK := hid hR.ok
  have HBV := hid hbV
  obtain ⟨ka, kb⟩ := k
  have hbN : Below N W V := by rw [← hN]; exact hbV
  obtain ⟨_, c0, _⟩ := HIS.out V hbN
  have hobj : V.heap[N]? = some (.cells #[.string ka, .string kb] 31 (0, 0)) := by rw [← hV, ← hN]; exact heap_alloc_new W _
  have n0' : V.cell? ⟨N, 0, none⟩ = some (.string ka) := by rw [Lib.cell_of_heap hobj]; rfl
  have n1' : V.cell? ⟨N, 1, none⟩ = some (.string kb) := by rw [Lib.cell_of_heap hobj]; rfl
  clear hR hi0 hbV hbN hobj
  go_enter Tryz.func25, Tryz.ntmps25
  go_wp2_with fail
  try rw [hV]
  refine HAT.out.mono ?_
  rintro e w1 ⟨⟨q, rfl, hq⟩, hb1⟩
  have hB1 : Below N W w1 := by rw [← hN]; exact bel_then HBV.out HBV.out.size hb1
  have hS1 : N ≤ w1.heap.size := by have := hB1.size; omega
  obtain ⟨_, c1, z1⟩ := HIS.out w1 hB1
  have HQ := hid hq
  have HST0 : Hid (RowSt KWx N W (.slice none 0 0) [] w1) := ⟨Kind.own_nil _ _ _, hB1, hS1⟩
  clear hB1 hb1 hq HAT HBV c0 hS1
  go_wp2_with fail
  go_loopg [6, 7] d.length (fun gg v6 vi wr => ∃ (i : Nat) (p' : Option Addr) (c' : Nat), vi = .int .i64 i ∧ v6 = .slice p' (keepX (d.take i) (ka, kb)).length c' ∧ i ≤ d.length ∧ d.length - i ≤ gg ∧ Hid (RowSt KWx N W (.slice p' (keepX (d.take i) (ka, kb)).length c') (keepX (d.take i) (ka, kb)) wr))
  case atStart => exact ⟨0, none, 0, rfl, rfl, by omega, by omega, HST0.out⟩
  case round =>
    clear HST0 c1 z1
    obtain ⟨i, p', c', rfl, rfl, hi, hgk, HI⟩ := hrel
    obtain ⟨_, c1, z1⟩ := HIS.out wr HI.out.bel
    by_cases hlt : i < d.length
    · have hltz : (i : Int) < (d.length : Int) := by omega
      have hiz : (0 : Int) ≤ i := by omega
      obtain ⟨b1, o1, rfl, k1⟩ : ∃ b off, p = some ⟨b, off, none⟩ ∧ KWx.At wr b off d := by
        obtain ⟨p', c', he, h⟩ := (HIS.out wr HI.out.bel).1
        injection he with e1 _ _
        subst e1
        rcases h with h | h
        · rw [h] at hlt; simp at hlt
        · exact h
      obtain ⟨y0, y1, y2, y3⟩ := kw_at k1 i hlt
      have hne := HQ.out.ne HOK.out hlt
      have htk : d.take (i + 1) = d.take i ++ [d[i]] := List.take_succ_eq_append_getElem hlt
      have hkl : (keepX (d.take i) (ka, kb)).length ≤ d.length := Nat.le_trans (List.length_filter_le _ _) (by rw [List.length_take]; omega)
      have HTK1 : Hid ((d[i]).key = (ka, kb) → keepX (d.take (i + 1)) (ka, kb) = keepX (d.take i) (ka, kb) ∧ ((i : Int) != q) = false) := fun hk => by
        refine ⟨?_, by rw [hne, decide_eq_true hk]; rfl⟩
        rw [htk]
        unfold keepX
        rw [List.filter_append]
        simp [hk]
      have HTK2 : Hid (¬ (d[i]).key = (ka, kb) → keepX (d.take (i + 1)) (ka, kb) = keepX (d.take i) (ka, kb) ++ [d[i]] ∧ ((i : Int) != q) = true) := fun hk => by
        refine ⟨?_, by rw [hne, decide_eq_false hk]; rfl⟩
        rw [htk]
        unfold keepX
        rw [List.filter_append]
        simp [hk]
      clear hne
      generalize keepX (d.take i) (ka, kb) = l at *
      generalize d[i] = x at *
      obtain ⟨xa, xb, xl, xp, xc, xo⟩ := x
      simp only [Wx.key, Wx.sl] at *
      clear k1 htk
      by_cases hk : (xa, xb) = (ka, kb)
      · obtain ⟨he, hne1⟩ := HTK1.out hk
        have HE := hid he
        clear hk HTK1 HTK2 he
        go_wp2_with fail
        go_roundg (d.length - (i + 1))
        case measure => omega
        exact ⟨i + 1, p', c', by go_num, by rw [HE.out], by omega, by omega, by rw [HE.out]; exact HI.out⟩
      · obtain ⟨he, hne1⟩ := HTK2.out hk
        have HE := hid he
        clear he HTK1 HTK2
        obtain ⟨W1, hW1⟩ : ∃ W1, wr.alloc (.cells #[.string xa, .string xb, .bool xl, .slice xp xo.length xc] 76) = W1 := ⟨_, rfl⟩
        have hb1 : Below wr.heap.size wr W1 := by rw [← hW1]; exact (Below.refl _ _).alloc (Nat.le_refl _) _
        have HN1 : Hid (W1.heap[wr.heap.size]? = some (.cells #[.string xa, .string xb, .bool xl, .slice xp xo.length xc] 76 (0, 0))) := by rw [← hW1]; exact heap_alloc_new wr _
        have HO1 := hid (HI.out.on hb1)
        clear hk hb1 HI
        go_wp2_with (at_builtin; refine wpList_push KWx rfl _ _ 27 rfl i0 _ 64 Tryz.underlying27 HI0.out hz0 hz1 hz2 rfl N W _ l rfl HO1.out ⟨xa, xb, xl, xp, xc, xo⟩ _ _ _ rfl rfl _ _ HN1.out (by unfold maxLen; omega) (by omega) ?_
                     intro g3 c3 w3 hst3 _ _
                     have HS3 := hid hst3
                     clear hst3)
        go_roundg (d.length - (i + 1))
        case measure => omega
        exact ⟨i + 1, some ⟨g3, 0, none⟩, c3, by go_num, by rw [HE.out, List.length_append]; rfl, by omega, by omega, by rw [HE.out, List.length_append]; exact HS3.out⟩
    · have hltz : ¬ (i : Int) < (d.length : Int) := by omega
      have hti : d.take i = d := List.take_of_length_le (by omega)
      rw [hti] at HI ⊢
      have HE := hid (HEND.out wr _ HI.out)
      have HSM := hid HQ.out.some
      clear HI
      go_wp2_with fail
      go_ret
      exact ⟨ret_bool HSM.out.symm, HE.out⟩

end Go.Proofs.YtjehjjpdicimhaaGreat

/-
  The contract of the reference's Less.
-/
namespace Go.Proofs.YtjehjjpdicimhaaGreat.Z
open Go.RowKit

theorem less_eq (a b c d : ByteArray) : (Op.bytesLess a.toList c.toList || (a.toList == c.toList && Op.bytesLess b.toList d.toList)) = decide (cmpI a b c d < 0) := by
  rw [Lib.toList_data, Lib.toList_data, Lib.toList_data, Lib.toList_data]
  exact (cmpL_less _ _ _ _).symm

set_option maxHeartbeats 400000 in
theorem zless_any (a b c d : ByteArray) (w : World) :
    Calls Tryz.prog 59 #[.agg #[.string a, .string b], .agg #[.string c, .string d]] w fun e w' => e = .returned (.bool (decide (cmpI a b c d < 0))) ∧ Below w.heap.size w w' := by
  have HE : Hid ((Op.bytesLess a.toList c.toList || (a.toList == c.toList && Op.bytesLess b.toList d.toList)) = decide (cmpI a b c d < 0)) := less_eq a b c d
  have hb : Below w.heap.size w ((w.alloc (.cells #[.string a, .string b] 31)).alloc (.cells #[.string c, .string d] 31)) := ((Below.refl _ _).alloc (Nat.le_refl _) _).alloc (by simp) _
  have HB := hid hb
  clear hb
  cases h1 : Op.bytesLess a.toList c.toList
  · cases h2 : (a.toList == c.toList)
    · go_enter Tryz.func59, Tryz.ntmps59
      go_wp2
      go_ret
      exact ⟨ret_bool (by rw [← HE.out, h1, h2]; rfl), HB.out⟩
    · go_enter Tryz.func59, Tryz.ntmps59
      go_wp2
      go_ret
      exact ⟨ret_bool (by rw [← HE.out, h1, h2]; rfl), HB.out⟩
  · go_enter Tryz.func59, Tryz.ntmps59
    go_wp2
    go_ret
    exact ⟨ret_bool (by rw [← HE.out, h1]; rfl), HB.out⟩

end Go.Proofs.YtjehjjpdicimhaaGreat.Z

/-
  The reference's set of writes (stage 11): lay.
-/
namespace Go.Proofs.YtjehjjpdicimhaaGreat
open Go.RowKit

theorem less_key (a b c d : ByteArray) : decide (Z.cmpI a b c d < 0) = ltKy (a, b) (c, d) := by
  rw [← Z.less_eq, Bool.eq_iff_iff, ltKy_true]
  simp only [Bool.or_eq_true, Bool.and_eq_true]
  have h1 : ∀ x y : ByteArray, Op.bytesLess x.toList y.toList = ltB x y := fun x y => by
    cases h : ltB x y <;> exact sless_of h
  rw [h1, h1]
  constructor
  · rintro (h | ⟨h, h'⟩)
    · exact Or.inl h
    · refine Or.inr ⟨?_, h'⟩
      by_cases e : a = c
      · exact e
      · rw [seq_false e] at h; cases h
  · rintro (h | ⟨h, h'⟩)
    · exact Or.inl h
    · exact Or.inr ⟨seq_true h, h'⟩

theorem lessW_any (a b c d : ByteArray) (w : World) : Calls Tryz.prog 59 #[.agg #[.string a, .string b], .agg #[.string c, .string d]] w fun e w' => e = .returned (.bool (ltKy (a, b) (c, d))) ∧ Below w.heap.size w w' := by
  rw [← less_key]
  exact Z.zless_any a b c d w

/-- A write on its way into its place: i of the others are done. -/
def LayI (x : Wx) (d : List Wx) (i : Nat) (done : Bool) (l : List Wx) : Prop :=
  (done = false ∧ l = d.take i ∧ ∀ j, (h : j < d.length) → j < i → ltKy x.key (d[j]).key = false) ∨
  (done = true ∧ ∃ m, m < i ∧ l = d.take m ++ x :: (d.take i).drop m ∧ (∀ j, (h : j < d.length) → j < m → ltKy x.key (d[j]).key = false) ∧ ∃ h : m < d.length, ltKy x.key (d[m]).key = true)

theorem layI_nil (x : Wx) (d : List Wx) : LayI x d 0 false [] := Or.inl ⟨rfl, by simp, fun j _ h => by omega⟩
theorem LayI.len {x : Wx} {d : List Wx} {i : Nat} {done : Bool} {l : List Wx} (h : LayI x d i done l) : l.length ≤ d.length + 1 := by
  rcases h with ⟨_, rfl, _⟩ | ⟨_, m, hm, rfl, _, h2, _⟩
  · rw [List.length_take]; omega
  · rw [List.length_append, List.length_cons, List.length_drop, List.length_take, List.length_take]
    omega

theorem LayI.pass {x : Wx} {d : List Wx} {i : Nat} {l : List Wx} (hi : i < d.length) (h : LayI x d i false l) (hx : ltKy x.key (d[i]).key = false) : LayI x d (i + 1) false (l ++ [d[i]]) := by
  rcases h with ⟨_, rfl, h⟩ | ⟨h, _⟩
  · refine Or.inl ⟨rfl, (List.take_succ_eq_append_getElem hi).symm, fun j hj hji => ?_⟩
    by_cases e : j = i
    · subst e; exact hx
    · exact h j hj (by omega)
  · cases h
theorem LayI.stop {x : Wx} {d : List Wx} {i : Nat} {l : List Wx} (hi : i < d.length) (h : LayI x d i false l) (hx : ltKy x.key (d[i]).key = true) : LayI x d (i + 1) true (l ++ [x] ++ [d[i]]) := by
  rcases h with ⟨_, rfl, h⟩ | ⟨h, _⟩
  · refine Or.inr ⟨rfl, i, by omega, ?_, h, hi, hx⟩
    rw [List.take_succ_eq_append_getElem hi, List.drop_append_of_le_length (by rw [List.length_take]; omega), List.drop_of_length_le (by rw [List.length_take]; omega)]
    simp
  · cases h
theorem LayI.past {x : Wx} {d : List Wx} {i : Nat} {l : List Wx} (hi : i < d.length) (h : LayI x d i true l) : LayI x d (i + 1) true (l ++ [d[i]]) := by
  rcases h with ⟨h, _⟩ | ⟨_, m, hm, rfl, h1, h2⟩
  · cases h
  · refine Or.inr ⟨rfl, m, by omega, ?_, h1, h2⟩
    rw [List.take_succ_eq_append_getElem hi, List.drop_append_of_le_length (by rw [List.length_take]; omega)]
    simp

theorem LayI.row {x : Wx} {d : List Wx} {done : Bool} {l : List Wx} (h : LayI x d d.length done l) : (if done = true then l else l ++ [x]).map Wx.row = insP x.row (d.map Wx.row) ∧ ∀ y ∈ (if done = true then l else l ++ [x]), y = x ∨ y ∈ d := by
  rcases h with ⟨rfl, rfl, h⟩ | ⟨rfl, m, hm, rfl, h1, h2, h3⟩
  · simp only [List.take_length, Bool.false_eq_true, if_false]
    refine ⟨?_, fun y hy => by simpa [or_comm] using hy⟩
    rw [insP_at x.row (d.map Wx.row) d.length (by simp) (fun j _ hj => by
      rw [List.getElem_map]
      exact h j (by simpa using hj) (by simpa using hj)) (fun hh => by simp at hh)]
    simp [List.take_of_length_le, List.drop_of_length_le]
  · simp only [List.take_length, if_true]
    refine ⟨?_, fun y hy => ?_⟩
    · rw [insP_at x.row (d.map Wx.row) m (by simp; omega) (fun j hj hj' => by
        rw [List.getElem_map]
        exact h1 j (by simpa using hj') hj) (fun hh => by rw [List.getElem_map]; exact h3)]
      simp
    · rcases List.mem_append.1 hy with hy | hy
      · exact Or.inr (List.mem_of_mem_take hy)
      · rcases List.mem_cons.1 hy with hy | hy
        · exact Or.inl hy
        · exact Or.inr (List.mem_of_mem_drop hy)

set_option maxHeartbeats 8000000 in
set_option maxRecDepth 100000 in
theorem layW_any {n0 : Nat} {W : World} {g : Nat} {d : List Wx} {vs : Value} (hR : RefW n0 W g d vs) (hn : n0 ≤ W.heap.size) (hl : d.length < 2000000000000) (x : Wx) (hx : OwnJ n0 W x.sl x.o) (hxg : ¬ BlkX x.sl x.o g) (hxb : x.live = false → x.o = []) (hxk : keyB x.a x.b = true) (hxm : x.live = true → mayB (x.o.map Fx.fld) = true) :
    Calls Tryz.prog 36 #[.pointer (some ⟨g, 0, none⟩), .agg (encWx x).toArray] W fun e w' => e = .returned (.tuple #[]) ∧ ∃ d' vs', RefW n0 w' g d' vs' ∧ d'.map Wx.row = layW (d.map Wx.row) x.key x.row.2 ∧ Fr (fun k => k = g) W w' ∧ ∀ k, BlkW g d' vs' k → BlkW g d vs k ∨ BlkX x.sl x.o k ∨ W.heap.size ≤ k := by
  obtain ⟨i0, hi0, hz0, hz1, hz2⟩ := info_parts Tryz.infoWx
  have HI0 := hid hi0
  obtain ⟨N, hN⟩ : ∃ N, W.heap.size = N := ⟨_, rfl⟩
  obtain ⟨V, hV⟩ : ∃ V, W.alloc (.cells (encWx x).toArray 76) = V := ⟨_, rfl⟩
  have hbV : Below W.heap.size W V := by rw [← hV]; exact (Below.refl _ _).alloc (Nat.le_refl _) _
  have hsV : V.heap.size = N + 1 := by rw [← hV, ← hN]; simp
  have hRV := hR.on hbV
  have hxV := hx.on hbV
  have HFG := hid (forgetW_any hRV (by omega) (by omega) x.key)
  have hobj : V.heap[N]? = some (.cells (encWx x).toArray 76 (0, 0)) := by rw [← hV, ← hN]; exact heap_alloc_new W _
  have HBOX : Hid (∀ w : World, w.heap[N]? = V.heap[N]? → w.cell? ⟨N, 0, none⟩ = some (.string x.a) ∧ w.cell? ⟨N, 1, none⟩ = some (.string x.b) ∧ w.cell? ⟨N, 2, none⟩ = some (.bool x.live) ∧ w.cell? ⟨N, 3, none⟩ = some x.sl) := fun w he => by
    have := he.trans hobj
    exact ⟨by rw [Lib.cell_of_heap this]; rfl, by rw [Lib.cell_of_heap this]; rfl, by rw [Lib.cell_of_heap this]; rfl, by rw [Lib.cell_of_heap this]; rfl⟩
  have hRE := hid hR
  have HXV := hid hxV
  have HBV := hid hbV
  have hgV : g < N := by rw [← hN]; exact hR.lt
  obtain ⟨b0, b1, b2, b3⟩ := HBOX.out V rfl
  -- what is left to be shown once the row is laid
  have HEND : Hid (∀ (w1 : World) (d1 : List Wx) (vs1 : Value) (w : World) (v' : Value) (l : List Wx), RefW n0 w1 g d1 vs1 → d1.map Wx.row = delW (d.map Wx.row) x.key → Fr (fun k => k = g) V w1 → (∀ k, BlkW g d1 vs1 k → BlkW g d vs k ∨ V.heap.size ≤ k) → RowSt KWx w1.heap.size w1 v' l w → l.map Wx.row = insP x.row (d1.map Wx.row) → (∀ y ∈ l, y = x ∨ y ∈ d1) →
      ∃ d' vs', RefW n0 (w.setCell ⟨g, 0, none⟩ v') g d' vs' ∧ d'.map Wx.row = layW (d.map Wx.row) x.key x.row.2 ∧ Fr (fun k => k = g) W (w.setCell ⟨g, 0, none⟩ v') ∧ ∀ k, BlkW g d' vs' k → BlkW g d vs k ∨ BlkX x.sl x.o k ∨ W.heap.size ≤ k) := fun w1 d1 vs1 w v' l h1 h2 h3 h4 hs hrow hmem => by
    have hx1 : OwnJ n0 w1 x.sl x.o := ownJ_fr hxV h3 fun k hk e => hxg (e ▸ hk)
    have hx2 : OwnJ n0 w x.sl x.o := hx1.on hs.bel
    have hRw := h1.on hs.bel
    have hn1 : n0 ≤ w1.heap.size := by have := h3.size; omega
    have hk0 : ∀ {A : List RowW}, OkW A → OkW (layW A x.key x.row.2) := fun {A} hA => okW_lay hA x.key _ hxk fun v hv => by
      cases hlv : x.live with
      | false => simp only [Wx.row, hlv] at hv; cases hv
      | true =>
        simp only [Wx.row, hlv, if_true] at hv
        injection hv with hv
        rw [← hv]
        exact hxm hlv
    have hlay : l.map Wx.row = layW (d.map Wx.row) x.key x.row.2 := by
      rw [hrow, h2]
      rfl
    obtain ⟨t1, t2, t3⟩ := h1.laid rfl hn1 hs.bel hs.own (fun y hy => by
      rcases hmem y hy with rfl | hy
      · exact ⟨hx2, hxb, hxg⟩
      · exact ⟨hRw.each y hy, h1.bare y hy, hRw.offX (hRw.each y hy)⟩) (by rw [hlay]; exact hk0 hR.ok)
    have hsz := h3.size
    refine ⟨l, v', t1, hlay, Fr.then (Fr.of_below hbV) (Fr.then h3 t2 fun k hk => Or.inl hk) fun k hk => Or.inl hk, fun j hj => ?_⟩
    rcases t3 j hj with rfl | h | ⟨y, hy, hk⟩
    · exact Or.inl (Or.inl rfl)
    · exact Or.inr (Or.inr (by omega))
    · rcases hmem y hy with rfl | hy
      · exact Or.inr (Or.inl hk)
      · rcases h4 j (Or.inr (Or.inr ⟨y, hy, hk⟩)) with h | h
        · exact Or.inl h
        · exact Or.inr (Or.inr (by omega))
  have HRW : Hid (∀ w1 d1 vs1, RefW n0 w1 g d1 vs1 → ∀ w, Below w1.heap.size w1 w → KWx.Is w vs1 d1 ∧ w.cell? ⟨g, 0, none⟩ = some vs1 ∧ w.frozen? ⟨g, 0, none⟩ = false) := fun w1 d1 vs1 h w hw => ⟨Kind.own_is (h.on hw).row, (h.on hw).cell, (h.on hw).free⟩
  obtain ⟨xa, xb, xl, xp, xc, xo⟩ := x
  simp only [encWx, Wx.sl, Wx.key] at *
  clear hR hx hxg hxb hxk hxm hi0 hRV hxV hbV hobj
  go_enter Tryz.func36, Tryz.ntmps36
  go_wp2_with fail
  try rw [hV]
  refine HFG.out.mono ?_
  rintro e w1 ⟨rfl, d1, vs1, hR1, hrow1, hf1, hbk1⟩
  obtain ⟨p1, c1, rfl⟩ := Kind.own_shape hR1.row
  have hl1 : d1.length ≤ d.length := by
    have := congrArg List.length hrow1
    rw [List.length_map] at this
    rw [this]
    exact Nat.le_trans (delW_len _ _) (by simp)
  have hs1 := hf1.size
  have hbx1 : w1.heap[N]? = V.heap[N]? := hf1.block N (by omega) (by omega)
  obtain ⟨b0, b1, b2, b3⟩ := HBOX.out w1 hbx1
  have HEND1 := hid (fun w v' l => HEND.out w1 d1 _ w v' l hR1 hrow1 hf1 hbk1)
  have HRW1 := hid (HRW.out w1 d1 _ hR1)
  have HBOX1 : Hid (∀ w, Below w1.heap.size w1 w → w.cell? ⟨N, 0, none⟩ = some (.string xa) ∧ w.cell? ⟨N, 1, none⟩ = some (.string xb) ∧ w.cell? ⟨N, 2, none⟩ = some (.bool xl) ∧ w.cell? ⟨N, 3, none⟩ = some (.slice xp xo.length xc)) := fun w hw => HBOX.out w ((hw.block N (by omega)).trans hbx1)
  have HST0 : Hid (RowSt KWx w1.heap.size w1 (.slice none 0 0) [] w1) := RowSt.nil KWx (Below.refl _ _) (Nat.le_refl _)
  clear HEND HRW HBOX HFG hR1 hrow1 hf1 hbk1 hbx1 HXV HBV hRE
  obtain ⟨_, k1, z1⟩ := HRW1.out w1 (Below.refl _ _)
  go_wp2_with fail
  go_loopg [4, 5, 6] d1.length (fun gg v4 v5 vi wr => ∃ (i : Nat) (p' : Option Addr) (c' : Nat) (l : List Wx) (dn : Bool), vi = .int .i64 i ∧ v5 = .bool dn ∧ v4 = .slice p' l.length c' ∧ i ≤ d1.length ∧ d1.length - i ≤ gg ∧ Hid (LayI ⟨xa, xb, xl, xp, xc, xo⟩ d1 i dn l) ∧ Hid (RowSt KWx w1.heap.size w1 (.slice p' l.length c') l wr))
  case atStart => exact ⟨0, none, 0, [], false, rfl, rfl, rfl, by omega, by omega, layI_nil _ _, HST0.out⟩
  case round =>
    clear HST0 k1 z1 b0 b1 b2 b3
    obtain ⟨i, p', c', l, dn, rfl, rfl, rfl, hi, hgk, HL, HS⟩ := hrel
    obtain ⟨_, k1, z1⟩ := HRW1.out wr HS.out.bel
    obtain ⟨b0, b1, b2, b3⟩ := HBOX1.out wr HS.out.bel
    have hll := HL.out.len
    by_cases hlt : i < d1.length
    · have hltz : (i : Int) < (d1.length : Int) := by omega
      have hiz : (0 : Int) ≤ i := by omega
      obtain ⟨bb, oo, rfl, kk⟩ : ∃ b off, p1 = some ⟨b, off, none⟩ ∧ KWx.At w1 b off d1 := by
        obtain ⟨p', c', he, h⟩ := (HRW1.out w1 (Below.refl _ _)).1
        injection he with e1 _ _
        subst e1
        rcases h with h | h
        · rw [h] at hlt; simp at hlt
        · exact h
      have HY : Hid (∀ w, Below w1.heap.size w1 w → w.cell? ⟨bb, oo + i * 4, none⟩ = some (.string (d1[i]).a) ∧ w.cell? ⟨bb, oo + i * 4 + 1, none⟩ = some (.string (d1[i]).b) ∧ w.cell? ⟨bb, oo + i * 4 + 2, none⟩ = some (.bool (d1[i]).live) ∧ w.cell? ⟨bb, oo + i * 4 + 3, none⟩ = some (d1[i]).sl) := fun w hw => kw_at (Kind.at_kept kk hw) i hlt
      have HPASS : Hid (dn = false → ltKy (xa, xb) (d1[i]).key = false → LayI ⟨xa, xb, xl, xp, xc, xo⟩ d1 (i + 1) false (l ++ [d1[i]])) := fun h1 h2 => (h1 ▸ HL.out).pass hlt h2
      have HSTOP : Hid (dn = false → ltKy (xa, xb) (d1[i]).key = true → LayI ⟨xa, xb, xl, xp, xc, xo⟩ d1 (i + 1) true (l ++ [⟨xa, xb, xl, xp, xc, xo⟩] ++ [d1[i]])) := fun h1 h2 => (h1 ▸ HL.out).stop hlt h2
      have HPAST : Hid (dn = true → LayI ⟨xa, xb, xl, xp, xc, xo⟩ d1 (i + 1) true (l ++ [d1[i]])) := fun h1 => (h1 ▸ HL.out).past hlt
      generalize d1[i] = y at *
      obtain ⟨ya, yb, yl, yp, yc, yo⟩ := y
      simp only [Wx.key, Wx.sl] at *
      obtain ⟨y0, y1, y2, y3⟩ := HY.out wr HS.out.bel
      have HB := hid HS.out.bel
      have hsw := HS.out.base
      have hsd : Below wr.heap.size wr wr.drew := bel_drewN (Below.refl _ _) 1
      have HSD := hid (HS.out.on hsd)
      clear kk hsd
      cases dn with
      | true =>
        have HNX := hid (HPAST.out rfl)
        clear HPASS HSTOP HPAST HL
        go_upto_region 7 with fail
        refine wp_region_held_drew (S := fun w' => w'.cell? ⟨g, 0, none⟩ = some (.slice (some ⟨bb, oo, none⟩) d1.length c1) ∧ w'.cell? ⟨N, 0, none⟩ = some (.string xa) ∧ w'.cell? ⟨N, 1, none⟩ = some (.string xb) ∧ w'.cell? ⟨bb, oo + i * 4, none⟩ = some (.string ya) ∧ w'.cell? ⟨bb, oo + i * 4 + 1, none⟩ = some (.string yb)) (by kernel_rfl) ⟨k1, b0, b1, y0, y1⟩ (fun hHeld => ?_)
        refine take_val (i := 0) (.bool true) rfl (by kernel_rfl) (by kernel_rfl) (by kernel_rfl) (fun _ _ _ h => h) (by rfl) (fun w hSw => by go_simp) hHeld ?_
        simp only [Act.put, List.setIfInBounds_toArray, List.set_cons_zero, List.set_cons_succ]
        refine take_val (i := 1) (.bool false) rfl (by kernel_rfl) (by kernel_rfl) (by kernel_rfl) (fun _ _ _ h => h) (by rfl) (fun w hSw => by go_simp) hHeld ?_
        simp only [Act.put, List.setIfInBounds_toArray, List.set_cons_zero, List.set_cons_succ]
        refine take_val (i := 2) (.bool false) rfl (by kernel_rfl) (by kernel_rfl) (by kernel_rfl) (fun _ _ _ h => h) (by rfl) (fun w hSw => by go_simp) hHeld ?_
        simp only [Act.put, List.setIfInBounds_toArray, List.set_cons_zero, List.set_cons_succ]
        refine take_not (i := 3) rfl (by kernel_rfl) (by kernel_rfl) (by kernel_rfl) (fun _ _ _ h => h) (by rfl) hHeld ?_
        simp only [Act.put, List.setIfInBounds_toArray, List.set_cons_zero, List.set_cons_succ]
        refine take_not (i := 4) rfl (by kernel_rfl) (by kernel_rfl) (by kernel_rfl) (fun _ _ _ h => h) (by rfl) hHeld ?_
        simp only [Act.put, List.setIfInBounds_toArray, List.set_cons_zero, List.set_cons_succ]
        refine take_not (i := 5) rfl (by kernel_rfl) (by kernel_rfl) (by kernel_rfl) (fun _ _ _ h => h) (by rfl) hHeld ?_
        simp only [Act.put, List.setIfInBounds_toArray, List.set_cons_zero, List.set_cons_succ]
        refine take_not (i := 6) rfl (by kernel_rfl) (by kernel_rfl) (by kernel_rfl) (fun _ _ _ h => h) (by rfl) hHeld ?_
        simp only [Act.put, List.setIfInBounds_toArray, List.set_cons_zero, List.set_cons_succ]
        refine take_not (i := 7) rfl (by kernel_rfl) (by kernel_rfl) (by kernel_rfl) (fun _ _ _ h => h) (by rfl) hHeld ?_
        simp only [Act.put, List.setIfInBounds_toArray, List.set_cons_zero, List.set_cons_succ]
        refine take_not (i := 8) rfl (by kernel_rfl) (by kernel_rfl) (by kernel_rfl) (fun _ _ _ h => h) (by rfl) hHeld ?_
        simp only [Act.put, List.setIfInBounds_toArray, List.set_cons_zero, List.set_cons_succ]
        refine take_not (i := 9) rfl (by kernel_rfl) (by kernel_rfl) (by kernel_rfl) (fun _ _ _ h => h) (by rfl) hHeld ?_
        simp only [Act.put, List.setIfInBounds_toArray, List.set_cons_zero, List.set_cons_succ]
        refine take_not (i := 10) rfl (by kernel_rfl) (by kernel_rfl) (by kernel_rfl) (fun _ _ _ h => h) (by rfl) hHeld ?_
        simp only [Act.put, List.setIfInBounds_toArray, List.set_cons_zero, List.set_cons_succ]
        refine take_not (i := 11) rfl (by kernel_rfl) (by kernel_rfl) (by kernel_rfl) (fun _ _ _ h => h) (by rfl) hHeld ?_
        simp only [Act.put, List.setIfInBounds_toArray, List.set_cons_zero, List.set_cons_succ]
        refine take_not (i := 12) rfl (by kernel_rfl) (by kernel_rfl) (by kernel_rfl) (fun _ _ _ h => h) (by rfl) hHeld ?_
        simp only [Act.put, List.setIfInBounds_toArray, List.set_cons_zero, List.set_cons_succ]
        refine take_not (i := 13) rfl (by kernel_rfl) (by kernel_rfl) (by kernel_rfl) (fun _ _ _ h => h) (by rfl) hHeld ?_
        simp only [Act.put, List.setIfInBounds_toArray, List.set_cons_zero, List.set_cons_succ]
        refine take_val (i := 14) (.bool false) rfl (by kernel_rfl) (by kernel_rfl) (by kernel_rfl) (fun _ _ _ h => h) (by rfl) (fun w hSw => by go_simp) hHeld ?_
        simp only [Act.put, List.setIfInBounds_toArray, List.set_cons_zero, List.set_cons_succ]
        refine wpAnyH_done (by kernel_rfl) ?_ _
        clear hHeld
        obtain ⟨Wd, hWd⟩ : ∃ Wd, wr.drew = Wd := ⟨_, rfl⟩
        rw [hWd] at HSD ⊢
        obtain ⟨_, k1, z1⟩ := HRW1.out Wd HSD.out.bel
        obtain ⟨b0, b1, b2, b3⟩ := HBOX1.out Wd HSD.out.bel
        obtain ⟨y0, y1, y2, y3⟩ := HY.out Wd HSD.out.bel
        clear hWd
        have hltd : True := trivial
        obtain ⟨W4, hW4⟩ : ∃ W4, Wd.alloc (.cells #[.string ya, .string yb, .bool yl, .slice yp yo.length yc] 76) = W4 := ⟨_, rfl⟩
        have hb4 : Below Wd.heap.size Wd W4 := by rw [← hW4]; exact (Below.refl _ _).alloc (Nat.le_refl _) _
        have HN4 : Hid (W4.heap[Wd.heap.size]? = some (.cells #[.string ya, .string yb, .bool yl, .slice yp yo.length yc] 76 (0, 0))) := by rw [← hW4]; exact heap_alloc_new _ _
        have HO4 := hid (HSD.out.on hb4)
        clear hb4
        go_wp2_with (at_builtin; refine wpList_push KWx rfl _ _ 27 rfl i0 _ 64 Tryz.underlying27 HI0.out hz0 hz1 hz2 rfl w1.heap.size w1 _ l rfl HO4.out ⟨ya, yb, yl, yp, yc, yo⟩ _ _ _ rfl rfl _ _ HN4.out (by unfold maxLen; omega) (by omega) ?_; intro g5 c5 w5 hst5 _ _; have HS5 := hid hst5; clear hst5)
        go_roundg (d1.length - (i + 1))
        case measure => omega
        exact ⟨i + 1, some ⟨g5, 0, none⟩, c5, _, _, by go_num, rfl, by rw [List.length_append]; rfl, by omega, by omega, HNX.out, by rw [List.length_append]; exact HS5.out⟩
      | false =>
        have HCALL := hid (lessW_any xa xb ya yb wr.drew)
        go_upto_region 7 with fail
        refine wp_region_held_drew (S := fun w' => w'.cell? ⟨g, 0, none⟩ = some (.slice (some ⟨bb, oo, none⟩) d1.length c1) ∧ w'.cell? ⟨N, 0, none⟩ = some (.string xa) ∧ w'.cell? ⟨N, 1, none⟩ = some (.string xb) ∧ w'.cell? ⟨bb, oo + i * 4, none⟩ = some (.string ya) ∧ w'.cell? ⟨bb, oo + i * 4 + 1, none⟩ = some (.string yb)) (by kernel_rfl) ⟨k1, b0, b1, y0, y1⟩ (fun hHeld => ?_)
        refine take_val (i := 0) (.bool false) rfl (by kernel_rfl) (by kernel_rfl) (by kernel_rfl) (fun _ _ _ h => h) (by rfl) (fun w hSw => by go_simp) hHeld ?_
        simp only [Act.put, List.setIfInBounds_toArray, List.set_cons_zero, List.set_cons_succ]
        refine take_val (i := 1) (.bool true) rfl (by kernel_rfl) (by kernel_rfl) (by kernel_rfl) (fun _ _ _ h => h) (by rfl) (fun w hSw => by go_simp) hHeld ?_
        simp only [Act.put, List.setIfInBounds_toArray, List.set_cons_zero, List.set_cons_succ]
        refine take_val (i := 2) (.bool true) rfl (by kernel_rfl) (by kernel_rfl) (by kernel_rfl) (fun _ _ _ h => h) (by rfl) (fun w hSw => by go_simp) hHeld ?_
        simp only [Act.put, List.setIfInBounds_toArray, List.set_cons_zero, List.set_cons_succ]
        refine take_val (i := 3) (.pointer (some ⟨N, 0, none⟩)) rfl (by kernel_rfl) (by kernel_rfl) (by kernel_rfl) (fun _ _ _ h => h) (by rfl) (fun w hSw => by go_simp) hHeld ?_
        simp only [Act.put, List.setIfInBounds_toArray, List.set_cons_zero, List.set_cons_succ]
        refine take_val (i := 4) (.agg #[.string xa, .string xb]) rfl (by kernel_rfl) (by kernel_rfl) (by kernel_rfl) (fun _ _ _ h => h) (by rfl) (fun w hSw => by go_simp) hHeld ?_
        simp only [Act.put, List.setIfInBounds_toArray, List.set_cons_zero, List.set_cons_succ]
        refine take_val (i := 5) (.pointer (some ⟨g, 0, none⟩)) rfl (by kernel_rfl) (by kernel_rfl) (by kernel_rfl) (fun _ _ _ h => h) (by rfl) (fun w hSw => by go_simp) hHeld ?_
        simp only [Act.put, List.setIfInBounds_toArray, List.set_cons_zero, List.set_cons_succ]
        refine take_val (i := 6) (.pointer (some ⟨g, 0, none⟩)) rfl (by kernel_rfl) (by kernel_rfl) (by kernel_rfl) (fun _ _ _ h => h) (by rfl) (fun w hSw => by go_simp) hHeld ?_
        simp only [Act.put, List.setIfInBounds_toArray, List.set_cons_zero, List.set_cons_succ]
        refine take_val (i := 7) (.pointer (some ⟨g, 0, none⟩)) rfl (by kernel_rfl) (by kernel_rfl) (by kernel_rfl) (fun _ _ _ h => h) (by rfl) (fun w hSw => by go_simp) hHeld ?_
        simp only [Act.put, List.setIfInBounds_toArray, List.set_cons_zero, List.set_cons_succ]
        refine take_val (i := 8) (.slice (some ⟨bb, oo, none⟩) d1.length c1) rfl (by kernel_rfl) (by kernel_rfl) (by kernel_rfl) (fun _ _ _ h => h) (by rfl) (fun w hSw => by go_simp) hHeld ?_
        simp only [Act.put, List.setIfInBounds_toArray, List.set_cons_zero, List.set_cons_succ]
        refine take_val (i := 9) (.int .i64 i) rfl (by kernel_rfl) (by kernel_rfl) (by kernel_rfl) (fun _ _ _ h => h) (by rfl) (fun w hSw => by go_simp) hHeld ?_
        simp only [Act.put, List.setIfInBounds_toArray, List.set_cons_zero, List.set_cons_succ]
        refine take_val (i := 10) (.pointer (some ⟨bb, oo + i * 4, none⟩)) rfl (by kernel_rfl) (by kernel_rfl) (by kernel_rfl) (fun _ _ _ h => h) (by rfl) (fun w hSw => by go_simp) hHeld ?_
        simp only [Act.put, List.setIfInBounds_toArray, List.set_cons_zero, List.set_cons_succ]
        refine take_val (i := 11) (.pointer (some ⟨bb, oo + i * 4, none⟩)) rfl (by kernel_rfl) (by kernel_rfl) (by kernel_rfl) (fun _ _ _ h => h) (by rfl) (fun w hSw => by go_simp) hHeld ?_
        simp only [Act.put, List.setIfInBounds_toArray, List.set_cons_zero, List.set_cons_succ]
        refine take_val (i := 12) (.agg #[.string ya, .string yb]) rfl (by kernel_rfl) (by kernel_rfl) (by kernel_rfl) (fun _ _ _ h => h) (by rfl) (fun w hSw => by go_simp) hHeld ?_
        simp only [Act.put, List.setIfInBounds_toArray, List.set_cons_zero, List.set_cons_succ]
        refine wpAnyH_ready (rs := [13]) (by kernel_rfl) (by simp) ?_
        refine AllReadyH.cons (at_drop0 rfl) (fun K hK => ?_) AllReadyH.nil
        rw [if_pos (by rfl)]
        go_simp
        refine HCALL.out.mono ?_
        rintro e w2 ⟨rfl, hq2⟩
        have HS2 := hid (HSD.out.on hq2)
        obtain ⟨_, k1, z1⟩ := HRW1.out w2 HS2.out.bel
        obtain ⟨b0, b1, b2, b3⟩ := HBOX1.out w2 HS2.out.bel
        obtain ⟨y0, y1, y2, y3⟩ := HY.out w2 HS2.out.bel
        clear hq2 hHeld HCALL HSD HB hsw
        cases hlk : ltKy (xa, xb) (ya, yb) with
        | true =>
          have HNX := hid (HSTOP.out rfl hlk)
          clear HPASS HSTOP HPAST HL hlk
          go_wp2_with fail
          refine hK.out _ _ (⟨k1, b0, b1, y0, y1⟩) (fun hHeld => ?_)
          clear hK K
          try simp only [Act.put, List.setIfInBounds_toArray, List.set_cons_zero, List.set_cons_succ]
          refine take_val (i := 14) (.bool true) rfl (by kernel_rfl) (by kernel_rfl) (by kernel_rfl) (fun _ _ _ h => h) (by rfl) (fun w hSw => by go_simp) hHeld ?_
          simp only [Act.put, List.setIfInBounds_toArray, List.set_cons_zero, List.set_cons_succ]
          refine wpAnyH_done (by kernel_rfl) ?_ _
          clear hHeld
          obtain ⟨W3, hW3⟩ : ∃ W3, w2.alloc (.cells #[.string xa, .string xb, .bool xl, .slice xp xo.length xc] 76) = W3 := ⟨_, rfl⟩
          have hb3 : Below w2.heap.size w2 W3 := by rw [← hW3]; exact (Below.refl _ _).alloc (Nat.le_refl _) _
          have HN3 : Hid (W3.heap[w2.heap.size]? = some (.cells #[.string xa, .string xb, .bool xl, .slice xp xo.length xc] 76 (0, 0))) := by rw [← hW3]; exact heap_alloc_new _ _
          have HO3 := hid (HS2.out.on hb3)
          clear hb3
          go_upto_region 10 with (at_builtin; refine wpList_push KWx rfl _ _ 27 rfl i0 _ 64 Tryz.underlying27 HI0.out hz0 hz1 hz2 rfl w1.heap.size w1 _ l rfl HO3.out ⟨xa, xb, xl, xp, xc, xo⟩ _ _ _ rfl rfl _ _ HN3.out (by unfold maxLen; omega) (by omega) ?_; intro g4 c4 w4 hst4 _ _; have HS4 := hid hst4; clear hst4; have d3 := HRW1.out w4 HS4.out.bel; have k1 := d3.2.1; have hy4 := HY.out w4 HS4.out.bel; have y0 := hy4.1; have y1 := hy4.2.1; have y2 := hy4.2.2.1; have y3 := hy4.2.2.2; clear hy4 d3)
          obtain ⟨W5, hW5⟩ : ∃ W5, w4.alloc (.cells #[.string ya, .string yb, .bool yl, .slice yp yo.length yc] 76) = W5 := ⟨_, rfl⟩
          have hb5 : Below w4.heap.size w4 W5 := by rw [← hW5]; exact (Below.refl _ _).alloc (Nat.le_refl _) _
          have HN5 : Hid (W5.heap[w4.heap.size]? = some (.cells #[.string ya, .string yb, .bool yl, .slice yp yo.length yc] 76 (0, 0))) := by rw [← hW5]; exact heap_alloc_new _ _
          have HO5 : Hid (RowSt KWx w1.heap.size w1 (.slice (some ⟨g4, 0, none⟩) (l.length + 1) c4) (l ++ [⟨xa, xb, xl, xp, xc, xo⟩]) W5) := HS4.out.on hb5
          obtain ⟨l2, hl2⟩ : ∃ l2, l ++ [⟨xa, xb, xl, xp, xc, xo⟩] = l2 := ⟨_, rfl⟩
          have hll2 : l2.length = l.length + 1 := by rw [← hl2]; simp
          rw [hl2] at HO5 HNX
          clear hb5 hl2
          try rw [hW5]
          go_wp2_with (at_builtin; refine wpList_push KWx rfl _ _ 27 rfl i0 _ 64 Tryz.underlying27 HI0.out hz0 hz1 hz2 rfl w1.heap.size w1 _ l2 rfl HO5.out ⟨ya, yb, yl, yp, yc, yo⟩ _ _ _ rfl rfl _ _ HN5.out (by unfold maxLen; omega) (by omega) ?_; intro g6 c6 w6 hst6 _ _; have HS6 := hid hst6; clear hst6)
          go_roundg (d1.length - (i + 1))
          case measure => omega
          exact ⟨i + 1, some ⟨g6, 0, none⟩, c6, _, _, by go_num, rfl, by rw [List.length_append, hll2]; rfl, by omega, by omega, HNX.out, by rw [List.length_append]; exact HS6.out⟩
        | false =>
          have HNX := hid (HPASS.out rfl hlk)
          clear HPASS HSTOP HPAST HL hlk
          go_wp2_with fail
          refine hK.out _ _ (⟨k1, b0, b1, y0, y1⟩) (fun hHeld => ?_)
          clear hK K
          try simp only [Act.put, List.setIfInBounds_toArray, List.set_cons_zero, List.set_cons_succ]
          refine take_val (i := 14) (.bool false) rfl (by kernel_rfl) (by kernel_rfl) (by kernel_rfl) (fun _ _ _ h => h) (by rfl) (fun w hSw => by go_simp) hHeld ?_
          simp only [Act.put, List.setIfInBounds_toArray, List.set_cons_zero, List.set_cons_succ]
          refine wpAnyH_done (by kernel_rfl) ?_ _
          clear hHeld
          obtain ⟨W4, hW4⟩ : ∃ W4, w2.alloc (.cells #[.string ya, .string yb, .bool yl, .slice yp yo.length yc] 76) = W4 := ⟨_, rfl⟩
          have hb4 : Below w2.heap.size w2 W4 := by rw [← hW4]; exact (Below.refl _ _).alloc (Nat.le_refl _) _
          have HN4 : Hid (W4.heap[w2.heap.size]? = some (.cells #[.string ya, .string yb, .bool yl, .slice yp yo.length yc] 76 (0, 0))) := by rw [← hW4]; exact heap_alloc_new _ _
          have HO4 := hid (HS2.out.on hb4)
          clear hb4
          go_wp2_with (at_builtin; refine wpList_push KWx rfl _ _ 27 rfl i0 _ 64 Tryz.underlying27 HI0.out hz0 hz1 hz2 rfl w1.heap.size w1 _ l rfl HO4.out ⟨ya, yb, yl, yp, yc, yo⟩ _ _ _ rfl rfl _ _ HN4.out (by unfold maxLen; omega) (by omega) ?_; intro g5 c5 w5 hst5 _ _; have HS5 := hid hst5; clear hst5)
          go_roundg (d1.length - (i + 1))
          case measure => omega
          exact ⟨i + 1, some ⟨g5, 0, none⟩, c5, _, _, by go_num, rfl, by rw [List.length_append]; rfl, by omega, by omega, HNX.out, by rw [List.length_append]; exact HS5.out⟩
    · have hltz : ¬ (i : Int) < (d1.length : Int) := by omega
      have hil : i = d1.length := by omega
      subst hil
      have HROW := hid HL.out.row
      cases dn with
      | true =>
        have HE := hid (HEND1.out wr _ l HS.out HROW.out.1 HROW.out.2)
        clear HEND1 HROW HL HS
        go_wp2_with fail
        refine bodyPost_end (results_none rfl _ _ _) rfl ?_
        exact ⟨rfl, by rw [← hN]; exact HE.out⟩
      | false =>
        obtain ⟨W3, hW3⟩ : ∃ W3, wr.alloc (.cells #[.string xa, .string xb, .bool xl, .slice xp xo.length xc] 76) = W3 := ⟨_, rfl⟩
        have hb3 : Below wr.heap.size wr W3 := by rw [← hW3]; exact (Below.refl _ _).alloc (Nat.le_refl _) _
        have HN3 : Hid (W3.heap[wr.heap.size]? = some (.cells #[.string xa, .string xb, .bool xl, .slice xp xo.length xc] 76 (0, 0))) := by rw [← hW3]; exact heap_alloc_new _ _
        have HO3 := hid (HS.out.on hb3)
        clear hb3 HL
        go_wp2_with (at_builtin; refine wpList_push KWx rfl _ _ 27 rfl i0 _ 64 Tryz.underlying27 HI0.out hz0 hz1 hz2 rfl w1.heap.size w1 _ l rfl HO3.out ⟨xa, xb, xl, xp, xc, xo⟩ _ _ _ rfl rfl _ _ HN3.out (by unfold maxLen; omega) (by omega) ?_; intro g4 c4 w4 hst4 _ _; have HS4 := hid hst4; clear hst4; have d3 := HRW1.out w4 HS4.out.bel; have k1 := d3.2.1; have z1 := d3.2.2; clear d3)
        refine bodyPost_end (results_none rfl _ _ _) rfl ?_
        exact ⟨rfl, by rw [← hN]; exact HEND1.out w4 _ _ HS4.out HROW.out.1 HROW.out.2⟩

end Go.Proofs.YtjehjjpdicimhaaGreat

/-
  One element of a row of one's own written over, whatever its kind. No program.
-/
namespace Go.Proofs.YtjehjjpdicimhaaGreat
open Go.RowKit

/-- Cells written one behind the other, from o + k on. -/
def setFrom (w : World) (g o : Nat) : Nat → List Value → World
  | _, [] => w
  | k, u :: r => setFrom (w.setCell ⟨g, o + k, none⟩ u) g o (k + 1) r

def setL (o : Nat) : Nat → List Value → List Value → List Value
  | _, [], xs => xs
  | k, u :: r, xs => setL o (k + 1) r (xs.set (o + k) u)

theorem setL_len (o : Nat) : ∀ (k : Nat) (us xs : List Value), (setL o k us xs).length = xs.length
  | _, [], _ => rfl
  | k, u :: r, xs => by
    unfold setL
    rw [setL_len o (k + 1) r, List.length_set]

theorem setL_get (o : Nat) : ∀ (k : Nat) (us xs : List Value) (j : Nat), o + k + us.length ≤ xs.length → (setL o k us xs)[j]? = if o + k ≤ j ∧ j < o + k + us.length then us[j - (o + k)]? else xs[j]?
  | k, [], xs, j, _ => by
    unfold setL
    rw [if_neg (by simp)]
  | k, u :: r, xs, j, h => by
    unfold setL
    rw [List.length_cons] at h
    rw [setL_get o (k + 1) r _ j (by rw [List.length_set]; omega), List.getElem?_set]
    by_cases h1 : j = o + k
    · subst h1
      rw [if_neg (by omega), if_pos rfl, if_pos (by omega), if_pos (by rw [List.length_cons]; omega)]
      simp
    · by_cases h2 : o + k ≤ j ∧ j < o + k + (u :: r).length
      · rw [if_pos (by rw [List.length_cons] at h2; omega), if_pos h2]
        have : j - (o + k) = (j - (o + (k + 1))) + 1 := by omega
        rw [this, List.getElem?_cons_succ]
      · rw [if_neg (by rw [List.length_cons] at h2; omega), if_neg h2, if_neg (fun e => h1 e.symm)]

theorem Kind.cells_setL {α : Type} (K : Kind α) (d : List α) (i : Nat) (h : i < d.length) (x : α) : K.cells (d.set i x) = setL (i * K.k) 0 (K.enc x) (K.cells d) := by
  apply List.ext_getElem?
  intro j
  have h1 : (i + 1) * K.k ≤ d.length * K.k := Nat.mul_le_mul_right _ h
  rw [Nat.add_mul, Nat.one_mul] at h1
  rw [K.cells_set d i h x j, setL_get _ _ _ _ _ (by rw [K.len, K.cells_len]; omega), K.len, Nat.add_zero]

theorem ownsRow_setFrom {N : Nat} {e : TypeId} {size g n cap o : Nat} : ∀ (k : Nat) (us xs : List Value) (w : World), w.ownsRow N e size (.slice (some ⟨g, 0, none⟩) n cap) n xs → (setFrom w g o k us).ownsRow N e size (.slice (some ⟨g, 0, none⟩) n cap) n (setL o k us xs)
  | _, [], _, _, h => h
  | k, u :: r, xs, w, h => by
    unfold setFrom setL
    exact ownsRow_setFrom (k + 1) r _ _ (World.ownsRow.stored h (o + k) u).1

theorem below_setFrom {N g o : Nat} {W : World} (hg : N ≤ g) : ∀ (k : Nat) (us : List Value) (w : World), Below N W w → Below N W (setFrom w g o k us)
  | _, [], _, h => h
  | k, u :: r, w, h => by
    unfold setFrom
    exact below_setFrom hg (k + 1) r _ (h.setCell hg _)
theorem size_setFrom {g o : Nat} : ∀ (k : Nat) (us : List Value) (w : World), (setFrom w g o k us).heap.size = w.heap.size
  | _, [], _ => rfl
  | k, u :: r, w => by
    unfold setFrom
    rw [size_setFrom (k + 1) r]
    simp
theorem block_setFrom {g o b : Nat} (hb : b ≠ g) : ∀ (k : Nat) (us : List Value) (w : World), (setFrom w g o k us).heap[b]? = w.heap[b]?
  | _, [], _ => rfl
  | k, u :: r, w => by
    unfold setFrom
    rw [block_setFrom hb (k + 1) r, heap_setCell_other w _ b _ hb]

theorem RowSt.put {α : Type} {K : Kind α} {N : Nat} {W : World} {g n cap : Nat} {l : List α} {w : World} (h : RowSt K N W (.slice (some ⟨g, 0, none⟩) n cap) l w) (i : Nat) (hi : i < l.length) (x : α) :
    RowSt K N W (.slice (some ⟨g, 0, none⟩) n cap) (l.set i x) (setFrom w g (i * K.k) 0 (K.enc x)) := by
  have hg : N ≤ g := (World.ownsRow.lt h.own g rfl).1
  obtain ⟨p', c', he⟩ := Kind.own_shape h.own
  injection he with _ hn _
  subst hn
  refine ⟨?_, below_setFrom hg 0 _ w h.bel, by rw [size_setFrom]; exact h.base⟩
  unfold Kind.Own
  rw [K.cells_setL l i hi x, List.length_set]
  exact ownsRow_setFrom 0 _ _ w h.own

end Go.Proofs.YtjehjjpdicimhaaGreat

/-
  Finds in memory (stage 7), and the reference's SameFound.
-/
namespace Go.Proofs.YtjehjjpdicimhaaGreat
open Go.RowKit

/-- A find as it lies in memory: its key, and its version. -/
structure Fd where
  a : ByteArray
  b : ByteArray
  v : Vx
  deriving Inhabited

/-- A find by what it says. -/
abbrev Fnd := (ByteArray × ByteArray) × Vr

def Fd.fnd (x : Fd) : Fnd := ((x.a, x.b), x.v.ver)
def encFd (x : Fd) : List Value := .string x.a :: .string x.b :: encVx x.v
def KFd : Kind Fd := ⟨53, 7, encFd, fun _ => rfl, by decide, fun x u hu => by simp [encFd, encVx, Vx.sl] at hu; rcases hu with rfl | rfl | rfl | rfl | rfl | rfl | rfl <;> rfl⟩

/-- The cells of a find, from o on in block b. -/
def CellsF (w : World) (b o : Nat) (x : Fd) : Prop := w.cell? ⟨b, o, none⟩ = some (.string x.a) ∧ w.cell? ⟨b, o + 1, none⟩ = some (.string x.b) ∧ CellsV w b (o + 2) x.v

theorem kfd_at {w : World} {b off : Nat} {d : List Fd} (h : KFd.At w b off d) (i : Nat) (hi : i < d.length) : CellsF w b (off + i * 7) d[i] :=
  ⟨h i hi 0 _ rfl, h i hi 1 _ rfl, h i hi 2 _ rfl, h i hi 3 _ rfl, h i hi 4 _ rfl, h i hi 5 _ rfl, h i hi 6 _ rfl⟩

set_option maxHeartbeats 2000000 in
set_option maxRecDepth 100000 in
theorem sameFd_any (v u : Value) (d e : List Fd) (w : World) (hv : KFd.Is w v d) (hu : KFd.Is w u e) (ha : ∀ x ∈ d, x.v.at w ∧ FitX x.v.o) (hb : ∀ x ∈ e, x.v.at w ∧ FitX x.v.o) (hl : d.length ≤ maxLen) :
    Calls Tryz.prog 21 #[v, u] w fun r w' => r = .returned (.bool (decide (d.map Fd.fnd = e.map Fd.fnd))) ∧ Below w.heap.size w w' := by
  obtain ⟨p, cap, rfl, hd⟩ := hv
  obtain ⟨q, cap', rfl, he⟩ := hu
  unfold maxLen at hl
  have HD := hid hd
  have HE := hid he
  have HA := hid ha
  have HB := hid hb
  obtain ⟨r, hr⟩ : ∃ r, decide (d.map Fd.fnd = e.map Fd.fnd) = r := ⟨_, rfl⟩
  rw [hr]
  have HR := hid hr
  clear hr hd he ha hb
  by_cases hle : d.length = e.length
  · have hbn : ((d.length : Int) != (e.length : Int)) = false := by simp [hle]
    have HL := hid hle
    clear hle
    go_enter Tryz.func21, Tryz.ntmps21
    go_wp2_with fail
    go_loopg [5] d.length (fun g vi wr => ∃ i : Nat, vi = .int .i64 i ∧ i ≤ d.length ∧ d.length - i ≤ g ∧ Hid (Below w.heap.size w wr) ∧ Hid (∀ j, j < i → (d.map Fd.fnd)[j]? = (e.map Fd.fnd)[j]?))
    case atStart => exact ⟨0, rfl, by omega, by omega, Below.refl _ _, fun j h => by omega⟩
    case round =>
      obtain ⟨i, rfl, hi, hgk, HW, HJ⟩ := hrel
      by_cases hlt : i < d.length
      · have hlt2 : i < e.length := by rw [← HL.out]; exact hlt
        have i1 : (0 : Int) ≤ ↑i := by omega
        have i2 : (↑i : Int) < ↑d.length := by omega
        have i3 : (↑i : Int) < ↑e.length := by omega
        obtain ⟨b1, o1, rfl, k1⟩ : ∃ b off, p = some ⟨b, off, none⟩ ∧ KFd.At w b off d := by
          rcases HD.out with h | h
          · rw [h] at hlt; simp at hlt
          · exact h
        obtain ⟨b2, o2, rfl, k2⟩ : ∃ b off, q = some ⟨b, off, none⟩ ∧ KFd.At w b off e := by
          rcases HE.out with h | h
          · rw [h] at hlt2; simp at hlt2
          · exact h
        have hc1 : ∀ W, Below w.heap.size w W → CellsF W b1 (o1 + i * 7) d[i] := fun W hW => kfd_at (Kind.at_kept k1 hW) i hlt
        have hc2 : ∀ W, Below w.heap.size w W → CellsF W b2 (o2 + i * 7) e[i] := fun W hW => kfd_at (Kind.at_kept k2 hW) i hlt2
        have g1 : (d.map Fd.fnd)[i]? = some (d[i]).fnd := by rw [List.getElem?_map, List.getElem?_eq_getElem hlt]; rfl
        have g2 : (e.map Fd.fnd)[i]? = some (e[i]).fnd := by rw [List.getElem?_map, List.getElem?_eq_getElem hlt2]; rfl
        have f1 := HA.out _ (List.getElem_mem hlt)
        have f2 := HB.out _ (List.getElem_mem hlt2)
        obtain ⟨x, hx⟩ : ∃ x, d[i] = x := ⟨_, rfl⟩
        obtain ⟨y, hy⟩ : ∃ y, e[i] = y := ⟨_, rfl⟩
        rw [hx] at hc1 g1 f1
        rw [hy] at hc2 g2 f2
        have HC : Hid (∀ W, Below w.heap.size w W → Calls Tryz.prog 45 #[.agg (encVx x.v).toArray, .agg (encVx y.v).toArray] W fun e w' => e = .returned (.bool (decide (x.v.ver = y.v.ver))) ∧ Below W.heap.size W w') := fun W hW => sameV_any x.v y.v W (f1.1.kept hW) (f2.1.kept hW) f1.2 f2.2
        have G1 := hid g1
        have G2 := hid g2
        have HS : Hid (∀ W, Below w.heap.size w W → CellsF W b1 (o1 + i * 7) x ∧ CellsF W b2 (o2 + i * 7) y) := fun W hW => ⟨hc1 W hW, hc2 W hW⟩
        have HWD : Hid (Below w.heap.size w wr.drew) := HW.out.drew
        have hne := fun W => Z.neq_key x.a x.b y.a y.b W
        have heq := Z.eqK_iff (x.a, x.b) (y.a, y.b)
        simp only at heq
        rw [heq] at hne
        obtain ⟨Q, hQ⟩ : ∃ Q, decide (x.v.ver = y.v.ver) = Q := ⟨_, rfl⟩
        have HQ := hid hQ
        rw [hQ] at HC
        have HXY : Hid (x.fnd = y.fnd ↔ (x.a, x.b) = (y.a, y.b) ∧ x.v.ver = y.v.ver) := by
          show _ ↔ _
          simp [Fd.fnd]
        clear hc1 hc2 k1 k2 g1 g2 f1 f2 hx hy hQ heq
        go_upto_region 6 with fail
        go_cut [41] from 15 to 41 (fun c wx => c = .bool (!decide (x.fnd = y.fnd)) ∧ Hid (Below w.heap.size w wx))
        case first =>
          by_cases hk : (x.a, x.b) = (y.a, y.b)
          · rw [decide_eq_true hk] at hne
            have HE1 : Hid (decide (x.fnd = y.fnd) = Q) := by
              show _ = _
              rw [← HQ.out, decide_eq_decide, HXY.out]
              exact ⟨fun h => h.2, fun h => ⟨hk, h⟩⟩
            obtain ⟨xa, xb, ⟨xn, xs, xt, xl, xp, xc, xo⟩⟩ := x
            obtain ⟨ya, yb, ⟨yn, ys, yt, yl, yp, yc, yo⟩⟩ := y
            simp only [CellsF, CellsV, Vx.sl, encVx] at HS HC
            clear hk HXY HQ G1 G2 HJ
            refine wp_region_held_drew (S := fun w' => (w'.cell? ⟨b1, o1 + i * 7, none⟩ = some (.string xa) ∧ w'.cell? ⟨b1, o1 + i * 7 + 1, none⟩ = some (.string xb) ∧ w'.cell? ⟨b1, o1 + i * 7 + 2, none⟩ = some (.int .i64 xn) ∧ w'.cell? ⟨b1, o1 + i * 7 + 2 + 1, none⟩ = some (.int .u64 xs) ∧ w'.cell? ⟨b1, o1 + i * 7 + 2 + 2, none⟩ = some (.int .i64 xt) ∧ w'.cell? ⟨b1, o1 + i * 7 + 2 + 3, none⟩ = some (.bool xl) ∧ w'.cell? ⟨b1, o1 + i * 7 + 2 + 4, none⟩ = some (.slice xp xo.length xc)) ∧ w'.cell? ⟨b2, o2 + i * 7, none⟩ = some (.string ya) ∧ w'.cell? ⟨b2, o2 + i * 7 + 1, none⟩ = some (.string yb) ∧ w'.cell? ⟨b2, o2 + i * 7 + 2, none⟩ = some (.int .i64 yn) ∧ w'.cell? ⟨b2, o2 + i * 7 + 2 + 1, none⟩ = some (.int .u64 ys) ∧ w'.cell? ⟨b2, o2 + i * 7 + 2 + 2, none⟩ = some (.int .i64 yt) ∧ w'.cell? ⟨b2, o2 + i * 7 + 2 + 3, none⟩ = some (.bool yl) ∧ w'.cell? ⟨b2, o2 + i * 7 + 2 + 4, none⟩ = some (.slice yp yo.length yc)) (by kernel_rfl) (by have := HS.out _ HWD.out; simpa only [and_assoc] using this) (fun hHeld => ?_)
            refine take_val (i := 0) (.slice (some ⟨b1, o1, none⟩) d.length cap) rfl (by kernel_rfl) (by kernel_rfl) (by kernel_rfl) (fun _ _ _ h => h) (by rfl) (fun w hSw => by go_simp) hHeld ?_
            simp only [Act.put, List.setIfInBounds_toArray, List.set_cons_zero, List.set_cons_succ]
            refine take_val (i := 1) (.int .i64 i) rfl (by kernel_rfl) (by kernel_rfl) (by kernel_rfl) (fun _ _ _ h => h) (by rfl) (fun w hSw => by go_simp) hHeld ?_
            simp only [Act.put, List.setIfInBounds_toArray, List.set_cons_zero, List.set_cons_succ]
            refine take_val (i := 2) (.pointer (some ⟨b1, o1 + i * 7, none⟩)) rfl (by kernel_rfl) (by kernel_rfl) (by kernel_rfl) (fun _ _ _ h => h) (by rfl) (fun w hSw => by go_simp) hHeld ?_
            simp only [Act.put, List.setIfInBounds_toArray, List.set_cons_zero, List.set_cons_succ]
            refine take_val (i := 3) (.pointer (some ⟨b1, o1 + i * 7, none⟩)) rfl (by kernel_rfl) (by kernel_rfl) (by kernel_rfl) (fun _ _ _ h => h) (by rfl) (fun w hSw => by go_simp) hHeld ?_
            simp only [Act.put, List.setIfInBounds_toArray, List.set_cons_zero, List.set_cons_succ]
            refine take_val (i := 4) (.agg #[.string xa, .string xb]) rfl (by kernel_rfl) (by kernel_rfl) (by kernel_rfl) (fun _ _ _ h => h) (by rfl) (fun w hSw => by go_simp) hHeld ?_
            simp only [Act.put, List.setIfInBounds_toArray, List.set_cons_zero, List.set_cons_succ]
            refine take_val (i := 5) (.slice (some ⟨b2, o2, none⟩) e.length cap') rfl (by kernel_rfl) (by kernel_rfl) (by kernel_rfl) (fun _ _ _ h => h) (by rfl) (fun w hSw => by go_simp) hHeld ?_
            simp only [Act.put, List.setIfInBounds_toArray, List.set_cons_zero, List.set_cons_succ]
            refine take_val (i := 6) (.int .i64 i) rfl (by kernel_rfl) (by kernel_rfl) (by kernel_rfl) (fun _ _ _ h => h) (by rfl) (fun w hSw => by go_simp) hHeld ?_
            simp only [Act.put, List.setIfInBounds_toArray, List.set_cons_zero, List.set_cons_succ]
            refine take_val (i := 7) (.pointer (some ⟨b2, o2 + i * 7, none⟩)) rfl (by kernel_rfl) (by kernel_rfl) (by kernel_rfl) (fun _ _ _ h => h) (by rfl) (fun w hSw => by go_simp) hHeld ?_
            simp only [Act.put, List.setIfInBounds_toArray, List.set_cons_zero, List.set_cons_succ]
            refine take_val (i := 8) (.pointer (some ⟨b2, o2 + i * 7, none⟩)) rfl (by kernel_rfl) (by kernel_rfl) (by kernel_rfl) (fun _ _ _ h => h) (by rfl) (fun w hSw => by go_simp) hHeld ?_
            simp only [Act.put, List.setIfInBounds_toArray, List.set_cons_zero, List.set_cons_succ]
            refine take_val (i := 9) (.agg #[.string ya, .string yb]) rfl (by kernel_rfl) (by kernel_rfl) (by kernel_rfl) (fun _ _ _ h => h) (by rfl) (fun w hSw => by go_simp) hHeld ?_
            simp only [Act.put, List.setIfInBounds_toArray, List.set_cons_zero, List.set_cons_succ]
            refine take_val (i := 10) (.bool false) rfl (by kernel_rfl) (by kernel_rfl) (by kernel_rfl) (fun _ _ _ h => h) (by rfl) (fun w hSw => by go_simp) hHeld ?_
            simp only [Act.put, List.setIfInBounds_toArray, List.set_cons_zero, List.set_cons_succ]
            refine take_val (i := 11) (.bool false) rfl (by kernel_rfl) (by kernel_rfl) (by kernel_rfl) (fun _ _ _ h => h) (by rfl) (fun w hSw => by go_simp) hHeld ?_
            simp only [Act.put, List.setIfInBounds_toArray, List.set_cons_zero, List.set_cons_succ]
            refine take_val (i := 12) (.slice (some ⟨b1, o1, none⟩) d.length cap) rfl (by kernel_rfl) (by kernel_rfl) (by kernel_rfl) (fun _ _ _ h => h) (by rfl) (fun w hSw => by go_simp) hHeld ?_
            simp only [Act.put, List.setIfInBounds_toArray, List.set_cons_zero, List.set_cons_succ]
            refine take_val (i := 13) (.int .i64 i) rfl (by kernel_rfl) (by kernel_rfl) (by kernel_rfl) (fun _ _ _ h => h) (by rfl) (fun w hSw => by go_simp) hHeld ?_
            simp only [Act.put, List.setIfInBounds_toArray, List.set_cons_zero, List.set_cons_succ]
            refine take_val (i := 14) (.pointer (some ⟨b1, o1 + i * 7, none⟩)) rfl (by kernel_rfl) (by kernel_rfl) (by kernel_rfl) (fun _ _ _ h => h) (by rfl) (fun w hSw => by go_simp) hHeld ?_
            simp only [Act.put, List.setIfInBounds_toArray, List.set_cons_zero, List.set_cons_succ]
            refine take_val (i := 15) (.pointer (some ⟨b1, o1 + i * 7 + 2, none⟩)) rfl (by kernel_rfl) (by kernel_rfl) (by kernel_rfl) (fun _ _ _ h => h) (by rfl) (fun w hSw => by go_simp) hHeld ?_
            simp only [Act.put, List.setIfInBounds_toArray, List.set_cons_zero, List.set_cons_succ]
            refine take_val (i := 16) (.agg #[.int .i64 xn, .int .u64 xs, .int .i64 xt, .bool xl, .slice xp xo.length xc]) rfl (by kernel_rfl) (by kernel_rfl) (by kernel_rfl) (fun _ _ _ h => h) (by rfl) (fun w hSw => by go_simp) hHeld ?_
            simp only [Act.put, List.setIfInBounds_toArray, List.set_cons_zero, List.set_cons_succ]
            refine take_val (i := 17) (.slice (some ⟨b2, o2, none⟩) e.length cap') rfl (by kernel_rfl) (by kernel_rfl) (by kernel_rfl) (fun _ _ _ h => h) (by rfl) (fun w hSw => by go_simp) hHeld ?_
            simp only [Act.put, List.setIfInBounds_toArray, List.set_cons_zero, List.set_cons_succ]
            refine take_val (i := 18) (.int .i64 i) rfl (by kernel_rfl) (by kernel_rfl) (by kernel_rfl) (fun _ _ _ h => h) (by rfl) (fun w hSw => by go_simp) hHeld ?_
            simp only [Act.put, List.setIfInBounds_toArray, List.set_cons_zero, List.set_cons_succ]
            refine take_val (i := 19) (.pointer (some ⟨b2, o2 + i * 7, none⟩)) rfl (by kernel_rfl) (by kernel_rfl) (by kernel_rfl) (fun _ _ _ h => h) (by rfl) (fun w hSw => by go_simp) hHeld ?_
            simp only [Act.put, List.setIfInBounds_toArray, List.set_cons_zero, List.set_cons_succ]
            refine take_val (i := 20) (.pointer (some ⟨b2, o2 + i * 7 + 2, none⟩)) rfl (by kernel_rfl) (by kernel_rfl) (by kernel_rfl) (fun _ _ _ h => h) (by rfl) (fun w hSw => by go_simp) hHeld ?_
            simp only [Act.put, List.setIfInBounds_toArray, List.set_cons_zero, List.set_cons_succ]
            refine take_val (i := 21) (.agg #[.int .i64 yn, .int .u64 ys, .int .i64 yt, .bool yl, .slice yp yo.length yc]) rfl (by kernel_rfl) (by kernel_rfl) (by kernel_rfl) (fun _ _ _ h => h) (by rfl) (fun w hSw => by go_simp) hHeld ?_
            simp only [Act.put, List.setIfInBounds_toArray, List.set_cons_zero, List.set_cons_succ]
            refine wpAnyH_ready (rs := [22]) (by kernel_rfl) (by simp) ?_
            refine AllReadyH.cons (at_drop0 rfl) (fun K hK => ?_) AllReadyH.nil
            rw [if_pos (by rfl)]
            go_simp
            refine (HC.out _ HWD.out).mono ?_
            rintro z w1 ⟨rfl, hq1⟩
            have HB1 := hid (bel_then HWD.out HWD.out.size hq1)
            clear hq1 hHeld
            go_wp2_with fail
            refine hK.out _ _ (by have := HS.out _ HB1.out; simpa only [and_assoc] using this) (fun hHeld => ?_)
            clear hK K
            try simp only [Act.put, List.setIfInBounds_toArray, List.set_cons_zero, List.set_cons_succ]
            refine take_val (i := 23) (.bool (!Q)) rfl (by kernel_rfl) (by kernel_rfl) (by kernel_rfl) (fun _ _ _ h => h) (by rfl) (fun w hSw => by go_simp) hHeld ?_
            simp only [Act.put, List.setIfInBounds_toArray, List.set_cons_zero, List.set_cons_succ]
            refine take_val (i := 24) (.bool (!Q)) rfl (by kernel_rfl) (by kernel_rfl) (by kernel_rfl) (fun _ _ _ h => h) (by rfl) (fun w hSw => by go_simp) hHeld ?_
            simp only [Act.put, List.setIfInBounds_toArray, List.set_cons_zero, List.set_cons_succ]
            refine wpAnyH_done (by kernel_rfl) ?_ _
            clear hHeld
            go_wp2_with fail
            go_meet
            exact ⟨congrArg (fun b => Value.bool (!b)) HE1.out.symm, HB1.out⟩
          · rw [decide_eq_false hk] at hne
            have HE1 : Hid (decide (x.fnd = y.fnd) = false) := decide_eq_false fun h => hk (HXY.out.1 h).1
            obtain ⟨xa, xb, ⟨xn, xs, xt, xl, xp, xc, xo⟩⟩ := x
            obtain ⟨ya, yb, ⟨yn, ys, yt, yl, yp, yc, yo⟩⟩ := y
            simp only [CellsF, CellsV, Vx.sl, encVx] at HS HC
            clear hk HXY HQ G1 G2 HJ HC
            refine wp_region_held_drew (S := fun w' => (w'.cell? ⟨b1, o1 + i * 7, none⟩ = some (.string xa) ∧ w'.cell? ⟨b1, o1 + i * 7 + 1, none⟩ = some (.string xb) ∧ w'.cell? ⟨b1, o1 + i * 7 + 2, none⟩ = some (.int .i64 xn) ∧ w'.cell? ⟨b1, o1 + i * 7 + 2 + 1, none⟩ = some (.int .u64 xs) ∧ w'.cell? ⟨b1, o1 + i * 7 + 2 + 2, none⟩ = some (.int .i64 xt) ∧ w'.cell? ⟨b1, o1 + i * 7 + 2 + 3, none⟩ = some (.bool xl) ∧ w'.cell? ⟨b1, o1 + i * 7 + 2 + 4, none⟩ = some (.slice xp xo.length xc)) ∧ w'.cell? ⟨b2, o2 + i * 7, none⟩ = some (.string ya) ∧ w'.cell? ⟨b2, o2 + i * 7 + 1, none⟩ = some (.string yb) ∧ w'.cell? ⟨b2, o2 + i * 7 + 2, none⟩ = some (.int .i64 yn) ∧ w'.cell? ⟨b2, o2 + i * 7 + 2 + 1, none⟩ = some (.int .u64 ys) ∧ w'.cell? ⟨b2, o2 + i * 7 + 2 + 2, none⟩ = some (.int .i64 yt) ∧ w'.cell? ⟨b2, o2 + i * 7 + 2 + 3, none⟩ = some (.bool yl) ∧ w'.cell? ⟨b2, o2 + i * 7 + 2 + 4, none⟩ = some (.slice yp yo.length yc)) (by kernel_rfl) (by have := HS.out _ HWD.out; simpa only [and_assoc] using this) (fun hHeld => ?_)
            refine take_val (i := 0) (.slice (some ⟨b1, o1, none⟩) d.length cap) rfl (by kernel_rfl) (by kernel_rfl) (by kernel_rfl) (fun _ _ _ h => h) (by rfl) (fun w hSw => by go_simp) hHeld ?_
            simp only [Act.put, List.setIfInBounds_toArray, List.set_cons_zero, List.set_cons_succ]
            refine take_val (i := 1) (.int .i64 i) rfl (by kernel_rfl) (by kernel_rfl) (by kernel_rfl) (fun _ _ _ h => h) (by rfl) (fun w hSw => by go_simp) hHeld ?_
            simp only [Act.put, List.setIfInBounds_toArray, List.set_cons_zero, List.set_cons_succ]
            refine take_val (i := 2) (.pointer (some ⟨b1, o1 + i * 7, none⟩)) rfl (by kernel_rfl) (by kernel_rfl) (by kernel_rfl) (fun _ _ _ h => h) (by rfl) (fun w hSw => by go_simp) hHeld ?_
            simp only [Act.put, List.setIfInBounds_toArray, List.set_cons_zero, List.set_cons_succ]
            refine take_val (i := 3) (.pointer (some ⟨b1, o1 + i * 7, none⟩)) rfl (by kernel_rfl) (by kernel_rfl) (by kernel_rfl) (fun _ _ _ h => h) (by rfl) (fun w hSw => by go_simp) hHeld ?_
            simp only [Act.put, List.setIfInBounds_toArray, List.set_cons_zero, List.set_cons_succ]
            refine take_val (i := 4) (.agg #[.string xa, .string xb]) rfl (by kernel_rfl) (by kernel_rfl) (by kernel_rfl) (fun _ _ _ h => h) (by rfl) (fun w hSw => by go_simp) hHeld ?_
            simp only [Act.put, List.setIfInBounds_toArray, List.set_cons_zero, List.set_cons_succ]
            refine take_val (i := 5) (.slice (some ⟨b2, o2, none⟩) e.length cap') rfl (by kernel_rfl) (by kernel_rfl) (by kernel_rfl) (fun _ _ _ h => h) (by rfl) (fun w hSw => by go_simp) hHeld ?_
            simp only [Act.put, List.setIfInBounds_toArray, List.set_cons_zero, List.set_cons_succ]
            refine take_val (i := 6) (.int .i64 i) rfl (by kernel_rfl) (by kernel_rfl) (by kernel_rfl) (fun _ _ _ h => h) (by rfl) (fun w hSw => by go_simp) hHeld ?_
            simp only [Act.put, List.setIfInBounds_toArray, List.set_cons_zero, List.set_cons_succ]
            refine take_val (i := 7) (.pointer (some ⟨b2, o2 + i * 7, none⟩)) rfl (by kernel_rfl) (by kernel_rfl) (by kernel_rfl) (fun _ _ _ h => h) (by rfl) (fun w hSw => by go_simp) hHeld ?_
            simp only [Act.put, List.setIfInBounds_toArray, List.set_cons_zero, List.set_cons_succ]
            refine take_val (i := 8) (.pointer (some ⟨b2, o2 + i * 7, none⟩)) rfl (by kernel_rfl) (by kernel_rfl) (by kernel_rfl) (fun _ _ _ h => h) (by rfl) (fun w hSw => by go_simp) hHeld ?_
            simp only [Act.put, List.setIfInBounds_toArray, List.set_cons_zero, List.set_cons_succ]
            refine take_val (i := 9) (.agg #[.string ya, .string yb]) rfl (by kernel_rfl) (by kernel_rfl) (by kernel_rfl) (fun _ _ _ h => h) (by rfl) (fun w hSw => by go_simp) hHeld ?_
            simp only [Act.put, List.setIfInBounds_toArray, List.set_cons_zero, List.set_cons_succ]
            refine take_val (i := 10) (.bool true) rfl (by kernel_rfl) (by kernel_rfl) (by kernel_rfl) (fun _ _ _ h => h) (by rfl) (fun w hSw => by go_simp) hHeld ?_
            simp only [Act.put, List.setIfInBounds_toArray, List.set_cons_zero, List.set_cons_succ]
            refine take_val (i := 11) (.bool true) rfl (by kernel_rfl) (by kernel_rfl) (by kernel_rfl) (fun _ _ _ h => h) (by rfl) (fun w hSw => by go_simp) hHeld ?_
            simp only [Act.put, List.setIfInBounds_toArray, List.set_cons_zero, List.set_cons_succ]
            refine take_not (i := 12) rfl (by kernel_rfl) (by kernel_rfl) (by kernel_rfl) (fun _ _ _ h => h) (by rfl) hHeld ?_
            simp only [Act.put, List.setIfInBounds_toArray, List.set_cons_zero, List.set_cons_succ]
            refine take_not (i := 13) rfl (by kernel_rfl) (by kernel_rfl) (by kernel_rfl) (fun _ _ _ h => h) (by rfl) hHeld ?_
            simp only [Act.put, List.setIfInBounds_toArray, List.set_cons_zero, List.set_cons_succ]
            refine take_not (i := 14) rfl (by kernel_rfl) (by kernel_rfl) (by kernel_rfl) (fun _ _ _ h => h) (by rfl) hHeld ?_
            simp only [Act.put, List.setIfInBounds_toArray, List.set_cons_zero, List.set_cons_succ]
            refine take_not (i := 15) rfl (by kernel_rfl) (by kernel_rfl) (by kernel_rfl) (fun _ _ _ h => h) (by rfl) hHeld ?_
            simp only [Act.put, List.setIfInBounds_toArray, List.set_cons_zero, List.set_cons_succ]
            refine take_not (i := 16) rfl (by kernel_rfl) (by kernel_rfl) (by kernel_rfl) (fun _ _ _ h => h) (by rfl) hHeld ?_
            simp only [Act.put, List.setIfInBounds_toArray, List.set_cons_zero, List.set_cons_succ]
            refine take_not (i := 17) rfl (by kernel_rfl) (by kernel_rfl) (by kernel_rfl) (fun _ _ _ h => h) (by rfl) hHeld ?_
            simp only [Act.put, List.setIfInBounds_toArray, List.set_cons_zero, List.set_cons_succ]
            refine take_not (i := 18) rfl (by kernel_rfl) (by kernel_rfl) (by kernel_rfl) (fun _ _ _ h => h) (by rfl) hHeld ?_
            simp only [Act.put, List.setIfInBounds_toArray, List.set_cons_zero, List.set_cons_succ]
            refine take_not (i := 19) rfl (by kernel_rfl) (by kernel_rfl) (by kernel_rfl) (fun _ _ _ h => h) (by rfl) hHeld ?_
            simp only [Act.put, List.setIfInBounds_toArray, List.set_cons_zero, List.set_cons_succ]
            refine take_not (i := 20) rfl (by kernel_rfl) (by kernel_rfl) (by kernel_rfl) (fun _ _ _ h => h) (by rfl) hHeld ?_
            simp only [Act.put, List.setIfInBounds_toArray, List.set_cons_zero, List.set_cons_succ]
            refine take_not (i := 21) rfl (by kernel_rfl) (by kernel_rfl) (by kernel_rfl) (fun _ _ _ h => h) (by rfl) hHeld ?_
            simp only [Act.put, List.setIfInBounds_toArray, List.set_cons_zero, List.set_cons_succ]
            refine take_not (i := 22) rfl (by kernel_rfl) (by kernel_rfl) (by kernel_rfl) (fun _ _ _ h => h) (by rfl) hHeld ?_
            simp only [Act.put, List.setIfInBounds_toArray, List.set_cons_zero, List.set_cons_succ]
            refine take_not (i := 23) rfl (by kernel_rfl) (by kernel_rfl) (by kernel_rfl) (fun _ _ _ h => h) (by rfl) hHeld ?_
            simp only [Act.put, List.setIfInBounds_toArray, List.set_cons_zero, List.set_cons_succ]
            refine take_val (i := 24) (.bool true) rfl (by kernel_rfl) (by kernel_rfl) (by kernel_rfl) (fun _ _ _ h => h) (by rfl) (fun w hSw => by go_simp) hHeld ?_
            simp only [Act.put, List.setIfInBounds_toArray, List.set_cons_zero, List.set_cons_succ]
            refine wpAnyH_done (by kernel_rfl) ?_ _
            clear hHeld
            go_wp2_with fail
            go_meet
            exact ⟨congrArg (fun b => Value.bool (!b)) HE1.out.symm, HWD.out⟩
        case rest =>
          obtain ⟨rfl, HB1⟩ := hcut
          obtain ⟨Z, hZ⟩ : ∃ Z, decide (x.fnd = y.fnd) = Z := ⟨_, rfl⟩
          rw [hZ]
          have HZ := hid hZ
          clear hZ hne HC HS HXY HQ
          cases Z with
          | true =>
            go_wp2_with fail
            go_roundg (d.length - (i + 1))
            case measure => omega
            refine ⟨i + 1, by go_num, by omega, by omega, HB1.out, fun j hj => ?_⟩
            by_cases ej : j = i
            · subst ej
              rw [G1.out, G2.out, of_decide_eq_true HZ.out]
            · exact HJ.out j (by omega)
          | false =>
            have H0 : Hid (r = false) := HR.out.symm.trans (decide_eq_false fun h => by
              have h1 := G1.out
              rw [h, G2.out] at h1
              exact of_decide_eq_false HZ.out (Option.some.inj h1).symm)
            go_wp2_with fail
            go_ret
            exact ⟨ret_bool H0.out.symm, HB1.out⟩
      · have hltz : ¬ (i : Int) < (d.length : Int) := by omega
        have H0 : Hid (r = true) := HR.out.symm.trans (decide_eq_true (List.ext_getElem? fun j => by
          by_cases hj : j < d.length
          · exact HJ.out j (by omega)
          · rw [List.getElem?_eq_none (by rw [List.length_map]; omega), List.getElem?_eq_none (by rw [List.length_map]; have := HL.out; omega)]))
        go_wp2_with fail
        go_ret
        exact ⟨ret_bool H0.out.symm, HW.out⟩
  · have hbn : ((d.length : Int) != (e.length : Int)) = true := by simp; omega
    have H0 : Hid (r = false) := HR.out.symm.trans (decide_eq_false fun h => hle (by simpa using congrArg List.length h))
    go_enter Tryz.func21, Tryz.ntmps21
    go_wp2_with fail
    go_ret
    exact ⟨ret_bool H0.out.symm, Below.refl _ _⟩

end Go.Proofs.YtjehjjpdicimhaaGreat

/-
  The reference's set of writes (stage 11): place.
-/
namespace Go.Proofs.YtjehjjpdicimhaaGreat
open Go.RowKit

theorem Tryz.infoFdW : (Tryz.prog.info? 53).map (fun i => (i.zero, i.size, i.bytes)) = some (some (.agg #[.string ⟨#[]⟩, .string ⟨#[]⟩, .int .i64 0, .int .u64 0, .int .i64 0, .bool false, .slice none 0 0]), 7, 88) := by kernel_rfl

/-- A find in its place. -/
def PlacePost (N : Nat) (W : World) (fs : List Fd) (f : Fd) (e : Ending) (w' : World) : Prop :=
  ∃ u fs', e = .returned u ∧ RowSt KFd N W u fs' w' ∧ fs'.map Fd.fnd = insP f.fnd (fs.map Fd.fnd) ∧ fs'.length = fs.length + 1 ∧ ∀ y ∈ fs', y = f ∨ y ∈ fs

theorem place_done {N : Nat} {W : World} {fs : List Fd} {f : Fd} {u : Value} {w' : World} {i : Nat} (hi : i ≤ fs.length) (h : RowSt KFd N W u (fs.take i ++ f :: fs.drop i) w') (hr : RiseP (fs.map Fd.fnd)) (h1 : 0 < i → (h : i - 1 < fs.length) → ltKy (f.a, f.b) ((fs[i - 1]).a, (fs[i - 1]).b) = false) (h2 : ∀ j, i ≤ j → (h : j < fs.length) → ltKy (f.a, f.b) ((fs[j]).a, (fs[j]).b) = true) : PlacePost N W fs f (.returned u) w' := by
  refine ⟨u, _, rfl, h, ?_, ?_, fun y hy => ?_⟩
  · rw [insP_last f.fnd hr i (by simpa using hi) (fun h0 hh => by rw [List.getElem_map]; exact h1 h0 (by simpa using hh)) (fun j hj hh => by rw [List.getElem_map]; exact h2 j hj (by simpa using hh))]
    simp
  · rw [List.length_append, List.length_cons, List.length_take, List.length_drop]
    omega
  · rcases List.mem_append.1 hy with hy | hy
    · exact Or.inr (List.mem_of_mem_take hy)
    · rcases List.mem_cons.1 hy with hy | hy
      · exact Or.inl hy
      · exact Or.inr (List.mem_of_mem_drop hy)

/-- Between two rounds of the shift. -/
theorem place_shift {fs : List Fd} {f : Fd} {m : Nat} (hm : m < fs.length) : ((fs.take (m + 1) ++ f :: fs.drop (m + 1)).set (m + 1) fs[m]).set m f = fs.take m ++ f :: fs.drop m := by
  have h1 : (fs.take (m + 1)).length = m + 1 := by rw [List.length_take]; omega
  have h2 : (fs.take m).length = m := by rw [List.length_take]; omega
  rw [List.set_append_right _ _ (by omega), h1, Nat.sub_self, List.set_cons_zero, List.take_succ_eq_append_getElem hm, List.append_assoc, List.set_append_right _ _ (by omega), h2, Nat.sub_self]
  conv => rhs; rw [List.drop_eq_getElem_cons hm]
  rfl

set_option maxHeartbeats 8000000 in
set_option maxRecDepth 100000 in
theorem placeW_any {N : Nat} {W : World} {v : Value} {fs : List Fd} {w : World} (hst : RowSt KFd N W v fs w) (f : Fd) (hr : RiseP (fs.map Fd.fnd)) (hl : fs.length < 1500000000000) :
    Calls Tryz.prog 43 #[v, .agg (encFd f).toArray] w fun e w' => PlacePost N W fs f e w' := by
  obtain ⟨i0, hi0, hz0, hz1, hz2⟩ := info_parts Tryz.infoFdW
  have HI0 := hid hi0
  obtain ⟨p, cap, rfl⟩ := Kind.own_shape hst.own
  obtain ⟨M, hM⟩ : ∃ M, w.heap.size = M := ⟨_, rfl⟩
  obtain ⟨V, hV⟩ : ∃ V, w.alloc (.cells (encFd f).toArray 53) = V := ⟨_, rfl⟩
  obtain ⟨V2, hV2⟩ : ∃ V2, V.alloc (.cells (encFd f).toArray 53) = V2 := ⟨_, rfl⟩
  have hbV : Below w.heap.size w V := by rw [← hV]; exact (Below.refl _ _).alloc (Nat.le_refl _) _
  have hsV : V.heap.size = M + 1 := by rw [← hV, ← hM]; simp
  have hsV2 : V2.heap.size = M + 2 := by rw [← hV2]; simp [hsV]
  have hbV2 : Below V.heap.size V V2 := by rw [← hV2]; exact (Below.refl _ _).alloc (Nat.le_refl _) _
  have hobj : V.heap[M]? = some (.cells (encFd f).toArray 53 (0, 0)) := by rw [← hV, ← hM]; exact heap_alloc_new w _
  have hobj2 : V2.heap[V.heap.size]? = some (.cells (encFd f).toArray 53 (0, 0)) := by rw [← hV2]; exact heap_alloc_new V _
  rw [hsV] at hobj2
  have HN2 := hid hobj2
  have HST2 := hid ((hst.on hbV).on hbV2)
  have HOFF : Hid (∀ G, ((Value.slice p fs.length cap).ownBlock = some G ∨ G = V2.heap.size) → M ≠ G) := fun G hG => by
    rcases hG with hG | hG
    · have := (World.ownsRow.lt hst.own G hG).2
      omega
    · omega
  have HOLD : Hid (∀ w3, V2.grownBy w3 (Value.slice p fs.length cap).ownBlock → w3.heap[M]? = some (.cells (encFd f).toArray 53 (0, 0))) := fun w3 hg => by
    rw [hg.block M (by omega) fun e => by have := (World.ownsRow.lt hst.own M e.symm).2; omega, hbV2.block M (by omega)]
    exact hobj
  have HBOX : Hid (∀ w : World, w.heap[M]? = some (.cells (encFd f).toArray 53 (0, 0)) → CellsF w M 0 f) := fun w h => by
    obtain ⟨fa, fb, ⟨fn, fstp, ft, fl, fp, fc, fo⟩⟩ := f
    exact ⟨by rw [Lib.cell_of_heap h]; rfl, by rw [Lib.cell_of_heap h]; rfl, by rw [Lib.cell_of_heap h]; rfl, by rw [Lib.cell_of_heap h]; rfl, by rw [Lib.cell_of_heap h]; rfl, by rw [Lib.cell_of_heap h]; rfl, by rw [Lib.cell_of_heap h]; rfl⟩
  have HRP := hid hr
  obtain ⟨fa, fb, ⟨fn, fq, ft, fl, fp, fc, fo⟩⟩ := f
  simp only [encFd, encVx, Vx.sl, CellsF, CellsV, Nat.zero_add] at *
  obtain ⟨m0, m1, m2, m3, m4, m5, m6⟩ := HBOX.out V hobj
  clear hst hi0 hr hobj hobj2 hbV hbV2
  go_enter Tryz.func43, Tryz.ntmps43
  go_upto_region 2 with (at_builtin; refine wpList_push KFd rfl _ _ 34 rfl i0 _ 88 Tryz.underlying34 HI0.out hz0 hz1 hz2 rfl N W _ fs rfl HST2.out ⟨fa, fb, ⟨fn, fq, ft, fl, fp, fc, fo⟩⟩ _ _ _ rfl rfl _ _ HN2.out (by unfold maxLen; omega) (by omega) ?_; intro G c3 w3 hst3 hg3 hat3; have HS3 := hid hst3; have HM3 := hid (HOLD.out w3 hg3); have hMG := HOFF.out G hat3; clear hst3 hg3 hat3)
  clear m0 m1 m2 m3 m4 m5 m6 HST2 HN2 HOFF HOLD hV hV2 hsV hsV2
  have HST : Hid (RowSt KFd N W (.slice (some ⟨G, 0, none⟩) (fs.length + 1) c3) (fs.take fs.length ++ ⟨fa, fb, ⟨fn, fq, ft, fl, fp, fc, fo⟩⟩ :: fs.drop fs.length) w3) := by
    rw [List.take_length, List.drop_length]
    exact HS3.out
  clear HS3
  go_wp2_with fail
  go_loopg [5] fs.length (fun gg vi wr => ∃ (i : Nat), vi = .int .i64 i ∧ i ≤ fs.length ∧ i ≤ gg ∧ Hid (RowSt KFd N W (.slice (some ⟨G, 0, none⟩) (fs.length + 1) c3) (fs.take i ++ ⟨fa, fb, ⟨fn, fq, ft, fl, fp, fc, fo⟩⟩ :: fs.drop i) wr) ∧ Hid (wr.heap[M]? = some (.cells #[.string fa, .string fb, .int .i64 fn, .int .u64 fq, .int .i64 ft, .bool fl, .slice fp fo.length fc] 53 (0, 0))) ∧ Hid (∀ j, i ≤ j → (h : j < fs.length) → ltKy (fa, fb) ((fs[j]).a, (fs[j]).b) = true))
  case atStart => exact ⟨fs.length, rfl, by omega, by omega, HST.out, HM3.out, fun j h1 h2 => by omega⟩
  case round =>
    clear HST HM3
    obtain ⟨i, rfl, hi, hgk, HS, HM, HJ⟩ := hrel
    obtain ⟨m0, m1, m2, m3, m4, m5, m6⟩ := HBOX.out wr HM.out
    by_cases hpos : 0 < i
    · obtain ⟨m, hm⟩ : ∃ m, i = m + 1 := ⟨i - 1, by omega⟩
      have hmf : m < fs.length := by omega
      have hrow : KFd.At wr G 0 (fs.take i ++ ⟨fa, fb, ⟨fn, fq, ft, fl, fp, fc, fo⟩⟩ :: fs.drop i) := Kind.own_at HS.out.own
      have hfree : ∀ j, wr.frozen? ⟨G, j, none⟩ = false := fun j => Kind.own_free HS.out.own j
      have hlen : (fs.take i ++ ⟨fa, fb, ⟨fn, fq, ft, fl, fp, fc, fo⟩⟩ :: fs.drop i).length = fs.length + 1 := by
        rw [List.length_append, List.length_cons, List.length_take, List.length_drop]; omega
      have hy := kfd_at hrow m (by omega)
      have hq := kfd_at hrow i (by omega)
      have ey : (fs.take i ++ ⟨fa, fb, ⟨fn, fq, ft, fl, fp, fc, fo⟩⟩ :: fs.drop i)[m]'(by omega) = fs[m] := by
        rw [List.getElem_append_left (by rw [List.length_take]; omega), List.getElem_take]
      have eq : (fs.take i ++ ⟨fa, fb, ⟨fn, fq, ft, fl, fp, fc, fo⟩⟩ :: fs.drop i)[i]'(by omega) = ⟨fa, fb, ⟨fn, fq, ft, fl, fp, fc, fo⟩⟩ := by
        rw [List.getElem_append_right (by rw [List.length_take]; omega)]
        have : i - (fs.take i).length = 0 := by rw [List.length_take]; omega
        simp only [this, List.getElem_cons_zero]
      rw [ey] at hy
      rw [eq] at hq
      have HSH : Hid (((fs.take i ++ ⟨fa, fb, ⟨fn, fq, ft, fl, fp, fc, fo⟩⟩ :: fs.drop i).set i fs[m]).set m ⟨fa, fb, ⟨fn, fq, ft, fl, fp, fc, fo⟩⟩ = fs.take m ++ ⟨fa, fb, ⟨fn, fq, ft, fl, fp, fc, fo⟩⟩ :: fs.drop m) := by
        show _ = _
        rw [hm]
        exact place_shift hmf
      have HDN : Hid (ltKy (fa, fb) ((fs[m]).a, (fs[m]).b) = false → ∀ w', RowSt KFd N W (.slice (some ⟨G, 0, none⟩) (fs.length + 1) c3) (fs.take i ++ ⟨fa, fb, ⟨fn, fq, ft, fl, fp, fc, fo⟩⟩ :: fs.drop i) w' → PlacePost N W fs ⟨fa, fb, ⟨fn, fq, ft, fl, fp, fc, fo⟩⟩ (.returned (.slice (some ⟨G, 0, none⟩) (fs.length + 1) c3)) w') := fun hk w' hw' => place_done hi hw' HRP.out (fun _ hh => by
        have : i - 1 = m := by omega
        simp only [this]
        exact hk) HJ.out
      have HJ2 : Hid (ltKy (fa, fb) ((fs[m]).a, (fs[m]).b) = true → ∀ j, m ≤ j → (h : j < fs.length) → ltKy (fa, fb) ((fs[j]).a, (fs[j]).b) = true) := fun hk j hj hh => by
        by_cases e : j = m
        · subst e; exact hk
        · exact HJ.out j (by omega) hh
      have HPUT : Hid (∀ x, RowSt KFd N W (.slice (some ⟨G, 0, none⟩) (fs.length + 1) c3) ((fs.take i ++ ⟨fa, fb, ⟨fn, fq, ft, fl, fp, fc, fo⟩⟩ :: fs.drop i).set i x) (setFrom wr G (i * 7) 0 (encFd x))) := fun x => HS.out.put i (by omega) x
      have hGM : M ≠ G := hMG
      generalize fs[m] = y at *
      obtain ⟨ya, yb, ⟨yn, yq, yt, yl, yp, yc, yo⟩⟩ := y
      simp only [CellsF, CellsV, Vx.sl, Nat.zero_add] at hy hq
      obtain ⟨y0, y1, y2, y3, y4, y5, y6⟩ := hy
      obtain ⟨q0, q1, q2, q3, q4, q5, q6⟩ := hq
      have hcz : (0 : Int) < (i : Int) := by omega
      have hcz1 : (0 : Int) ≤ (i : Int) := by omega
      have hcn : (i : Int) < (fs.length : Int) + 1 := by omega
      have hmz : (0 : Int) ≤ (m : Int) := by omega
      have hmn : (m : Int) < (fs.length : Int) + 1 := by omega
      have HSD := hid (HS.out.on (bel_drewN (Below.refl _ _) 1))
      have HMD : Hid (wr.drew.heap[M]? = some (.cells #[.string fa, .string fb, .int .i64 fn, .int .u64 fq, .int .i64 ft, .bool fl, .slice fp fo.length fc] 53 (0, 0))) := HM.out
      have HCALL := hid (lessW_any fa fb ya yb wr.drew)
      have hm1 : m < i := by omega
      have hm2 : i ≤ m + 1 := by omega
      clear hrow hlen ey eq hm
      have hd : decide ((0 : Int) < (i : Int)) = true := decide_eq_true hcz
      have hw1 : wrap64 ((i : Int) - 1) = (m : Int) := by simp [wrap64]; omega
      have hw2 : IntKind.i64.wrap ((i : Int) - 1) = (m : Int) := by rw [IntKind.wrap_i64]; omega
      have hw3 : IntKind.i64.wrap (m : Int) = (m : Int) := by rw [IntKind.wrap_i64]; omega
      go_upto_region 3 with fail
      refine wp_region_held_drew (S := fun w' => w'.cell? ⟨M, 0, none⟩ = some (.string fa) ∧ w'.cell? ⟨M, 1, none⟩ = some (.string fb) ∧ w'.cell? ⟨G, m * 7, none⟩ = some (.string ya) ∧ w'.cell? ⟨G, m * 7 + 1, none⟩ = some (.string yb)) (by kernel_rfl) ⟨m0, m1, y0, y1⟩ (fun hHeld => ?_)
      refine take_val (i := 0) (.int .i64 i) rfl (by kernel_rfl) (by kernel_rfl) (by kernel_rfl) (fun _ _ _ h => h) (by rfl) (fun w hSw => by go_simp) hHeld ?_
      simp only [Act.put, List.setIfInBounds_toArray, List.set_cons_zero, List.set_cons_succ]
      refine take_val (i := 1) (.bool true) rfl (by kernel_rfl) (by kernel_rfl) (by kernel_rfl) (fun _ _ _ h => h) (by rfl) (fun w hSw => by go_simp) hHeld ?_
      simp only [Act.put, List.setIfInBounds_toArray, List.set_cons_zero, List.set_cons_succ]
      refine take_val (i := 2) (.bool true) rfl (by kernel_rfl) (by kernel_rfl) (by kernel_rfl) (fun _ _ _ h => h) (by rfl) (fun w hSw => by go_simp) hHeld ?_
      simp only [Act.put, List.setIfInBounds_toArray, List.set_cons_zero, List.set_cons_succ]
      refine take_val (i := 3) (.pointer (some ⟨M, 0, none⟩)) rfl (by kernel_rfl) (by kernel_rfl) (by kernel_rfl) (fun _ _ _ h => h) (by rfl) (fun w hSw => by go_simp) hHeld ?_
      simp only [Act.put, List.setIfInBounds_toArray, List.set_cons_zero, List.set_cons_succ]
      refine take_val (i := 4) (.agg #[.string fa, .string fb]) rfl (by kernel_rfl) (by kernel_rfl) (by kernel_rfl) (fun _ _ _ h => h) (by rfl) (fun w hSw => by go_simp) hHeld ?_
      simp only [Act.put, List.setIfInBounds_toArray, List.set_cons_zero, List.set_cons_succ]
      refine take_val (i := 5) (.slice (some ⟨G, 0, none⟩) (fs.length + 1) c3) rfl (by kernel_rfl) (by kernel_rfl) (by kernel_rfl) (fun _ _ _ h => h) (by rfl) (fun w hSw => by go_simp) hHeld ?_
      simp only [Act.put, List.setIfInBounds_toArray, List.set_cons_zero, List.set_cons_succ]
      refine take_val (i := 6) (.int .i64 i) rfl (by kernel_rfl) (by kernel_rfl) (by kernel_rfl) (fun _ _ _ h => h) (by rfl) (fun w hSw => by go_simp) hHeld ?_
      simp only [Act.put, List.setIfInBounds_toArray, List.set_cons_zero, List.set_cons_succ]
      refine take_val (i := 7) (.int .i64 m) rfl (by kernel_rfl) (by kernel_rfl) (by kernel_rfl) (fun _ _ _ h => h) (by rfl) (fun w hSw => by go_simp) hHeld ?_
      simp only [Act.put, List.setIfInBounds_toArray, List.set_cons_zero, List.set_cons_succ]
      refine take_val (i := 8) (.pointer (some ⟨G, m * 7, none⟩)) rfl (by kernel_rfl) (by kernel_rfl) (by kernel_rfl) (fun _ _ _ h => h) (by rfl) (fun w hSw => by go_simp) hHeld ?_
      simp only [Act.put, List.setIfInBounds_toArray, List.set_cons_zero, List.set_cons_succ]
      refine take_val (i := 9) (.pointer (some ⟨G, m * 7, none⟩)) rfl (by kernel_rfl) (by kernel_rfl) (by kernel_rfl) (fun _ _ _ h => h) (by rfl) (fun w hSw => by go_simp) hHeld ?_
      simp only [Act.put, List.setIfInBounds_toArray, List.set_cons_zero, List.set_cons_succ]
      refine take_val (i := 10) (.agg #[.string ya, .string yb]) rfl (by kernel_rfl) (by kernel_rfl) (by kernel_rfl) (fun _ _ _ h => h) (by rfl) (fun w hSw => by go_simp) hHeld ?_
      simp only [Act.put, List.setIfInBounds_toArray, List.set_cons_zero, List.set_cons_succ]
      refine wpAnyH_ready (rs := [11]) (by kernel_rfl) (by simp) ?_
      refine AllReadyH.cons (at_drop0 rfl) (fun K hK => ?_) AllReadyH.nil
      rw [if_pos (by rfl)]
      go_simp
      refine HCALL.out.mono ?_
      rintro e w2 ⟨rfl, hq2⟩
      have HS2 := hid (HSD.out.on hq2)
      have hG : G < wr.drew.heap.size := (World.ownsRow.lt HS.out.own G rfl).2
      have hMl : M < wr.drew.heap.size := (Array.getElem?_eq_some_iff.1 HMD.out).1
      have HM2 : Hid (w2.heap[M]? = some (.cells #[.string fa, .string fb, .int .i64 fn, .int .u64 fq, .int .i64 ft, .bool fl, .slice fp fo.length fc] 53 (0, 0))) := (hq2.block M hMl).trans HMD.out
      have hGe : w2.heap[G]? = wr.heap[G]? := hq2.block G hG
      have HPUT2 : Hid (∀ x, RowSt KFd N W (.slice (some ⟨G, 0, none⟩) (fs.length + 1) c3) ((fs.take i ++ ⟨fa, fb, ⟨fn, fq, ft, fl, fp, fc, fo⟩⟩ :: fs.drop i).set i x) (setFrom w2 G (i * 7) 0 (encFd x))) := fun x => HS2.out.put i (by rw [List.length_append, List.length_cons, List.length_take, List.length_drop]; omega) x
      have r0 : w2.cell? ⟨G, m * 7, none⟩ = some (.string ya) := (World.cell?_of_block (a := ⟨G, m * 7, none⟩) hGe).trans y0
      have r1 : w2.cell? ⟨G, m * 7 + 1, none⟩ = some (.string yb) := (World.cell?_of_block (a := ⟨G, m * 7 + 1, none⟩) hGe).trans y1
      have r2 : w2.cell? ⟨G, m * 7 + 2, none⟩ = some (.int .i64 yn) := (World.cell?_of_block (a := ⟨G, m * 7 + 2, none⟩) hGe).trans y2
      have r3 : w2.cell? ⟨G, m * 7 + 3, none⟩ = some (.int .u64 yq) := (World.cell?_of_block (a := ⟨G, m * 7 + 3, none⟩) hGe).trans y3
      have r4 : w2.cell? ⟨G, m * 7 + 4, none⟩ = some (.int .i64 yt) := (World.cell?_of_block (a := ⟨G, m * 7 + 4, none⟩) hGe).trans y4
      have r5 : w2.cell? ⟨G, m * 7 + 5, none⟩ = some (.bool yl) := (World.cell?_of_block (a := ⟨G, m * 7 + 5, none⟩) hGe).trans y5
      have r6 : w2.cell? ⟨G, m * 7 + 6, none⟩ = some (.slice yp yo.length yc) := (World.cell?_of_block (a := ⟨G, m * 7 + 6, none⟩) hGe).trans y6
      have s0 : w2.cell? ⟨G, i * 7, none⟩ = some (.string fa) := (World.cell?_of_block (a := ⟨G, i * 7, none⟩) hGe).trans q0
      have s1 : w2.cell? ⟨G, i * 7 + 1, none⟩ = some (.string fb) := (World.cell?_of_block (a := ⟨G, i * 7 + 1, none⟩) hGe).trans q1
      have s2 : w2.cell? ⟨G, i * 7 + 2, none⟩ = some (.int .i64 fn) := (World.cell?_of_block (a := ⟨G, i * 7 + 2, none⟩) hGe).trans q2
      have s3 : w2.cell? ⟨G, i * 7 + 3, none⟩ = some (.int .u64 fq) := (World.cell?_of_block (a := ⟨G, i * 7 + 3, none⟩) hGe).trans q3
      have s4 : w2.cell? ⟨G, i * 7 + 4, none⟩ = some (.int .i64 ft) := (World.cell?_of_block (a := ⟨G, i * 7 + 4, none⟩) hGe).trans q4
      have s5 : w2.cell? ⟨G, i * 7 + 5, none⟩ = some (.bool fl) := (World.cell?_of_block (a := ⟨G, i * 7 + 5, none⟩) hGe).trans q5
      have s6 : w2.cell? ⟨G, i * 7 + 6, none⟩ = some (.slice fp fo.length fc) := (World.cell?_of_block (a := ⟨G, i * 7 + 6, none⟩) hGe).trans q6
      have hfree2 : ∀ j, w2.frozen? ⟨G, j, none⟩ = false := fun j => Kind.own_free HS2.out.own j
      obtain ⟨n0', n1', n2', n3', n4', n5', n6'⟩ := HBOX.out w2 HM2.out
      clear hHeld HCALL hq2 hGe y0 y1 y2 y3 y4 y5 y6 q0 q1 q2 q3 q4 q5 q6 m0 m1 m2 m3 m4 m5 m6 HS HSD HM HMD HPUT hfree hG hMl
      cases hlk : ltKy (fa, fb) (ya, yb) with
      | false =>
        have HE := hid (HDN.out hlk w2 HS2.out)
        clear HDN HJ2 hlk
        go_wp2_with fail
        refine hK.out _ _ (⟨n0', n1', r0, r1⟩) (fun hHeld => ?_)
        clear hK K
        try simp only [Act.put, List.setIfInBounds_toArray, List.set_cons_zero, List.set_cons_succ]
        refine take_val (i := 12) (.bool false) rfl (by kernel_rfl) (by kernel_rfl) (by kernel_rfl) (fun _ _ _ h => h) (by rfl) (fun w hSw => by go_simp) hHeld ?_
        simp only [Act.put, List.setIfInBounds_toArray, List.set_cons_zero, List.set_cons_succ]
        refine wpAnyH_done (by kernel_rfl) ?_ _
        clear hHeld hw1 hw2 hw3
        go_wp2_with fail
        go_ret
        exact HE.out
      | true =>
        have HJ3 := hid (HJ2.out hlk)
        clear HDN HJ2 hlk
        go_wp2_with fail
        refine hK.out _ _ (⟨n0', n1', r0, r1⟩) (fun hHeld => ?_)
        clear hK K
        try simp only [Act.put, List.setIfInBounds_toArray, List.set_cons_zero, List.set_cons_succ]
        refine take_val (i := 12) (.bool true) rfl (by kernel_rfl) (by kernel_rfl) (by kernel_rfl) (fun _ _ _ h => h) (by rfl) (fun w hSw => by go_simp) hHeld ?_
        simp only [Act.put, List.setIfInBounds_toArray, List.set_cons_zero, List.set_cons_succ]
        refine wpAnyH_done (by kernel_rfl) ?_ _
        clear hHeld hw1 hw2 hw3
        have hsub : (i : Int) - 1 = (m : Int) := by omega
        obtain ⟨W1, hW1⟩ : ∃ W1, ((((((w2.setCell ⟨G, i * 7, none⟩ (.string ya)).setCell ⟨G, i * 7 + 1, none⟩ (.string yb)).setCell ⟨G, i * 7 + 2, none⟩ (.int .i64 yn)).setCell ⟨G, i * 7 + 3, none⟩ (.int .u64 yq)).setCell ⟨G, i * 7 + 4, none⟩ (.int .i64 yt)).setCell ⟨G, i * 7 + 5, none⟩ (.bool yl)).setCell ⟨G, i * 7 + 6, none⟩ (.slice yp yo.length yc) = W1 := ⟨_, rfl⟩
        have eW1 : setFrom w2 G (i * 7) 0 (encFd ⟨ya, yb, ⟨yn, yq, yt, yl, yp, yc, yo⟩⟩) = W1 := by rw [← hW1]; rfl
        have hR1 := HPUT2.out ⟨ya, yb, ⟨yn, yq, yt, yl, yp, yc, yo⟩⟩
        rw [eW1] at hR1
        have hM1 : W1.heap[M]? = some (.cells #[.string fa, .string fb, .int .i64 fn, .int .u64 fq, .int .i64 ft, .bool fl, .slice fp fo.length fc] 53 (0, 0)) := by rw [← eW1, block_setFrom hGM]; exact HM2.out
        have hfr1 : ∀ j, W1.frozen? ⟨G, j, none⟩ = false := fun j => Kind.own_free hR1.own j
        have hat1 := Kind.own_at hR1.own
        have hl1 : ((fs.take i ++ ⟨fa, fb, ⟨fn, fq, ft, fl, fp, fc, fo⟩⟩ :: fs.drop i).set i ⟨ya, yb, ⟨yn, yq, yt, yl, yp, yc, yo⟩⟩).length = fs.length + 1 := by
          rw [List.length_set, List.length_append, List.length_cons, List.length_take, List.length_drop]; omega
        have hc1 := kfd_at hat1 m (by omega)
        have em : ((fs.take i ++ ⟨fa, fb, ⟨fn, fq, ft, fl, fp, fc, fo⟩⟩ :: fs.drop i).set i ⟨ya, yb, ⟨yn, yq, yt, yl, yp, yc, yo⟩⟩)[m]'(by omega) = ((fs.take i ++ ⟨fa, fb, ⟨fn, fq, ft, fl, fp, fc, fo⟩⟩ :: fs.drop i).set i ⟨ya, yb, ⟨yn, yq, yt, yl, yp, yc, yo⟩⟩)[m]'(by omega) := rfl
        generalize ((fs.take i ++ ⟨fa, fb, ⟨fn, fq, ft, fl, fp, fc, fo⟩⟩ :: fs.drop i).set i ⟨ya, yb, ⟨yn, yq, yt, yl, yp, yc, yo⟩⟩)[m] = z at hc1
        obtain ⟨za, zb, ⟨zn, zq, zt, zl, zp, zc, zo⟩⟩ := z
        simp only [CellsF, CellsV, Vx.sl, Nat.zero_add] at hc1
        obtain ⟨z0, z1, z2, z3, z4, z5, z6⟩ := hc1
        have HPUT3 : Hid (RowSt KFd N W (.slice (some ⟨G, 0, none⟩) (fs.length + 1) c3) (fs.take m ++ ⟨fa, fb, ⟨fn, fq, ft, fl, fp, fc, fo⟩⟩ :: fs.drop m) (setFrom W1 G (m * 7) 0 (encFd ⟨fa, fb, ⟨fn, fq, ft, fl, fp, fc, fo⟩⟩))) := by
          have := hR1.put m (by omega) ⟨fa, fb, ⟨fn, fq, ft, fl, fp, fc, fo⟩⟩
          rw [HSH.out] at this
          exact this
        obtain ⟨b0, b1, b2, b3, b4, b5, b6⟩ := HBOX.out W1 hM1
        have HM1 := hid hM1
        obtain ⟨W2, hW2⟩ : ∃ W2, ((((((W1.setCell ⟨G, m * 7, none⟩ (.string fa)).setCell ⟨G, m * 7 + 1, none⟩ (.string fb)).setCell ⟨G, m * 7 + 2, none⟩ (.int .i64 fn)).setCell ⟨G, m * 7 + 3, none⟩ (.int .u64 fq)).setCell ⟨G, m * 7 + 4, none⟩ (.int .i64 ft)).setCell ⟨G, m * 7 + 5, none⟩ (.bool fl)).setCell ⟨G, m * 7 + 6, none⟩ (.slice fp fo.length fc) = W2 := ⟨_, rfl⟩
        have eW2 : setFrom W1 G (m * 7) 0 (encFd ⟨fa, fb, ⟨fn, fq, ft, fl, fp, fc, fo⟩⟩) = W2 := by rw [← hW2]; rfl
        rw [eW2] at HPUT3
        have HM4 : Hid (W2.heap[M]? = some (.cells #[.string fa, .string fb, .int .i64 fn, .int .u64 fq, .int .i64 ft, .bool fl, .slice fp fo.length fc] 53 (0, 0))) := by
          show _ = _
          rw [← eW2, block_setFrom hGM]
          exact hM1
        have hf0 := hfree2 (i * 7)
        have hfj := fun j => hfree2 (i * 7 + j)
        have hg0 := hfr1 (m * 7)
        have hgj := fun j => hfr1 (m * 7 + j)
        clear hR1 hat1 hl1 em eW1 eW2 hM1 HPUT2 HSH HS2 HM2
        go_upto_region 6 with fail
        try rw [hW1]
        clear hW1 r0 r1 r2 r3 r4 r5 r6 s0 s1 s2 s3 s4 s5 s6 n0' n1' n2' n3' n4' n5' n6' hf0 hfj hfree2
        go_upto_region 4 with fail
        try rw [hW2]
        clear hW2 z0 z1 z2 z3 z4 z5 z6 b0 b1 b2 b3 b4 b5 b6 hg0 hgj hfr1
        go_wp2_with fail
        go_roundg m
        case measure => omega
        exact ⟨m, rfl, by omega, by omega, HPUT3.out, HM4.out, HJ3.out⟩
    · have hd : decide ((0 : Int) < (i : Int)) = false := decide_eq_false (by omega)
      have HE := hid (place_done (f := ⟨fa, fb, ⟨fn, fq, ft, fl, fp, fc, fo⟩⟩) hi HS.out HRP.out (fun h => by omega) HJ.out)
      have HE2 : Hid (PlacePost N W fs ⟨fa, fb, ⟨fn, fq, ft, fl, fp, fc, fo⟩⟩ (.returned (.slice (some ⟨G, 0, none⟩) (fs.length + 1) c3)) wr.drew) := by
        obtain ⟨u, fs', e1, e2, e3⟩ := HE.out
        exact ⟨u, fs', e1, e2.on (bel_drewN (Below.refl _ _) 1), e3⟩
      clear HE HS HJ
      go_upto_region 3 with fail
      refine wp_region_held_drew (S := fun _ => True) (by kernel_rfl) trivial (fun hHeld => ?_)
      refine take_val (i := 0) (.int .i64 i) rfl (by kernel_rfl) (by kernel_rfl) (by kernel_rfl) (fun _ _ _ h => h) (by rfl) (fun w hSw => by go_simp) hHeld ?_
      simp only [Act.put, List.setIfInBounds_toArray, List.set_cons_zero, List.set_cons_succ]
      refine take_val (i := 1) (.bool false) rfl (by kernel_rfl) (by kernel_rfl) (by kernel_rfl) (fun _ _ _ h => h) (by rfl) (fun w hSw => by go_simp) hHeld ?_
      simp only [Act.put, List.setIfInBounds_toArray, List.set_cons_zero, List.set_cons_succ]
      refine take_val (i := 2) (.bool false) rfl (by kernel_rfl) (by kernel_rfl) (by kernel_rfl) (fun _ _ _ h => h) (by rfl) (fun w hSw => by go_simp) hHeld ?_
      simp only [Act.put, List.setIfInBounds_toArray, List.set_cons_zero, List.set_cons_succ]
      refine take_not (i := 3) rfl (by kernel_rfl) (by kernel_rfl) (by kernel_rfl) (fun _ _ _ h => h) (by rfl) hHeld ?_
      simp only [Act.put, List.setIfInBounds_toArray, List.set_cons_zero, List.set_cons_succ]
      refine take_not (i := 4) rfl (by kernel_rfl) (by kernel_rfl) (by kernel_rfl) (fun _ _ _ h => h) (by rfl) hHeld ?_
      simp only [Act.put, List.setIfInBounds_toArray, List.set_cons_zero, List.set_cons_succ]
      refine take_not (i := 5) rfl (by kernel_rfl) (by kernel_rfl) (by kernel_rfl) (fun _ _ _ h => h) (by rfl) hHeld ?_
      simp only [Act.put, List.setIfInBounds_toArray, List.set_cons_zero, List.set_cons_succ]
      refine take_not (i := 6) rfl (by kernel_rfl) (by kernel_rfl) (by kernel_rfl) (fun _ _ _ h => h) (by rfl) hHeld ?_
      simp only [Act.put, List.setIfInBounds_toArray, List.set_cons_zero, List.set_cons_succ]
      refine take_not (i := 7) rfl (by kernel_rfl) (by kernel_rfl) (by kernel_rfl) (fun _ _ _ h => h) (by rfl) hHeld ?_
      simp only [Act.put, List.setIfInBounds_toArray, List.set_cons_zero, List.set_cons_succ]
      refine take_not (i := 8) rfl (by kernel_rfl) (by kernel_rfl) (by kernel_rfl) (fun _ _ _ h => h) (by rfl) hHeld ?_
      simp only [Act.put, List.setIfInBounds_toArray, List.set_cons_zero, List.set_cons_succ]
      refine take_not (i := 9) rfl (by kernel_rfl) (by kernel_rfl) (by kernel_rfl) (fun _ _ _ h => h) (by rfl) hHeld ?_
      simp only [Act.put, List.setIfInBounds_toArray, List.set_cons_zero, List.set_cons_succ]
      refine take_not (i := 10) rfl (by kernel_rfl) (by kernel_rfl) (by kernel_rfl) (fun _ _ _ h => h) (by rfl) hHeld ?_
      simp only [Act.put, List.setIfInBounds_toArray, List.set_cons_zero, List.set_cons_succ]
      refine take_not (i := 11) rfl (by kernel_rfl) (by kernel_rfl) (by kernel_rfl) (fun _ _ _ h => h) (by rfl) hHeld ?_
      simp only [Act.put, List.setIfInBounds_toArray, List.set_cons_zero, List.set_cons_succ]
      refine take_val (i := 12) (.bool false) rfl (by kernel_rfl) (by kernel_rfl) (by kernel_rfl) (fun _ _ _ h => h) (by rfl) (fun w hSw => by go_simp) hHeld ?_
      simp only [Act.put, List.setIfInBounds_toArray, List.set_cons_zero, List.set_cons_succ]
      refine wpAnyH_done (by kernel_rfl) ?_ _
      clear hHeld
      go_wp2_with fail
      go_ret
      exact HE2.out

end Go.Proofs.YtjehjjpdicimhaaGreat

/-
  The contracts of the reference's class, Type, ID, Field and Temp.
-/
namespace Go.Proofs.YtjehjjpdicimhaaGreat
open Go.RowKit

set_option maxHeartbeats 1000000 in
theorem rtype_any (s : ByteArray) (w : World) (hs : s.size ≤ maxLen) :
    Calls Tryz.prog 56 #[.string s] w fun e w' => e = .returned (.bool (typeB s.data.toList)) ∧ w' = w := by
  unfold maxLen at hs
  have HE := hid (spell_empty bigB letB s)
  have HG := hid (spell_long bigB letB s)
  have HF := hid (spell_first bigB letB s)
  have HA := hid (spell_at bigB letB s)
  have HT := hid (spell_true bigB letB s)
  have HB : Hid (typeB s.data.toList = spell bigB letB s.data.toList) := rfl
  go_enter Tryz.func56, Tryz.ntmps56
  go_wp2
  go_loop [3] (fun i => ∃ k : Nat, k ≤ s.size ∧ i = .int .i64 k ∧ (∀ j, j < k → (hj : j < s.size) → (j = 0 → bigB (s[j].toNat : Int) = true) ∧ (1 ≤ j → letB (s[j].toNat : Int) = true))) (fun i => s.size - (intOf i).toNat)
  case atStart => exact ⟨0, by omega, rfl, fun j h => by omega⟩
  case round =>
    obtain ⟨k, hk, rfl, hall⟩ := hrel
    have HL := hid hall
    clear hall
    by_cases hlt : k < s.size
    · rcases Nat.eq_zero_or_pos k with h0 | h0
      · have HZ := hid h0
        have hz : ((k : Int) == 0) = true := by rw [h0]; rfl
        clear h0
        rcases cls_cases (s[k].toNat : Int) with h | h | h | h | h
        all_goals
          have HC := hid h
          clear h
          go_wp2_with (go_at_call 75; refine (class_any _ _).mono ?_; rintro e w' ⟨rfl, rfl⟩; rw [HC.out.1])
          first
          | (go_ret; exact ⟨ret_bool (by rw [HB.out]; have hz' := HZ.out; subst hz'; exact (HF.out hlt (by first | exact HC.out.2.1 | exact HC.out.2.2.1 | exact HC.out.2.2.2.2.1 | exact HC.out.2.2.2.2.2)).symm), rfl⟩)
          | (go_round
             case rel =>
               refine ⟨k + 1, by omega, by go_num, fun j h1 hj => ?_⟩
               have hz' := HZ.out
               have hj0 : j = k := by omega
               subst hj0
               exact ⟨fun _ => (by first | exact HC.out.2.1 | exact HC.out.2.2.1 | exact HC.out.2.2.2.2.1 | exact HC.out.2.2.2.2.2), fun _ => by omega⟩
             case measure => simp [intOf]; omega)
      · have HZ := hid h0
        have hz : ((k : Int) == 0) = false := by rw [beq_eq_false_iff_ne]; omega
        clear h0
        rcases cls_cases (s[k].toNat : Int) with h | h | h | h | h
        all_goals
          have HC := hid h
          clear h
          go_wp2_with (go_at_call 75; refine (class_any _ _).mono ?_; rintro e w' ⟨rfl, rfl⟩; rw [HC.out.1])
          first
          | (go_ret; exact ⟨ret_bool (by rw [HB.out]; exact (HA.out k HZ.out hlt (by first | exact HC.out.2.2.2.1 | exact HC.out.2.2.2.2.1 | exact HC.out.2.2.2.2.2)).symm), rfl⟩)
          | (go_round
             case rel =>
               refine ⟨k + 1, by omega, by go_num, fun j h1 hj => ?_⟩
               by_cases hjk : j = k
               · subst hjk
                 exact ⟨fun e => by have := HZ.out; omega, fun _ => (by first | exact HC.out.2.2.2.1 | exact HC.out.2.2.2.2.1 | exact HC.out.2.2.2.2.2)⟩
               · exact HL.out j (by omega) hj
             case measure => simp [intOf]; omega)
    · have hks : k = s.size := by omega
      rcases Nat.eq_zero_or_pos s.size with hz | hz
      · have hn : ¬ (0 : Int) < (s.size : Int) := by omega
        have HZ := hid hz
        clear hz hks
        go_wp2_with fail
        go_ret
        exact ⟨ret_bool (by rw [HB.out]; exact (HE.out HZ.out).symm), rfl⟩
      · have hn : (0 : Int) < (s.size : Int) := by omega
        by_cases hm : s.size ≤ 32
        · have hm' : (s.size : Int) ≤ 32 := by omega
          have HK := hid hks
          clear hks
          go_wp2_with fail
          go_ret
          refine ⟨ret_bool (by rw [HB.out]; exact (HT.out hz hm ((HL.out 0 (by have := HK.out; omega) hz).1 rfl) (fun j h1 hj => (HL.out j (by have := HK.out; omega) hj).2 h1)).symm), rfl⟩
        · have hm' : ¬ (s.size : Int) ≤ 32 := by omega
          clear hks
          go_wp2_with fail
          go_ret
          exact ⟨ret_bool (by rw [HB.out]; exact (HG.out (by omega)).symm), rfl⟩

set_option maxHeartbeats 1000000 in
theorem riden_any (s : ByteArray) (w : World) (hs : s.size ≤ maxLen) :
    Calls Tryz.prog 57 #[.string s] w fun e w' => e = .returned (.bool (idenB s.data.toList)) ∧ w' = w := by
  unfold maxLen at hs
  have HE := hid (spell_empty idB idB s)
  have HG := hid (spell_long idB idB s)
  have HF := hid (spell_first idB idB s)
  have HA := hid (spell_at idB idB s)
  have HT := hid (spell_true idB idB s)
  have HB : Hid (idenB s.data.toList = spell idB idB s.data.toList) := rfl
  go_enter Tryz.func57, Tryz.ntmps57
  go_wp2
  go_loop [3] (fun i => ∃ k : Nat, k ≤ s.size ∧ i = .int .i64 k ∧ (∀ j, j < k → (hj : j < s.size) → (j = 0 → idB (s[j].toNat : Int) = true) ∧ (1 ≤ j → idB (s[j].toNat : Int) = true))) (fun i => s.size - (intOf i).toNat)
  case atStart => exact ⟨0, by omega, rfl, fun j h => by omega⟩
  case round =>
    obtain ⟨k, hk, rfl, hall⟩ := hrel
    have HL := hid hall
    clear hall
    by_cases hlt : k < s.size
    · rcases Nat.eq_zero_or_pos k with h0 | h0
      · have HZ := hid h0
        have hz : ((k : Int) == 0) = true := by rw [h0]; rfl
        clear h0
        rcases cls_cases (s[k].toNat : Int) with h | h | h | h | h
        all_goals
          have HC := hid h
          clear h
          go_wp2_with (go_at_call 75; refine (class_any _ _).mono ?_; rintro e w' ⟨rfl, rfl⟩; rw [HC.out.1])
          first
          | (go_ret; exact ⟨ret_bool (by rw [HB.out]; have hz' := HZ.out; subst hz'; exact (HF.out hlt (by first | exact HC.out.2.1 | exact HC.out.2.2.1 | exact HC.out.2.2.2.2.1 | exact HC.out.2.2.2.2.2)).symm), rfl⟩)
          | (go_round
             case rel =>
               refine ⟨k + 1, by omega, by go_num, fun j h1 hj => ?_⟩
               have hz' := HZ.out
               have hj0 : j = k := by omega
               subst hj0
               exact ⟨fun _ => (by first | exact HC.out.2.1 | exact HC.out.2.2.1 | exact HC.out.2.2.2.2.1 | exact HC.out.2.2.2.2.2), fun _ => by omega⟩
             case measure => simp [intOf]; omega)
      · have HZ := hid h0
        have hz : ((k : Int) == 0) = false := by rw [beq_eq_false_iff_ne]; omega
        clear h0
        rcases cls_cases (s[k].toNat : Int) with h | h | h | h | h
        all_goals
          have HC := hid h
          clear h
          go_wp2_with (go_at_call 75; refine (class_any _ _).mono ?_; rintro e w' ⟨rfl, rfl⟩; rw [HC.out.1])
          first
          | (go_ret; exact ⟨ret_bool (by rw [HB.out]; exact (HA.out k HZ.out hlt (by first | exact HC.out.2.2.2.1 | exact HC.out.2.2.2.2.1 | exact HC.out.2.2.2.2.2)).symm), rfl⟩)
          | (go_round
             case rel =>
               refine ⟨k + 1, by omega, by go_num, fun j h1 hj => ?_⟩
               by_cases hjk : j = k
               · subst hjk
                 exact ⟨fun e => by have := HZ.out; omega, fun _ => (by first | exact HC.out.2.2.2.1 | exact HC.out.2.2.2.2.1 | exact HC.out.2.2.2.2.2)⟩
               · exact HL.out j (by omega) hj
             case measure => simp [intOf]; omega)
    · have hks : k = s.size := by omega
      rcases Nat.eq_zero_or_pos s.size with hz | hz
      · have hn : ¬ (0 : Int) < (s.size : Int) := by omega
        have HZ := hid hz
        clear hz hks
        go_wp2_with fail
        go_ret
        exact ⟨ret_bool (by rw [HB.out]; exact (HE.out HZ.out).symm), rfl⟩
      · have hn : (0 : Int) < (s.size : Int) := by omega
        by_cases hm : s.size ≤ 32
        · have hm' : (s.size : Int) ≤ 32 := by omega
          have HK := hid hks
          clear hks
          go_wp2_with fail
          go_ret
          refine ⟨ret_bool (by rw [HB.out]; exact (HT.out hz hm ((HL.out 0 (by have := HK.out; omega) hz).1 rfl) (fun j h1 hj => (HL.out j (by have := HK.out; omega) hj).2 h1)).symm), rfl⟩
        · have hm' : ¬ (s.size : Int) ≤ 32 := by omega
          clear hks
          go_wp2_with fail
          go_ret
          exact ⟨ret_bool (by rw [HB.out]; exact (HG.out (by omega)).symm), rfl⟩

end Go.Proofs.YtjehjjpdicimhaaGreat

/-
  The contracts of the reference's Key and Print.
-/
namespace Go.Proofs.YtjehjjpdicimhaaGreat
open Go.RowKit

set_option maxHeartbeats 400000 in
theorem rkey_any (a b : ByteArray) (w : World) (ha : a.size ≤ maxLen) (hb : b.size ≤ maxLen) :
    Calls Tryz.prog 34 #[.agg #[.string a, .string b]] w fun e w' => e = .returned (.bool (keyB a b)) ∧ Below w.heap.size w w' := by
  have HK : Hid (keyB a b = (typeB a.data.toList && idenB b.data.toList)) := rfl
  cases ht : typeB a.data.toList
  all_goals
    go_enter Tryz.func34, Tryz.ntmps34
    go_wp2_with (first | (go_at_call 56; refine (rtype_any _ _ ha).mono ?_; rintro e w' ⟨rfl, rfl⟩) | (go_at_call 57; refine (riden_any _ _ hb).mono ?_; rintro e w' ⟨rfl, rfl⟩))
    go_ret
    exact ⟨ret_bool (by rw [HK.out, ht]; rfl), (Below.refl _ _).alloc (Nat.le_refl _) _⟩

end Go.Proofs.YtjehjjpdicimhaaGreat

/-
  The contract of the reference's May.
-/
namespace Go.Proofs.YtjehjjpdicimhaaGreat
open Go.RowKit

theorem step_of {fs : List Fld} {i : Nat} {f : Fld} (h : fs.getD i default = f) (h1 : fieldB f.1.data.toList = true) (h2 : 0 < f.2.length) (h3 : f.2.length ≤ 8) (h4 : ∀ t ∈ f.2, t.size ≤ 128) (h5 : i = 0 ∨ ltN (fs.getD (i - 1) default).1 f.1 = true) : stepOk fs i = true := by
  unfold stepOk fitsB
  rw [h, h1, decide_eq_true h3]
  have e1 : f.2.isEmpty = false := by
    cases hf : f.2 with
    | nil => rw [hf] at h2; simp at h2
    | cons _ _ => rfl
  have e2 : f.2.any longB = false := by
    rw [List.any_eq_false]
    intro t ht
    have := h4 t ht
    unfold longB
    simpa using this
  rw [e1, e2]
  rcases h5 with h5 | h5
  · rw [decide_eq_true h5]; rfl
  · rw [h5]; simp

theorem step_not {fs : List Fld} {i : Nat} {f : Fld} (h : fs.getD i default = f) (hn : fieldB f.1.data.toList = false ∨ f.2.length = 0 ∨ 8 < f.2.length ∨ (∃ t ∈ f.2, 128 < t.size) ∨ (i ≠ 0 ∧ ltN (fs.getD (i - 1) default).1 f.1 = false)) : stepOk fs i = false := by
  unfold stepOk fitsB
  rw [h]
  rcases hn with hn | hn | hn | ⟨t, ht, hn⟩ | ⟨hn, hm⟩
  · rw [hn]; rfl
  · rw [List.length_eq_zero_iff] at hn
    rw [hn]; simp
  · rw [decide_eq_false (by omega)]; simp
  · have : f.2.any longB = true := by
      rw [List.any_eq_true]
      exact ⟨t, ht, by unfold longB; simpa using hn⟩
    rw [this]; simp
  · rw [decide_eq_false hn, hm]; simp

set_option maxHeartbeats 1000000 in
set_option maxRecDepth 100000 in
theorem rmay_any (v : Value) (d : List Fx) (w : World) (hv : IsXs w v d) (hf : FitX d) : Calls Tryz.prog 35 #[v] w fun e w' => e = .returned (.bool (mayB (d.map Fx.fld))) ∧ Grown w w' := by
  obtain ⟨p, cap, rfl, hd, ht⟩ := hv
  have HT := hid ht
  have HF := hid hf.2
  have hl := hf.1
  unfold maxLen at hl
  have HD := hid hd
  clear ht hf hd
  obtain ⟨r, hr⟩ : ∃ r, mayB (d.map Fx.fld) = r := ⟨_, rfl⟩
  rw [hr]
  have HR := hid hr
  clear hr
  go_enter Tryz.func35, Tryz.ntmps35
  go_wp2_with fail
  go_loopg [3] d.length (fun g vi wr => ∃ i : Nat, vi = .int .i64 i ∧ i ≤ d.length ∧ i ≤ 16 ∧ d.length - i ≤ g ∧ Grown w wr ∧ Hid (∀ j, j < i → stepOk (d.map Fx.fld) j = true))
  case atStart => exact ⟨0, rfl, by omega, by omega, by omega, Grown.refl _, fun j h => by omega⟩
  case round =>
    obtain ⟨i, rfl, hi, hi16, hg, hb, HJ⟩ := hrel
    by_cases hlt : i < d.length
    · have hltz : (i : Int) < (d.length : Int) := by omega
      have hiz : (0 : Int) ≤ i := by omega
      obtain ⟨b, off, rfl, hxs⟩ : ∃ b off, p = some ⟨b, off, none⟩ ∧ XsAt w b off d := by
        rcases HD.out with h | h
        · subst h; simp at hlt
        · exact h
      have hxr := hxs.kept hb.below
      obtain ⟨c0, c1⟩ := hxr i hlt
      have hxi : (d[i]).at wr := (HT.out _ (List.getElem_mem hlt)).kept hb.below
      have hfi := HF.out _ (List.getElem_mem hlt)
      have hsx := flds_at hlt
      obtain ⟨x, hx⟩ : ∃ x, d[i] = x := ⟨_, rfl⟩
      rw [hx] at c0 c1 hxi hfi hsx
      have HXR := hid hxr
      have HXI := hid hxi
      have hns : x.name.size ≤ maxLen := hfi.1
      have htl : x.txt.length ≤ maxLen := hfi.2.1
      unfold maxLen at htl
      have HNS := hid hns
      have HFI := hid hfi
      have HSX := hid hsx
      clear hxr hxs hxi hfi hx hsx hns
      unfold Fx.sl at c1
      have mixed := Tryz.mixed
      have HFX : Hid (∀ W, Calls Tryz.prog 58 #[.string x.name] W fun e w' => e = .returned (.bool (fieldB x.name.data.toList)) ∧ w' = W) := fun W => rfield_any x.name W HNS.out
      by_cases h16 : i = 16
      · subst h16
        have H0 : Hid (r = false) := HR.out.symm.trans (may_long (by rw [List.length_map]; omega))
        go_wp2_with fail
        go_quiet (fail)
        go_wp2_with fail
        go_ret
        exact ⟨ret_bool H0.out.symm, (hb.alloc _).drewN _⟩
      have h16z : decide ((16 : Int) ≤ (i : Int)) = false := decide_eq_false (by omega)
      cases hfx : fieldB x.name.data.toList with
      | false =>
        rw [hfx] at HFX
        have H0 : Hid (r = false) := HR.out.symm.trans (may_no (i := i) (by rw [List.length_map]; exact hlt) (step_not HSX.out (Or.inl hfx)))
        go_wp2_with fail
        refine wp_region_quiet_lit mixed (by kernel_rfl) ?_
        repeat (go_big_quiet_step (first | (go_at_call 58; refine Calls.quiet_of_same (HFX.out _))))
        refine wpQuiet_nil ?_
        intro _ hw'
        obtain ⟨nq, hw''⟩ := hw'
        subst hw''
        go_wp2_with fail
        go_ret
        exact ⟨ret_bool H0.out.symm, (hb.alloc _).drewN _⟩
      | true =>
        rw [hfx] at HFX
        by_cases h0 : i = 0
        · have h0z : decide ((0 : Int) < (i : Int)) = false := decide_eq_false (by omega)
          have h0y : decide (0 < i) = false := decide_eq_false (by omega)
          have H00 := hid h0
          clear h0
          by_cases ht0 : x.txt.length = 0
          · have ht0z : (x.txt.length : Int) = 0 := by omega
            have H0 : Hid (r = false) := HR.out.symm.trans (may_no (i := i) (by rw [List.length_map]; exact hlt) (step_not HSX.out (Or.inr (Or.inl ht0))))
            go_wp2_with fail
            refine wp_region_quiet_lit mixed (by kernel_rfl) ?_
            repeat (go_big_quiet_step (first | (go_at_call 58; refine Calls.quiet_of_same (HFX.out _))))
            refine wpQuiet_nil ?_
            intro _ hw'
            obtain ⟨nq, hw''⟩ := hw'
            subst hw''
            go_wp2_with fail
            go_ret
            exact ⟨ret_bool H0.out.symm, (hb.alloc _).drewN _⟩
          have ht0z : ¬ (x.txt.length : Int) = 0 := by omega
          have ht0d : ((x.txt.length : Int) == 0) = false := beq_eq_false_iff_ne.2 ht0z
          by_cases ht8 : 8 < x.txt.length
          · have ht8z : (8 : Int) < (x.txt.length : Int) := by omega
            have H0 : Hid (r = false) := HR.out.symm.trans (may_no (i := i) (by rw [List.length_map]; exact hlt) (step_not HSX.out (Or.inr (Or.inr (Or.inl ht8)))))
            go_wp2_with fail
            refine wp_region_quiet_lit mixed (by kernel_rfl) ?_
            repeat (go_big_quiet_step (first | (go_at_call 58; refine Calls.quiet_of_same (HFX.out _))))
            refine wpQuiet_nil ?_
            intro _ hw'
            obtain ⟨nq, hw''⟩ := hw'
            subst hw''
            go_wp2_with fail
            go_ret
            exact ⟨ret_bool H0.out.symm, (hb.alloc _).drewN _⟩
          have ht8z : decide ((8 : Int) < (x.txt.length : Int)) = false := decide_eq_false (by omega)
          have HST : Hid ((∀ t ∈ x.txt, t.size ≤ 128) → stepOk (d.map Fx.fld) (i) = true) := fun h => step_of HSX.out hfx (by show 0 < x.txt.length; omega) (by show x.txt.length ≤ 8; omega) h (Or.inl H00.out)
          obtain ⟨bt, ot, hpt, hct0⟩ : ∃ bt ot, x.p = some ⟨bt, ot, none⟩ ∧ ∀ l, (h : l < x.txt.length) → wr.cell? ⟨bt, ot + l, none⟩ = some (.string x.txt[l]) := by
            rcases HXI.out with h | h
            · exact absurd (by rw [h]; rfl) ht0
            · exact h
          have HCT0 := hid hct0
          rw [hpt] at c1
          clear hpt hct0
          go_wp2_with fail
          refine wp_region_quiet_lit mixed (by kernel_rfl) ?_
          repeat (go_big_quiet_step (first | (go_at_call 58; refine Calls.quiet_of_same (HFX.out _))))
          refine wpQuiet_nil ?_
          intro _ hw'
          obtain ⟨nq, hw''⟩ := hw'
          subst hw''
          go_wp2_with fail
          obtain ⟨W2, hW2⟩ : ∃ W2, (wr.alloc (.cells #[.string x.name, .slice (some ⟨bt, ot, none⟩) x.txt.length x.cap] 63)).drewN nq = W2 := ⟨_, rfl⟩
          have hgW : Grown wr W2 := by rw [← hW2]; exact ((Grown.refl wr).alloc _).drewN _
          have q1 : W2.cell? ⟨wr.heap.size, 1, none⟩ = some (.slice (some ⟨bt, ot, none⟩) x.txt.length x.cap) := by rw [← hW2]; exact (x_new wr ⟨x.name, some ⟨bt, ot, none⟩, x.cap, x.txt⟩ (wr.alloc _) (Below.refl _ _)).2
          have hat : ∀ l, (h : l < x.txt.length) → W2.cell? ⟨bt, ot + l, none⟩ = some (.string x.txt[l]) := fun l h => (hgW.below.cell (p := ⟨bt, ot + l, none⟩) (cell_block (HCT0.out l h))).trans (HCT0.out l h)
          have HGW := hid hgW
          have HAT := hid hat
          rw [hW2]
          clear hgW hat hW2
          go_loopg [5] x.txt.length (fun g vj W => ∃ j : Nat, vj = .int .i64 j ∧ j ≤ x.txt.length ∧ x.txt.length - j ≤ g ∧ W = W2 ∧ Hid (∀ l (h : l < x.txt.length), l < j → (x.txt[l]).size ≤ 128))
          case atStart => exact ⟨0, rfl, by omega, by omega, rfl, fun l _ h => by omega⟩
          case round =>
            obtain ⟨j, rfl, hj, hgj, rfl, HL⟩ := hrel
            by_cases hjl : j < x.txt.length
            · have hjz : (j : Int) < (x.txt.length : Int) := by omega
              have hj0 : (0 : Int) ≤ (j : Int) := by omega
              have ctj := HAT.out j hjl
              obtain ⟨t, htt⟩ : ∃ t, x.txt[j] = t := ⟨_, rfl⟩
              have HTT := hid htt
              rw [htt] at ctj
              clear htt
              by_cases hts : 128 < t.size
              · have htsz : (128 : Int) < (t.size : Int) := by omega
                have H0 : Hid (r = false) := HR.out.symm.trans (may_no (i := i) (by rw [List.length_map]; exact hlt) (step_not HSX.out (Or.inr (Or.inr (Or.inr (Or.inl ⟨t, by rw [← HTT.out]; exact List.getElem_mem hjl, hts⟩))))))
                go_wp2_with fail
                go_ret
                exact ⟨ret_bool H0.out.symm, hb.trans HGW.out⟩
              · have htsz : ¬ (128 : Int) < (t.size : Int) := by omega
                go_wp2_with fail
                go_roundg (x.txt.length - (j + 1))
                case measure => omega
                refine ⟨j + 1, by go_num, by omega, by omega, rfl, fun l hl hlj => ?_⟩
                by_cases e : l = j
                · subst e; rw [HTT.out]; omega
                · exact HL.out l hl (by omega)
            · have hjz : ¬ (j : Int) < (x.txt.length : Int) := by omega
              have H1 := hid (HST.out fun t ht => by
                obtain ⟨l, hl, rfl⟩ := List.mem_iff_getElem.1 ht
                exact HL.out l hl (by omega))
              go_wp2_with fail
              go_roundg (d.length - (i + 1))
              case measure => omega
              refine ⟨i + 1, by go_num, by omega, by omega, by omega, hb.trans HGW.out, fun l hl => ?_⟩
              by_cases e : l = i
              · subst e; exact H1.out
              · exact HJ.out l (by omega)
        · obtain ⟨k, rfl⟩ : ∃ k, i = k + 1 := ⟨i - 1, by omega⟩
          obtain ⟨e0, _⟩ := HXR.out k (by omega)
          have hsy := flds_at (d := d) (i := k) (by omega)
          obtain ⟨y, hy⟩ : ∃ y, d[k] = y := ⟨_, rfl⟩
          rw [hy] at e0 hsy
          have HSY := hid hsy
          clear hy hsy
          have k1 : (0 : Int) < (k : Int) + 1 := by omega
          have hltk : (k : Int) + 1 < (d.length : Int) := by omega
          have h16y : decide ((16 : Int) ≤ (k : Int) + 1) = false := decide_eq_false (by omega)
          have k2 : (0 : Int) ≤ (k : Int) := by omega
          have k3 : (k : Int) < (d.length : Int) := by omega
          have e1 : ∀ o, (wr.alloc o).cell? ⟨b, off + k * 2, none⟩ = some (.string y.name) := fun o => by
            rw [← e0]; exact ((Below.refl wr.heap.size wr).alloc (Nat.le_refl _) _).cell (p := ⟨b, off + k * 2, none⟩) (cell_block e0)
          cases hlt2 : Op.bytesLess y.name.toList x.name.toList with
          | false =>
            have H0 : Hid (r = false) := HR.out.symm.trans (may_no (i := k + 1) (by rw [List.length_map]; exact hlt) (step_not HSX.out (Or.inr (Or.inr (Or.inr (Or.inr ⟨by omega, by rw [Nat.add_sub_cancel, HSY.out]; exact hlt2⟩))))))
            go_wp2_with fail
            refine wp_region_quiet_lit mixed (by kernel_rfl) ?_
            repeat (go_big_quiet_step (first | (go_at_call 58; refine Calls.quiet_of_same (HFX.out _))))
            refine wpQuiet_nil ?_
            intro _ hw'
            obtain ⟨nq, hw''⟩ := hw'
            subst hw''
            go_wp2_with fail
            go_ret
            exact ⟨ret_bool H0.out.symm, (hb.alloc _).drewN _⟩
          | true =>
            by_cases ht0 : x.txt.length = 0
            · have ht0z : (x.txt.length : Int) = 0 := by omega
              have H0 : Hid (r = false) := HR.out.symm.trans (may_no (i := k + 1) (by rw [List.length_map]; exact hlt) (step_not HSX.out (Or.inr (Or.inl ht0))))
              go_wp2_with fail
              refine wp_region_quiet_lit mixed (by kernel_rfl) ?_
              repeat (go_big_quiet_step (first | (go_at_call 58; refine Calls.quiet_of_same (HFX.out _))))
              refine wpQuiet_nil ?_
              intro _ hw'
              obtain ⟨nq, hw''⟩ := hw'
              subst hw''
              go_wp2_with fail
              go_ret
              exact ⟨ret_bool H0.out.symm, (hb.alloc _).drewN _⟩
            have ht0z : ¬ (x.txt.length : Int) = 0 := by omega
            have ht0d : ((x.txt.length : Int) == 0) = false := beq_eq_false_iff_ne.2 ht0z
            by_cases ht8 : 8 < x.txt.length
            · have ht8z : (8 : Int) < (x.txt.length : Int) := by omega
              have H0 : Hid (r = false) := HR.out.symm.trans (may_no (i := k + 1) (by rw [List.length_map]; exact hlt) (step_not HSX.out (Or.inr (Or.inr (Or.inl ht8)))))
              go_wp2_with fail
              refine wp_region_quiet_lit mixed (by kernel_rfl) ?_
              repeat (go_big_quiet_step (first | (go_at_call 58; refine Calls.quiet_of_same (HFX.out _))))
              refine wpQuiet_nil ?_
              intro _ hw'
              obtain ⟨nq, hw''⟩ := hw'
              subst hw''
              go_wp2_with fail
              go_ret
              exact ⟨ret_bool H0.out.symm, (hb.alloc _).drewN _⟩
            have ht8z : decide ((8 : Int) < (x.txt.length : Int)) = false := decide_eq_false (by omega)
            have HST : Hid ((∀ t ∈ x.txt, t.size ≤ 128) → stepOk (d.map Fx.fld) (k + 1) = true) := fun h => step_of HSX.out hfx (by show 0 < x.txt.length; omega) (by show x.txt.length ≤ 8; omega) h (Or.inr (by rw [Nat.add_sub_cancel, HSY.out]; exact hlt2))
            obtain ⟨bt, ot, hpt, hct0⟩ : ∃ bt ot, x.p = some ⟨bt, ot, none⟩ ∧ ∀ l, (h : l < x.txt.length) → wr.cell? ⟨bt, ot + l, none⟩ = some (.string x.txt[l]) := by
              rcases HXI.out with h | h
              · exact absurd (by rw [h]; rfl) ht0
              · exact h
            have HCT0 := hid hct0
            rw [hpt] at c1
            clear hpt hct0
            go_wp2_with fail
            refine wp_region_quiet_lit mixed (by kernel_rfl) ?_
            repeat (go_big_quiet_step (first | (go_at_call 58; refine Calls.quiet_of_same (HFX.out _))))
            refine wpQuiet_nil ?_
            intro _ hw'
            obtain ⟨nq, hw''⟩ := hw'
            subst hw''
            go_wp2_with fail
            obtain ⟨W2, hW2⟩ : ∃ W2, (wr.alloc (.cells #[.string x.name, .slice (some ⟨bt, ot, none⟩) x.txt.length x.cap] 63)).drewN nq = W2 := ⟨_, rfl⟩
            have hgW : Grown wr W2 := by rw [← hW2]; exact ((Grown.refl wr).alloc _).drewN _
            have q1 : W2.cell? ⟨wr.heap.size, 1, none⟩ = some (.slice (some ⟨bt, ot, none⟩) x.txt.length x.cap) := by rw [← hW2]; exact (x_new wr ⟨x.name, some ⟨bt, ot, none⟩, x.cap, x.txt⟩ (wr.alloc _) (Below.refl _ _)).2
            have hat : ∀ l, (h : l < x.txt.length) → W2.cell? ⟨bt, ot + l, none⟩ = some (.string x.txt[l]) := fun l h => (hgW.below.cell (p := ⟨bt, ot + l, none⟩) (cell_block (HCT0.out l h))).trans (HCT0.out l h)
            have HGW := hid hgW
            have HAT := hid hat
            rw [hW2]
            clear hgW hat hW2
            go_loopg [5] x.txt.length (fun g vj W => ∃ j : Nat, vj = .int .i64 j ∧ j ≤ x.txt.length ∧ x.txt.length - j ≤ g ∧ W = W2 ∧ Hid (∀ l (h : l < x.txt.length), l < j → (x.txt[l]).size ≤ 128))
            case atStart => exact ⟨0, rfl, by omega, by omega, rfl, fun l _ h => by omega⟩
            case round =>
              obtain ⟨j, rfl, hj, hgj, rfl, HL⟩ := hrel
              by_cases hjl : j < x.txt.length
              · have hjz : (j : Int) < (x.txt.length : Int) := by omega
                have hj0 : (0 : Int) ≤ (j : Int) := by omega
                have ctj := HAT.out j hjl
                obtain ⟨t, htt⟩ : ∃ t, x.txt[j] = t := ⟨_, rfl⟩
                have HTT := hid htt
                rw [htt] at ctj
                clear htt
                by_cases hts : 128 < t.size
                · have htsz : (128 : Int) < (t.size : Int) := by omega
                  have H0 : Hid (r = false) := HR.out.symm.trans (may_no (i := k + 1) (by rw [List.length_map]; exact hlt) (step_not HSX.out (Or.inr (Or.inr (Or.inr (Or.inl ⟨t, by rw [← HTT.out]; exact List.getElem_mem hjl, hts⟩))))))
                  go_wp2_with fail
                  go_ret
                  exact ⟨ret_bool H0.out.symm, hb.trans HGW.out⟩
                · have htsz : ¬ (128 : Int) < (t.size : Int) := by omega
                  go_wp2_with fail
                  go_roundg (x.txt.length - (j + 1))
                  case measure => omega
                  refine ⟨j + 1, by go_num, by omega, by omega, rfl, fun l hl hlj => ?_⟩
                  by_cases e : l = j
                  · subst e; rw [HTT.out]; omega
                  · exact HL.out l hl (by omega)
              · have hjz : ¬ (j : Int) < (x.txt.length : Int) := by omega
                have H1 := hid (HST.out fun t ht => by
                  obtain ⟨l, hl, rfl⟩ := List.mem_iff_getElem.1 ht
                  exact HL.out l hl (by omega))
                go_wp2_with fail
                go_roundg (d.length - (k + 1 + 1))
                case measure => omega
                refine ⟨k + 1 + 1, by go_num, by omega, by omega, by omega, hb.trans HGW.out, fun l hl => ?_⟩
                by_cases e : l = k + 1
                · subst e; exact H1.out
                · exact HJ.out l (by omega)
    · have hltz : ¬ (i : Int) < (d.length : Int) := by omega
      have H0 : Hid (r = true) := HR.out.symm.trans (may_yes (by rw [List.length_map]; omega) (fun j hj => HJ.out j (by rw [List.length_map] at hj; omega)))
      go_wp2_with fail
      go_ret
      exact ⟨ret_bool H0.out.symm, hb⟩

end Go.Proofs.YtjehjjpdicimhaaGreat

/-
  The reference's set of writes (stage 11): Put, Delete, Get, Keys.
-/
namespace Go.Proofs.YtjehjjpdicimhaaGreat
open Go.RowKit

theorem RTurnW.same {n0 : Nat} {W w' : World} {g : Nat} {d : List Wx} {vs : Value} (h : RefW n0 W g d vs) (hb : Below W.heap.size W w') : RTurnW n0 W g d vs (d.map Wx.row) w' :=
  ⟨d, vs, h.on hb, rfl, Fr.of_below hb, fun _ hk => Or.inl hk⟩

set_option maxHeartbeats 4000000 in
set_option maxRecDepth 100000 in
theorem deleteW_any {n0 : Nat} {W : World} {g : Nat} {d : List Wx} {vs : Value} (hR : RefW n0 W g d vs) (hn : n0 ≤ W.heap.size) (hl : d.length < 2000000000000) (k : Ky) (hk : k.1.size ≤ maxLen ∧ k.2.size ≤ maxLen) :
    Calls Tryz.prog 24 #[.pointer (some ⟨g, 0, none⟩), .agg #[.string k.1, .string k.2]] W fun e w' => e = .returned (.int .i64 (codeDW k)) ∧ RTurnW n0 W g d vs (dltW (d.map Wx.row) k) w' := by
  obtain ⟨ka, kb⟩ := k
  obtain ⟨N, hN⟩ : ∃ N, W.heap.size = N := ⟨_, rfl⟩
  obtain ⟨V, hV⟩ : ∃ V, W.alloc (.cells #[.string ka, .string kb] 31) = V := ⟨_, rfl⟩
  have hbV : Below W.heap.size W V := by rw [← hV]; exact (Below.refl _ _).alloc (Nat.le_refl _) _
  have hsV := hbV.size
  have hobj : V.heap[N]? = some (.cells #[.string ka, .string kb] 31 (0, 0)) := by rw [← hV, ← hN]; exact heap_alloc_new W _
  have HKC := hid (rkey_any ka kb V hk.1 hk.2)
  have HBOX : Hid (∀ w : World, Below V.heap.size V w → w.cell? ⟨N, 0, none⟩ = some (.string ka) ∧ w.cell? ⟨N, 1, none⟩ = some (.string kb)) := fun w hw => by
    have := (hw.block N (Array.getElem?_eq_some_iff.1 hobj).1).trans hobj
    exact ⟨by rw [Lib.cell_of_heap this]; rfl, by rw [Lib.cell_of_heap this]; rfl⟩
  obtain ⟨m0, m1⟩ := HBOX.out V (Below.refl _ _)
  have HR := hid hR
  have HBV := hid hbV
  have HLAY : Hid (keyB ka kb = true → ∀ w, Below W.heap.size W w → Calls Tryz.prog 36 #[.pointer (some ⟨g, 0, none⟩), .agg #[.string ka, .string kb, .bool false, .slice none 0 0]] w fun e w' => e = .returned (.tuple #[]) ∧ RTurnW n0 W g d vs (layW (d.map Wx.row) (ka, kb) none) w') := fun hkb w hw => by
    have h1 := hR.on hw
    have hs := hw.size
    refine (layW_any h1 (by omega) hl ⟨ka, kb, false, none, 0, []⟩ (own_noneX _ _) ?_ (fun _ => rfl) hkb (fun h => by cases h)).mono ?_
    · rintro (h | ⟨f, hf, _⟩)
      · cases h
      · simp at hf
    · rintro e w' ⟨he, d', vs', t1, t2, t3, t4⟩
      refine ⟨he, d', vs', t1, t2, Fr.then (Fr.of_below hw) t3 fun k hk => Or.inl hk, fun k hk => ?_⟩
      rcases t4 k hk with h | (h | ⟨f, hf, _⟩) | h
      · exact Or.inl h
      · cases h
      · simp at hf
      · exact Or.inr (by omega)
  clear hR hbV hobj hk
  cases hkb : keyB ka kb with
  | false =>
    rw [hkb] at HKC
    have HC : Hid (codeDW (ka, kb) = 2 ∧ dltW (d.map Wx.row) (ka, kb) = d.map Wx.row) := by
      have : codeDW (ka, kb) = 2 := by unfold codeDW; rw [if_pos hkb]
      exact ⟨this, by unfold dltW; rw [this, if_neg (by decide)]⟩
    clear hkb HLAY
    go_enter Tryz.func24, Tryz.ntmps24
    go_wp2_with fail
    try rw [hV]
    refine HKC.out.mono ?_
    rintro e w1 ⟨rfl, hg1⟩
    have HB1 := hid (bel_then HBV.out HBV.out.size hg1)
    clear hg1 HKC
    go_wp2_with fail
    go_ret
    rw [HC.out.1, HC.out.2]
    exact ⟨rfl, RTurnW.same HR.out HB1.out⟩
  | true =>
    rw [hkb] at HKC
    have HC : Hid (codeDW (ka, kb) = 0 ∧ dltW (d.map Wx.row) (ka, kb) = layW (d.map Wx.row) (ka, kb) none) := by
      have : codeDW (ka, kb) = 0 := by unfold codeDW; rw [if_neg (by rw [hkb]; simp)]
      exact ⟨this, by unfold dltW; rw [this, if_pos rfl]⟩
    have HLAY := hid (HLAY.out hkb)
    clear hkb
    go_enter Tryz.func24, Tryz.ntmps24
    go_wp2_with fail
    try rw [hV]
    refine HKC.out.mono ?_
    rintro e w1 ⟨rfl, hg1⟩
    have hB1 := bel_then HBV.out HBV.out.size hg1
    obtain ⟨m0, m1⟩ := HBOX.out w1 hg1
    have HL1 := hid (HLAY.out w1 hB1)
    clear hg1 HKC hB1 HLAY
    go_wp2_with fail
    refine HL1.out.mono ?_
    rintro e w2 ⟨rfl, ht⟩
    have HT := hid ht
    clear ht HL1
    go_wp2_with fail
    go_ret
    rw [HC.out.1, HC.out.2]
    exact ⟨rfl, HT.out⟩

set_option maxHeartbeats 4000000 in
set_option maxRecDepth 100000 in
theorem putW_any {n0 : Nat} {W : World} {g : Nat} {d : List Wx} {vs : Value} (hR : RefW n0 W g d vs) (hn : n0 ≤ W.heap.size) (hl : d.length < 2000000000000) (k : Ky) (hk : k.1.size ≤ maxLen ∧ k.2.size ≤ maxLen) (v : Value) (o : List Fx) (val : List Fld) (hv : IsXs W v o) (hf : FitX o) (hval : o.map Fx.fld = val) :
    Calls Tryz.prog 13 #[.pointer (some ⟨g, 0, none⟩), .agg #[.string k.1, .string k.2], v] W fun e w' => e = .returned (.int .i64 (codePW k val)) ∧ RTurnW n0 W g d vs (putW (d.map Wx.row) k val) w' := by
  obtain ⟨ka, kb⟩ := k
  obtain ⟨N, hN⟩ : ∃ N, W.heap.size = N := ⟨_, rfl⟩
  obtain ⟨V, hV⟩ : ∃ V, W.alloc (.cells #[.string ka, .string kb] 31) = V := ⟨_, rfl⟩
  have hbV : Below W.heap.size W V := by rw [← hV]; exact (Below.refl _ _).alloc (Nat.le_refl _) _
  have hsV := hbV.size
  have hobj : V.heap[N]? = some (.cells #[.string ka, .string kb] 31 (0, 0)) := by rw [← hV, ← hN]; exact heap_alloc_new W _
  have HKC := hid (rkey_any ka kb V hk.1 hk.2)
  have HMAY : Hid (∀ w, Below W.heap.size W w → Calls Tryz.prog 35 #[v] w fun r w' => r = .returned (.bool (mayB val)) ∧ Grown w w') := fun w hw => by
    have := rmay_any v o w (hv.kept hw) hf
    rw [hval] at this
    exact this
  have HBOX : Hid (∀ w : World, Below V.heap.size V w → w.cell? ⟨N, 0, none⟩ = some (.string ka) ∧ w.cell? ⟨N, 1, none⟩ = some (.string kb)) := fun w hw => by
    have := (hw.block N (Array.getElem?_eq_some_iff.1 hobj).1).trans hobj
    exact ⟨by rw [Lib.cell_of_heap this]; rfl, by rw [Lib.cell_of_heap this]; rfl⟩
  obtain ⟨m0, m1⟩ := HBOX.out V (Below.refl _ _)
  have HR := hid hR
  have HBV := hid hbV
  have HCOPY : Hid (mayB val = true → ∀ w, Below W.heap.size W w → Calls Tryz.prog 11 #[v] w fun r w' => ∃ u o', r = .returned u ∧ OwnJ w.heap.size w' u o' ∧ o'.map Fx.fld = val ∧ Below w.heap.size w w') := fun hm w hw => by
    have := fields_any v o w (hv.kept hw) hf (may_fit (by rw [hval]; exact hm)).2
    rw [hval] at this
    exact this
  have HLAY : Hid (keyB ka kb = true → mayB val = true → ∀ w p c o', Below W.heap.size W w → OwnJ W.heap.size w (.slice p o'.length c) o' → o'.map Fx.fld = val → Calls Tryz.prog 36 #[.pointer (some ⟨g, 0, none⟩), .agg #[.string ka, .string kb, .bool true, .slice p o'.length c]] w fun e w' => e = .returned (.tuple #[]) ∧ RTurnW n0 W g d vs (layW (d.map Wx.row) (ka, kb) (some val)) w' ∧ Fr (fun k => k = g) w w') := fun hkb hm w p c o' hw hJ ho => by
    have h1 := hR.on hw
    have hs := hw.size
    have hlt := hR.lt
    refine (layW_any h1 (by omega) hl ⟨ka, kb, true, p, c, o'⟩ (own_weakJ hJ hn) ?_ (fun h => by cases h) hkb (fun _ => by rw [ho]; exact hm)).mono ?_
    · intro h
      have := (ownJ_blk hJ g h).1
      omega
    · rintro e w' ⟨he, d', vs', t1, t2, t3, t4⟩
      refine ⟨he, ⟨d', vs', t1, by rw [t2]; simp only [Wx.key, Wx.row, if_true, ho], Fr.then (Fr.of_below hw) t3 fun k hk => Or.inl hk, fun k hk => ?_⟩, t3⟩
      rcases t4 k hk with h | h | h
      · exact Or.inl h
      · exact Or.inr (ownJ_blk hJ k h).1
      · exact Or.inr (by omega)
  obtain ⟨vp, vc, rfl, _⟩ := hv
  have hgN : g < N := by rw [← hN]; exact hR.lt
  clear hR hbV hobj hk hf hval
  cases hkb : keyB ka kb with
  | false =>
    rw [hkb] at HKC
    have HC : Hid (codePW (ka, kb) val = 2 ∧ putW (d.map Wx.row) (ka, kb) val = d.map Wx.row) := by
      have : codePW (ka, kb) val = 2 := by unfold codePW; rw [if_pos hkb]
      exact ⟨this, by unfold putW; rw [this, if_neg (by decide)]⟩
    clear hkb HLAY HCOPY HMAY
    go_enter Tryz.func13, Tryz.ntmps13
    go_wp2_with fail
    try rw [hV]
    refine HKC.out.mono ?_
    rintro e w1 ⟨rfl, hg1⟩
    have HB1 := hid (bel_then HBV.out HBV.out.size hg1)
    clear hg1 HKC
    go_wp2_with fail
    go_ret
    rw [HC.out.1, HC.out.2]
    exact ⟨rfl, RTurnW.same HR.out HB1.out⟩
  | true =>
    rw [hkb] at HKC
    cases hm : mayB val with
    | false =>
      rw [hm] at HMAY
      have HC : Hid (codePW (ka, kb) val = 3 ∧ putW (d.map Wx.row) (ka, kb) val = d.map Wx.row) := by
        have : codePW (ka, kb) val = 3 := by unfold codePW; rw [if_neg (by rw [hkb]; simp), if_pos hm]
        exact ⟨this, by unfold putW; rw [this, if_neg (by decide)]⟩
      clear hkb hm HLAY HCOPY
      go_enter Tryz.func13, Tryz.ntmps13
      go_wp2_with fail
      try rw [hV]
      refine HKC.out.mono ?_
      rintro e w1 ⟨rfl, hg1⟩
      have HB1 := hid (bel_then HBV.out HBV.out.size hg1)
      have HM1 := hid (HMAY.out w1 HB1.out)
      clear hg1 HKC HMAY
      go_wp2_with fail
      refine HM1.out.mono ?_
      rintro e w2 ⟨rfl, hg2⟩
      have HB2 := hid (bel_then HB1.out HB1.out.size hg2.below)
      clear hg2 HM1
      go_wp2_with fail
      go_ret
      rw [HC.out.1, HC.out.2]
      exact ⟨rfl, RTurnW.same HR.out HB2.out⟩
    | true =>
      rw [hm] at HMAY
      have HC : Hid (codePW (ka, kb) val = 0 ∧ putW (d.map Wx.row) (ka, kb) val = layW (d.map Wx.row) (ka, kb) (some val)) := by
        have : codePW (ka, kb) val = 0 := by unfold codePW; rw [if_neg (by rw [hkb]; simp), if_neg (by rw [hm]; simp)]
        exact ⟨this, by unfold putW; rw [this, if_pos rfl]⟩
      have HLAY := hid (HLAY.out hkb hm)
      have HCOPY := hid (HCOPY.out hm)
      clear hkb hm
      go_enter Tryz.func13, Tryz.ntmps13
      go_wp2_with fail
      try rw [hV]
      refine HKC.out.mono ?_
      rintro e w1 ⟨rfl, hg1⟩
      have HB1 := hid (bel_then HBV.out HBV.out.size hg1)
      have HV1 := hid hg1
      have HM1 := hid (HMAY.out w1 HB1.out)
      clear hg1 HKC HMAY
      go_wp2_with fail
      refine HM1.out.mono ?_
      rintro e w2 ⟨rfl, hg2⟩
      have HB2 := hid (bel_then HB1.out HB1.out.size hg2.below)
      have HV2 := hid (bel_then HV1.out HV1.out.size hg2.below)
      have HBD := hid (bel_drewN HB2.out 1)
      have HVD := hid (bel_drewN HV2.out 1)
      have HCP := hid (HCOPY.out w2.drew HBD.out)
      obtain ⟨m0, m1⟩ := HBOX.out w2.drew HVD.out
      clear hg2 HM1 HCOPY HV1 HB1
      go_wp2_with fail
      refine wp_region_held_drew (S := fun w' => w'.cell? ⟨N, 0, none⟩ = some (.string ka) ∧ w'.cell? ⟨N, 1, none⟩ = some (.string kb)) (by kernel_rfl) ⟨m0, m1⟩ (fun hHeld => ?_)
      refine take_val (i := 0) (.pointer (some ⟨g, 0, none⟩)) rfl (by kernel_rfl) (by kernel_rfl) (by kernel_rfl) (fun _ _ _ h => h) (by rfl) (fun w hSw => by go_simp) hHeld ?_
      simp only [Act.put, List.setIfInBounds_toArray, List.set_cons_zero, List.set_cons_succ]
      refine take_val (i := 1) (.agg #[.string ka, .string kb]) rfl (by kernel_rfl) (by kernel_rfl) (by kernel_rfl) (fun _ _ _ h => h) (by rfl) (fun w hSw => by go_simp) hHeld ?_
      simp only [Act.put, List.setIfInBounds_toArray, List.set_cons_zero, List.set_cons_succ]
      refine take_val (i := 2) (.slice vp o.length vc) rfl (by kernel_rfl) (by kernel_rfl) (by kernel_rfl) (fun _ _ _ h => h) (by rfl) (fun w hSw => by go_simp) hHeld ?_
      simp only [Act.put, List.setIfInBounds_toArray, List.set_cons_zero, List.set_cons_succ]
      refine wpAnyH_ready (rs := [3]) (by kernel_rfl) (by simp) ?_
      refine AllReadyH.cons (at_drop0 rfl) (fun K hK => ?_) AllReadyH.nil
      rw [if_pos (by rfl)]
      go_simp
      refine HCP.out.mono ?_
      rintro e w3 ⟨u, o', rfl, hJ, ho', hb3⟩
      obtain ⟨p, c, rfl⟩ := ownJ_slice hJ
      have hB3 := bel_then HBD.out HBD.out.size hb3
      obtain ⟨m0, m1⟩ := HBOX.out w3 (bel_then HVD.out HVD.out.size hb3)
      have HL3 := hid (HLAY.out w3 p c o' hB3 (own_weakJ hJ HBD.out.size) ho')
      clear hJ ho' hb3 hB3 hHeld HCP HLAY HBD HVD
      go_wp2_with fail
      refine hK.out _ _ (⟨m0, m1⟩) (fun hHeld => ?_)
      clear hK K
      try simp only [Act.put, List.setIfInBounds_toArray, List.set_cons_zero, List.set_cons_succ]
      refine take_val (i := 4) (.agg #[.string ka, .string kb, .bool true, .slice p o'.length c]) rfl (by kernel_rfl) (by kernel_rfl) (by kernel_rfl) (fun _ _ _ h => h) (by rfl) (fun w hSw => by go_simp) hHeld ?_
      simp only [Act.put, List.setIfInBounds_toArray, List.set_cons_zero, List.set_cons_succ]
      refine wpAnyH_ready (rs := [5]) (by kernel_rfl) (by simp) ?_
      refine AllReadyH.cons (at_drop0 rfl) (fun K hK => ?_) AllReadyH.nil
      rw [if_pos (by rfl)]
      go_simp
      refine HL3.out.mono ?_
      rintro e w4 ⟨rfl, ht, hf4⟩
      have HT := hid ht
      have m2 := hf4.cell m0 (by show ¬ N = g; omega)
      have m3 := hf4.cell m1 (by show ¬ N = g; omega)
      clear ht HL3 hHeld hf4
      go_wp2_with fail
      refine hK.out _ _ (⟨m2, m3⟩) (fun hHeld => ?_)
      clear hK K
      try simp only [Act.put, List.setIfInBounds_toArray, List.set_cons_zero, List.set_cons_succ]
      refine wpAnyH_done (by kernel_rfl) ?_ _
      go_wp2_with fail
      go_ret
      rw [HC.out.1, HC.out.2]
      exact ⟨rfl, HT.out⟩

theorem getW_at {d : List Wx} (h : OkW (d.map Wx.row)) {j : Nat} (hj : j < d.length) : getW (d.map Wx.row) (d[j]).key = some (d[j]).row.2 := by
  have := getW_of (y := (d[j]).row) h.rise (List.mem_map_of_mem (List.getElem_mem hj))
  exact this

/-- What Get tells. -/
def GetPostW (W : World) (L : List RowW) (k : Ky) (e : Ending) (w' : World) : Prop :=
  (∃ v o, e = .returned (.tuple #[v, .bool (liveW (getW L k)), .bool (getW L k).isSome]) ∧ IsXs W v o ∧ FitX o ∧ CopyX o ∧ o.map Fx.fld = valW (getW L k)) ∧ Below W.heap.size W w'

theorem getPost_mk {W w' : World} {L : List RowW} {k : Ky} {v : Value} {o : List Fx} {lv th : Bool} (h1 : lv = liveW (getW L k)) (h2 : th = (getW L k).isSome) (h3 : IsXs W v o ∧ FitX o ∧ CopyX o) (h4 : o.map Fx.fld = valW (getW L k)) (hb : Below W.heap.size W w') : GetPostW W L k (.returned (.tuple #[v, .bool lv, .bool th])) w' := by
  subst h1 h2
  exact ⟨⟨v, o, rfl, h3.1, h3.2.1, h3.2.2, h4⟩, hb⟩
theorem isXs_nil (W : World) : IsXs W (.slice none 0 0) [] ∧ FitX [] ∧ CopyX [] := ⟨⟨none, 0, rfl, Or.inl rfl, fun _ h => by simp at h⟩, ⟨by unfold maxLen; simp, fun _ h => by simp at h⟩, ⟨by simp, fun _ h => by simp at h⟩⟩

set_option maxHeartbeats 4000000 in
set_option maxRecDepth 100000 in
theorem getW_any {n0 : Nat} {W : World} {g : Nat} {d : List Wx} {vs : Value} (hR : RefW n0 W g d vs) (hl : d.length ≤ 2000000000000) (k : Ky) :
    Calls Tryz.prog 26 #[.pointer (some ⟨g, 0, none⟩), .agg #[.string k.1, .string k.2]] W fun e w' => GetPostW W (d.map Wx.row) k e w' := by
  obtain ⟨ka, kb⟩ := k
  obtain ⟨p, cap, rfl⟩ := Kind.own_shape hR.row
  obtain ⟨N, hN⟩ : ∃ N, W.heap.size = N := ⟨_, rfl⟩
  obtain ⟨V, hV⟩ : ∃ V, W.alloc (.cells #[.string ka, .string kb] 31) = V := ⟨_, rfl⟩
  have hbV : Below W.heap.size W V := by rw [← hV]; exact (Below.refl _ _).alloc (Nat.le_refl _) _
  have hobj : V.heap[N]? = some (.cells #[.string ka, .string kb] 31 (0, 0)) := by rw [← hV, ← hN]; exact heap_alloc_new W _
  have m0 : V.cell? ⟨N, 0, none⟩ = some (.string ka) := by rw [Lib.cell_of_heap hobj]; rfl
  have m1 : V.cell? ⟨N, 1, none⟩ = some (.string kb) := by rw [Lib.cell_of_heap hobj]; rfl
  have HAT := hid (atW_any (hR.on hbV) (by omega) (ka, kb))
  have HIS : Hid (∀ w, Below W.heap.size W w → KWx.Is w (.slice p d.length cap) d ∧ w.cell? ⟨g, 0, none⟩ = some (.slice p d.length cap)) := fun w hw => ⟨Kind.own_is (hR.on hw).row, (hR.on hw).cell⟩
  have HR := hid hR
  have HBV := hid hbV
  clear hR hbV hobj
  go_enter Tryz.func26, Tryz.ntmps26
  go_wp2_with fail
  try rw [hV]
  refine HAT.out.mono ?_
  rintro e w1 ⟨⟨q, rfl, hq⟩, hb1⟩
  have HB1 := hid (bel_then HBV.out HBV.out.size hb1)
  clear hb1 HAT HBV
  rcases hq with ⟨j, hj, rfl, hkj⟩ | ⟨rfl, hno⟩
  · have hjz : ¬ (j : Int) < 0 := by omega
    have hj0 : (0 : Int) ≤ j := by omega
    have hj1 : (j : Int) < (d.length : Int) := by omega
    have hget := getW_at HR.out.ok hj
    rw [hkj] at hget
    have hat := HR.out.at _ (List.getElem_mem hj)
    have hbare := HR.out.bare _ (List.getElem_mem hj)
    obtain ⟨b1, o1, rfl, k1⟩ : ∃ b off, p = some ⟨b, off, none⟩ ∧ KWx.At w1 b off d := by
      obtain ⟨p', c', he, h⟩ := (HIS.out w1 HB1.out).1
      injection he with e1 _ _
      subst e1
      rcases h with h | h
      · rw [h] at hj; simp at hj
      · exact h
    obtain ⟨y0, y1, y2, y3⟩ := kw_at k1 j hj
    have c1 := (HIS.out w1 HB1.out).2
    generalize d[j] = x at *
    obtain ⟨xa, xb, xl, xp, xc, xo⟩ := x
    simp only [Wx.sl, Wx.row] at *
    have HE : Hid (xl = liveW (getW (d.map Wx.row) (ka, kb)) ∧ true = (getW (d.map Wx.row) (ka, kb)).isSome ∧ xo.map Fx.fld = valW (getW (d.map Wx.row) (ka, kb))) := by
      rw [hget]
      cases xl with
      | true => exact ⟨rfl, rfl, rfl⟩
      | false => rw [hbare rfl]; exact ⟨rfl, rfl, rfl⟩
    have HX := hid hat
    clear hget hbare hat hkj k1 HR HIS hj
    go_wp2_with fail
    refine wp_region_held_drew (S := fun w' => w'.cell? ⟨g, 0, none⟩ = some (.slice (some ⟨b1, o1, none⟩) d.length cap) ∧ w'.cell? ⟨b1, o1 + j * 4 + 2, none⟩ = some (.bool xl) ∧ w'.cell? ⟨b1, o1 + j * 4 + 3, none⟩ = some (.slice xp xo.length xc)) (by kernel_rfl) ⟨c1, y2, y3⟩ (fun hHeld => ?_)
    refine take_val (i := 0) (.pointer (some ⟨g, 0, none⟩)) rfl (by kernel_rfl) (by kernel_rfl) (by kernel_rfl) (fun _ _ _ h => h) (by rfl) (fun w hSw => by go_simp) hHeld ?_
    simp only [Act.put, List.setIfInBounds_toArray, List.set_cons_zero, List.set_cons_succ]
    refine take_val (i := 1) (.pointer (some ⟨g, 0, none⟩)) rfl (by kernel_rfl) (by kernel_rfl) (by kernel_rfl) (fun _ _ _ h => h) (by rfl) (fun w hSw => by go_simp) hHeld ?_
    simp only [Act.put, List.setIfInBounds_toArray, List.set_cons_zero, List.set_cons_succ]
    refine take_val (i := 2) (.pointer (some ⟨g, 0, none⟩)) rfl (by kernel_rfl) (by kernel_rfl) (by kernel_rfl) (fun _ _ _ h => h) (by rfl) (fun w hSw => by go_simp) hHeld ?_
    simp only [Act.put, List.setIfInBounds_toArray, List.set_cons_zero, List.set_cons_succ]
    refine take_val (i := 3) (.slice (some ⟨b1, o1, none⟩) d.length cap) rfl (by kernel_rfl) (by kernel_rfl) (by kernel_rfl) (fun _ _ _ h => h) (by rfl) (fun w hSw => by go_simp) hHeld ?_
    simp only [Act.put, List.setIfInBounds_toArray, List.set_cons_zero, List.set_cons_succ]
    refine take_val (i := 4) (.int .i64 j) rfl (by kernel_rfl) (by kernel_rfl) (by kernel_rfl) (fun _ _ _ h => h) (by rfl) (fun w hSw => by go_simp) hHeld ?_
    simp only [Act.put, List.setIfInBounds_toArray, List.set_cons_zero, List.set_cons_succ]
    refine take_val (i := 5) (.pointer (some ⟨b1, o1 + j * 4, none⟩)) rfl (by kernel_rfl) (by kernel_rfl) (by kernel_rfl) (fun _ _ _ h => h) (by rfl) (fun w hSw => by go_simp) hHeld ?_
    simp only [Act.put, List.setIfInBounds_toArray, List.set_cons_zero, List.set_cons_succ]
    refine take_val (i := 6) (.pointer (some ⟨b1, o1 + j * 4 + 3, none⟩)) rfl (by kernel_rfl) (by kernel_rfl) (by kernel_rfl) (fun _ _ _ h => h) (by rfl) (fun w hSw => by go_simp) hHeld ?_
    simp only [Act.put, List.setIfInBounds_toArray, List.set_cons_zero, List.set_cons_succ]
    refine take_val (i := 7) (.slice xp xo.length xc) rfl (by kernel_rfl) (by kernel_rfl) (by kernel_rfl) (fun _ _ _ h => h) (by rfl) (fun w hSw => by go_simp) hHeld ?_
    simp only [Act.put, List.setIfInBounds_toArray, List.set_cons_zero, List.set_cons_succ]
    refine take_val (i := 8) (.pointer (some ⟨g, 0, none⟩)) rfl (by kernel_rfl) (by kernel_rfl) (by kernel_rfl) (fun _ _ _ h => h) (by rfl) (fun w hSw => by go_simp) hHeld ?_
    simp only [Act.put, List.setIfInBounds_toArray, List.set_cons_zero, List.set_cons_succ]
    refine take_val (i := 9) (.pointer (some ⟨g, 0, none⟩)) rfl (by kernel_rfl) (by kernel_rfl) (by kernel_rfl) (fun _ _ _ h => h) (by rfl) (fun w hSw => by go_simp) hHeld ?_
    simp only [Act.put, List.setIfInBounds_toArray, List.set_cons_zero, List.set_cons_succ]
    refine take_val (i := 10) (.pointer (some ⟨g, 0, none⟩)) rfl (by kernel_rfl) (by kernel_rfl) (by kernel_rfl) (fun _ _ _ h => h) (by rfl) (fun w hSw => by go_simp) hHeld ?_
    simp only [Act.put, List.setIfInBounds_toArray, List.set_cons_zero, List.set_cons_succ]
    refine take_val (i := 11) (.slice (some ⟨b1, o1, none⟩) d.length cap) rfl (by kernel_rfl) (by kernel_rfl) (by kernel_rfl) (fun _ _ _ h => h) (by rfl) (fun w hSw => by go_simp) hHeld ?_
    simp only [Act.put, List.setIfInBounds_toArray, List.set_cons_zero, List.set_cons_succ]
    refine take_val (i := 12) (.int .i64 j) rfl (by kernel_rfl) (by kernel_rfl) (by kernel_rfl) (fun _ _ _ h => h) (by rfl) (fun w hSw => by go_simp) hHeld ?_
    simp only [Act.put, List.setIfInBounds_toArray, List.set_cons_zero, List.set_cons_succ]
    refine take_val (i := 13) (.pointer (some ⟨b1, o1 + j * 4, none⟩)) rfl (by kernel_rfl) (by kernel_rfl) (by kernel_rfl) (fun _ _ _ h => h) (by rfl) (fun w hSw => by go_simp) hHeld ?_
    simp only [Act.put, List.setIfInBounds_toArray, List.set_cons_zero, List.set_cons_succ]
    refine take_val (i := 14) (.pointer (some ⟨b1, o1 + j * 4 + 2, none⟩)) rfl (by kernel_rfl) (by kernel_rfl) (by kernel_rfl) (fun _ _ _ h => h) (by rfl) (fun w hSw => by go_simp) hHeld ?_
    simp only [Act.put, List.setIfInBounds_toArray, List.set_cons_zero, List.set_cons_succ]
    refine take_val (i := 15) (.bool xl) rfl (by kernel_rfl) (by kernel_rfl) (by kernel_rfl) (fun _ _ _ h => h) (by rfl) (fun w hSw => by go_simp) hHeld ?_
    simp only [Act.put, List.setIfInBounds_toArray, List.set_cons_zero, List.set_cons_succ]
    refine take_val (i := 16) (.slice xp xo.length xc) rfl (by kernel_rfl) (by kernel_rfl) (by kernel_rfl) (fun _ _ _ h => h) (by rfl) (fun w hSw => by go_simp) hHeld ?_
    simp only [Act.put, List.setIfInBounds_toArray, List.set_cons_zero, List.set_cons_succ]
    refine take_val (i := 17) (.bool xl) rfl (by kernel_rfl) (by kernel_rfl) (by kernel_rfl) (fun _ _ _ h => h) (by rfl) (fun w hSw => by go_simp) hHeld ?_
    simp only [Act.put, List.setIfInBounds_toArray, List.set_cons_zero, List.set_cons_succ]
    refine take_val (i := 18) (.bool true) rfl (by kernel_rfl) (by kernel_rfl) (by kernel_rfl) (fun _ _ _ h => h) (by rfl) (fun w hSw => by go_simp) hHeld ?_
    simp only [Act.put, List.setIfInBounds_toArray, List.set_cons_zero, List.set_cons_succ]
    refine wpAnyH_done (by kernel_rfl) ?_ _
    go_wp2_with fail
    go_ret3
    obtain ⟨e1, e2, e3⟩ := HE.out
    exact getPost_mk e1 e2 HX.out e3 (bel_drewN HB1.out _)
  · have hget : getW (d.map Wx.row) (ka, kb) = none := getW_map.2 hno
    have HE := hid hget
    clear hno hget HR HIS
    go_wp2_with fail
    go_ret3
    exact getPost_mk (by rw [HE.out]; rfl) (by rw [HE.out]; rfl) (isXs_nil W) (by rw [HE.out]; rfl) HB1.out

theorem Tryz.infoKyW : (Tryz.prog.info? 31).map (fun i => (i.zero, i.size, i.bytes)) = some (some (.agg #[.string ⟨#[]⟩, .string ⟨#[]⟩]), 2, 32) := by kernel_rfl

set_option maxHeartbeats 4000000 in
set_option maxRecDepth 100000 in
theorem keysW_any {n0 : Nat} {W : World} {g : Nat} {d : List Wx} {vs : Value} (hR : RefW n0 W g d vs) (hl : d.length ≤ 2000000000000) :
    Calls Tryz.prog 10 #[.pointer (some ⟨g, 0, none⟩)] W fun e w' => ∃ u, e = .returned u ∧ KK.Own W.heap.size w' u (keysW (d.map Wx.row)) ∧ Below W.heap.size W w' := by
  obtain ⟨p, cap, rfl⟩ := Kind.own_shape hR.row
  obtain ⟨i0, hi0, hz0, hz1, hz2⟩ := info_parts Tryz.infoKyW
  have HI0 := hid hi0
  have HIS : Hid (∀ w, Below W.heap.size W w → KWx.Is w (.slice p d.length cap) d ∧ w.cell? ⟨g, 0, none⟩ = some (.slice p d.length cap)) := fun w hw => ⟨Kind.own_is (hR.on hw).row, (hR.on hw).cell⟩
  have hkeys : keysW (d.map Wx.row) = d.map Wx.key := by unfold keysW; rw [List.map_map]; rfl
  rw [hkeys]
  have HST0 : Hid (RowSt KK W.heap.size W (.slice none 0 0) [] W) := RowSt.nil KK (Below.refl _ _) (Nat.le_refl _)
  clear hR hi0 hkeys
  go_enter Tryz.func10, Tryz.ntmps10
  go_wp2_with fail
  go_loopg [3, 4] d.length (fun gg v3 vi wr => ∃ (i : Nat) (p' : Option Addr) (c' : Nat), vi = .int .i64 i ∧ v3 = .slice p' i c' ∧ i ≤ d.length ∧ d.length - i ≤ gg ∧ Hid (RowSt KK W.heap.size W (.slice p' i c') ((d.take i).map Wx.key) wr))
  case atStart => exact ⟨0, none, 0, rfl, rfl, by omega, by omega, HST0.out⟩
  case round =>
    clear HST0
    obtain ⟨i, p', c', rfl, rfl, hi, hgk, HS⟩ := hrel
    have c1 := (HIS.out wr HS.out.bel).2
    by_cases hlt : i < d.length
    · have hltz : (i : Int) < (d.length : Int) := by omega
      have hiz : (0 : Int) ≤ i := by omega
      obtain ⟨b1, o1, rfl, k1⟩ : ∃ b off, p = some ⟨b, off, none⟩ ∧ KWx.At wr b off d := by
        obtain ⟨p', c', he, h⟩ := (HIS.out wr HS.out.bel).1
        injection he with e1 _ _
        subst e1
        rcases h with h | h
        · rw [h] at hlt; simp at hlt
        · exact h
      obtain ⟨y0, y1, y2, y3⟩ := kw_at k1 i hlt
      have HTK : Hid ((d.take (i + 1)).map Wx.key = (d.take i).map Wx.key ++ [(d[i]).key]) := by
        show _ = _
        rw [List.take_succ_eq_append_getElem hlt, List.map_append]
        rfl
      have hlen : ((d.take i).map Wx.key).length = i := by rw [List.length_map, List.length_take]; omega
      generalize (d.take i).map Wx.key = l at *
      generalize d[i] = x at *
      obtain ⟨xa, xb, xl, xp, xc, xo⟩ := x
      simp only [Wx.key] at *
      subst hlen
      obtain ⟨W4, hW4⟩ : ∃ W4, wr.alloc (.cells #[.string xa, .string xb] 31) = W4 := ⟨_, rfl⟩
      have hb4 : Below wr.heap.size wr W4 := by rw [← hW4]; exact (Below.refl _ _).alloc (Nat.le_refl _) _
      have HN4 : Hid (W4.heap[wr.heap.size]? = some (.cells #[.string xa, .string xb] 31 (0, 0))) := by rw [← hW4]; exact heap_alloc_new _ _
      have HO4 := hid (HS.out.on hb4)
      clear hb4 k1 HS
      go_wp2_with (at_builtin; refine wpList_push KK rfl _ _ 39 rfl i0 _ 32 Tryz.underlying39 HI0.out hz0 hz1 hz2 rfl W.heap.size W _ l rfl HO4.out (xa, xb) _ _ _ rfl rfl _ _ HN4.out (by unfold maxLen; omega) (by omega) ?_; intro g5 c5 w5 hst5 _ _; have HS5 := hid hst5; clear hst5)
      go_roundg (d.length - (l.length + 1))
      case measure => omega
      exact ⟨l.length + 1, some ⟨g5, 0, none⟩, c5, by go_num, rfl, by omega, by omega, by rw [HTK.out]; exact HS5.out⟩
    · have hltz : ¬ (i : Int) < (d.length : Int) := by omega
      have hti : d.take i = d := List.take_of_length_le (by omega)
      rw [hti] at HS
      go_wp2_with fail
      go_ret
      exact ⟨_, rfl, HS.out.own, HS.out.bel⟩

end Go.Proofs.YtjehjjpdicimhaaGreat

/-
  The contracts of token and Token of package name, and of bar and Token of the reference.
-/
namespace Go.Proofs.YtjehjjpdicimhaaGreat
open Go.RowKit



def tokSys (s : ByteArray) : ByteArray := if 0 ≤ Lib.indexByte s.data.toList 124 then s.extract 0 (Lib.indexByte s.data.toList 124).toNat else ⟨#[]⟩
def tokCode (s : ByteArray) : ByteArray := if 0 ≤ Lib.indexByte s.data.toList 124 then s.extract ((Lib.indexByte s.data.toList 124).toNat + 1) s.size else s
def tokenB (p t : ByteArray) : Bool :=
  if 0 ≤ Lib.indexByte p.data.toList 124 then ((tokSys p).toList == (tokSys t).toList) && ((tokCode p).toList == (tokCode t).toList || (tokCode p).toList.isEmpty)
  else p.toList == (tokCode t).toList

theorem tok_no {s : ByteArray} (h : Lib.indexByte s.data.toList 124 = -1) : tokSys s = ⟨#[]⟩ ∧ tokCode s = s := by
  unfold tokSys tokCode; rw [h]; exact ⟨rfl, rfl⟩
theorem tok_yes {s : ByteArray} {i : Nat} (h : Lib.indexByte s.data.toList 124 = (i : Int)) : tokSys s = s.extract 0 i ∧ tokCode s = s.extract (i + 1) s.size := by
  unfold tokSys tokCode; rw [h, if_pos (by omega), if_pos (by omega), Int.toNat_natCast]; exact ⟨rfl, rfl⟩
theorem tokenB_bare {p : ByteArray} (t : ByteArray) (h : Lib.indexByte p.data.toList 124 = -1) : tokenB p t = (p.toList == (tokCode t).toList) := by
  unfold tokenB; rw [h]; rfl
theorem tokenB_bar {p : ByteArray} {i : Nat} (t : ByteArray) (h : Lib.indexByte p.data.toList 124 = (i : Int)) :
    tokenB p t = (((tokSys p).toList == (tokSys t).toList) && ((tokCode p).toList == (tokCode t).toList || (tokCode p).toList.isEmpty)) := by
  unfold tokenB; rw [h, if_pos (by omega)]

set_option maxHeartbeats 400000 in
theorem token_no (s : ByteArray) (w : World) (hix : Lib.indexByte s.data.toList 124 = -1) :
    Calls Tryz.prog 112 #[.string s] w fun e w' => e = .returned (.tuple #[.string ⟨#[]⟩, .string s]) ∧ w' = w := by
  have HX : Hid (Lib.indexByte s.data.toList 124 = -1) := hix
  clear hix
  go_enter Tryz.func112, Tryz.ntmps112
  go_wp2_with (go_at_call 117; refine (cut_no _ _ _ HX.out).mono ?_; rintro e w' ⟨rfl, rfl⟩)
  go_ret2
  exact ⟨rfl, rfl⟩

set_option maxHeartbeats 400000 in
theorem token_yes (s : ByteArray) (w : World) (i : Nat) (hix : Lib.indexByte s.data.toList 124 = (i : Int)) (hi : i < s.size) (hs : s.size ≤ maxLen) :
    Calls Tryz.prog 112 #[.string s] w fun e w' => e = .returned (.tuple #[.string (s.extract 0 i), .string (s.extract (i + 1) s.size)]) ∧ ∃ n, w' = w.drewN n := by
  have HX : Hid (Lib.indexByte s.data.toList 124 = (i : Int) ∧ i < s.size ∧ s.size ≤ maxLen) := ⟨hix, hi, hs⟩
  clear hix hi hs
  go_enter Tryz.func112, Tryz.ntmps112
  go_wp2_with (go_at_call 117; refine (cut_yes _ _ _ i HX.out.1 HX.out.2.1 HX.out.2.2).mono ?_; rintro e w' ⟨rfl, n, rfl⟩)
  go_ret2
  exact ⟨rfl, n, rfl⟩

theorem token_any (s : ByteArray) (w : World) (hs : s.size ≤ maxLen) :
    Calls Tryz.prog 112 #[.string s] w fun e w' => e = .returned (.tuple #[.string (tokSys s), .string (tokCode s)]) ∧ ∃ n, w' = w.drewN n := by
  rcases ix_cases s.data.toList 124 with ⟨h1, _⟩ | ⟨i, h1, h2, _, _⟩
  · rw [(tok_no h1).1, (tok_no h1).2]
    exact (token_no s w h1).mono fun e w' ⟨a, b⟩ => ⟨a, 0, by rw [b]; rfl⟩
  · rw [(tok_yes h1).1, (tok_yes h1).2]
    exact token_yes s w i h1 (by simpa using h2) hs

set_option maxHeartbeats 400000 in
theorem Token_any (p t : ByteArray) (w : World) (hp : p.size ≤ maxLen) (ht : t.size ≤ maxLen) :
    Calls Tryz.prog 99 #[.string p, .string t] w fun e w' => e = .returned (.bool (tokenB p t)) ∧ ∃ n, w' = w.drewN n := by
  have HS : Hid (p.size ≤ maxLen ∧ t.size ≤ maxLen) := ⟨hp, ht⟩
  clear hp ht
  rcases ix_cases p.data.toList 124 with ⟨h1, _⟩ | ⟨i, h1, _, _, _⟩
  · have HB := hid (tokenB_bare t h1)
    have hd : decide (0 ≤ Lib.indexByte p.data.toList 124) = false := by rw [h1]; rfl
    clear h1
    go_enter Tryz.func99, Tryz.ntmps99
    go_wp2_with (first | (go_at_call 112; refine (token_any _ _ HS.out.2).mono ?_; rintro e w' ⟨rfl, n, rfl⟩) | (go_at_call 113; refine (Tryz.strings_Contains_one _ _ _).mono ?_; rintro e w' ⟨rfl, rfl⟩))
    go_ret
    exact ⟨ret_bool (HB.out).symm, n, rfl⟩
  · have HB := hid (tokenB_bar t h1)
    have hd : decide (0 ≤ Lib.indexByte p.data.toList 124) = true := by rw [h1]; simp
    clear h1
    go_enter Tryz.func99, Tryz.ntmps99
    go_wp2_with fail
    refine (token_any _ _ HS.out.2).mono ?_
    rintro e w' ⟨rfl, n, rfl⟩
    go_wp2_with (go_at_call 113; refine (Tryz.strings_Contains_one _ _ _).mono ?_; rintro e w' ⟨rfl, rfl⟩)
    refine (token_any _ _ HS.out.1).mono ?_
    rintro e w' ⟨rfl, m, rfl⟩
    cases e1 : ((tokSys p).toList == (tokSys t).toList)
    · go_wp2_with fail
      go_ret
      exact ⟨ret_bool (by rw [HB.out, e1]; rfl), _, rfl⟩
    · cases e2 : ((tokCode p).toList == (tokCode t).toList)
      · go_wp2_with fail
        go_ret
        exact ⟨ret_bool (by rw [HB.out, e1, e2]; rfl), _, rfl⟩
      · go_wp2_with fail
        go_ret
        exact ⟨ret_bool (by rw [HB.out, e1, e2]; rfl), _, rfl⟩

end Go.Proofs.YtjehjjpdicimhaaGreat

/-
  The contracts of the reference's bar and Token.
-/
namespace Go.Proofs.YtjehjjpdicimhaaGreat
open Go.RowKit

/-- No byte c among the first k. -/
theorem ix_none_of (s : ByteArray) (c : UInt8) (h : ∀ j, (hj : j < s.size) → s[j] ≠ c) : Lib.indexByte s.data.toList c = -1 := by
  rcases ix_cases s.data.toList c with ⟨h1, _⟩ | ⟨i, _, h2, h3, _⟩
  · exact h1
  · have hi : i < s.size := by simpa using h2
    rw [Lib.data_getElem? s i hi] at h3
    exact absurd (Option.some.inj h3) (h i hi)

theorem ix_at_of (s : ByteArray) (c : UInt8) (k : Nat) (hk : k < s.size) (h : ∀ j, j < k → (hj : j < s.size) → s[j] ≠ c) (hc : s[k] = c) : Lib.indexByte s.data.toList c = (k : Int) := by
  rcases ix_cases s.data.toList c with ⟨_, h2⟩ | ⟨i, h1, h2, h3, h4⟩
  · exfalso
    apply h2
    rw [← hc, ← byte_at s k hk]
    exact List.getElem_mem _
  · have hi : i < s.size := by simpa using h2
    rw [Lib.data_getElem? s i hi] at h3
    have e3 := Option.some.inj h3
    rcases Nat.lt_trichotomy i k with hl | rfl | hl
    · exact absurd e3 (h i hl hi)
    · exact h1
    · exfalso
      apply h4
      rw [← hc, ← byte_at s k hk]
      rw [List.mem_iff_getElem]
      exact ⟨k, by simp; omega, by rw [List.getElem_take]⟩

set_option maxHeartbeats 400000 in
theorem bar_any (s : ByteArray) (w : World) (hs : s.size ≤ maxLen) :
    Calls Tryz.prog 106 #[.string s] w fun e w' => e = .returned (.int .i64 (Lib.indexByte s.data.toList 124)) ∧ w' = w := by
  unfold maxLen at hs
  have HN := hid (ix_none_of s 124)
  have HA := hid (ix_at_of s 124)
  generalize Lib.indexByte s.data.toList 124 = r at *
  go_enter Tryz.func106, Tryz.ntmps106
  go_wp2
  go_loop [3] (fun i => ∃ k : Nat, k ≤ s.size ∧ i = .int .i64 k ∧ (∀ j, j < k → (hj : j < s.size) → s[j] ≠ 124)) (fun i => s.size - (intOf i).toNat)
  case atStart => exact ⟨0, by omega, rfl, fun j h => by omega⟩
  case round =>
    obtain ⟨k, hk, rfl, hall⟩ := hrel
    have HL := hid hall
    clear hall
    by_cases hlt : k < s.size
    · by_cases hc : s[k] = 124
      · have hb : ((s[k].toNat : Int) == 124) = true := by rw [hc]; rfl
        have HC := hid hc
        clear hc
        go_wp2
        go_ret
        exact ⟨ret_int (HA.out k hlt HL.out HC.out).symm, rfl⟩
      · have hb : ((s[k].toNat : Int) == 124) = false := by
          rw [beq_eq_false_iff_ne]
          intro h
          apply hc
          apply UInt8.toNat_inj.1
          have : (124 : UInt8).toNat = 124 := rfl
          omega
        have HC := hid hc
        clear hc
        go_wp2
        go_round
        case rel =>
          refine ⟨k + 1, by omega, by go_num, fun j h1 hj => ?_⟩
          by_cases hjk : j = k
          · subst hjk; exact HC.out
          · exact HL.out j (by omega) hj
        case measure => simp [intOf]; omega
    · go_wp2
      go_ret
      exact ⟨ret_int (HN.out fun j hj => HL.out j (by omega) hj).symm, rfl⟩

theorem beq_nil_isEmpty (l : List UInt8) : (l == (⟨#[]⟩ : ByteArray).toList) = l.isEmpty := by
  rw [Lib.toList_data]
  cases l <;> rfl

set_option maxHeartbeats 800000 in
theorem rtoken_any (p t : ByteArray) (w : World) (hp : p.size ≤ maxLen) (ht : t.size ≤ maxLen) :
    Calls Tryz.prog 81 #[.string p, .string t] w fun e w' => e = .returned (.bool (tokenB p t)) ∧ ∃ n, w' = w.drewN n := by
  have HS := hid (And.intro hp ht)
  unfold maxLen at hp ht
  have kp := fun W => bar_any p W HS.out.1
  have kt := fun W => bar_any t W HS.out.2
  rcases ix_cases p.data.toList 124 with ⟨h1, _⟩ | ⟨j, h1, hj, _, _⟩
  · have hb := tokenB_bare t h1
    rw [h1] at kp
    have KP := hid kp
    rcases ix_cases t.data.toList 124 with ⟨h2, _⟩ | ⟨i, h2, hi, _, _⟩
    · rw [(tok_no h2).2] at hb
      rw [h2] at kt
      have KT := hid kt
      have HB := hid hb
      clear kp kt hb h1 h2
      go_enter Tryz.func81, Tryz.ntmps81
      go_wp2_with fail
      refine (KP.out _).mono ?_
      rintro e w' ⟨rfl, rfl⟩
      go_wp2_with fail
      refine (KT.out _).mono ?_
      rintro e w' ⟨rfl, rfl⟩
      go_wp2_with fail
      go_ret
      exact ⟨ret_bool HB.out.symm, 0, rfl⟩
    · have hi' : i < t.size := by simpa using hi
      rw [(tok_yes h2).2] at hb
      rw [h2] at kt
      have KT := hid kt
      have HB := hid hb
      clear kp kt hb h1 h2 hi
      have c1 : (0 : Int) ≤ ↑i := by omega
      have c2 : (↑i : Int) ≤ ↑t.size := by omega
      have c3 : (0 : Int) ≤ ↑i + 1 := by omega
      have c4 : (↑i + 1 : Int) ≤ ↑t.size := by omega
      go_enter Tryz.func81, Tryz.ntmps81
      go_wp2_with fail
      refine (KP.out _).mono ?_
      rintro e w' ⟨rfl, rfl⟩
      go_wp2_with fail
      refine (KT.out _).mono ?_
      rintro e w' ⟨rfl, rfl⟩
      go_wp2_with fail
      go_quiet (fail)
      go_wp2_with fail
      go_ret
      exact ⟨ret_bool HB.out.symm, _, rfl⟩
  · have hj' : j < p.size := by simpa using hj
    have hb := tokenB_bar t h1
    rw [(tok_yes h1).1, (tok_yes h1).2] at hb
    rw [h1] at kp
    have KP := hid kp
    have d1 : (0 : Int) ≤ ↑j := by omega
    have d2 : (↑j : Int) ≤ ↑p.size := by omega
    have d3 : (0 : Int) ≤ ↑j + 1 := by omega
    have d4 : (↑j + 1 : Int) ≤ ↑p.size := by omega
    rcases ix_cases t.data.toList 124 with ⟨h2, _⟩ | ⟨i, h2, hi, _, _⟩
    · rw [(tok_no h2).1, (tok_no h2).2, beq_nil_isEmpty] at hb
      rw [h2] at kt
      have KT := hid kt
      have HB := hid hb
      clear kp kt hb h1 h2 hj
      cases e1 : (p.extract 0 j).toList.isEmpty <;> cases e2 : (p.extract (j + 1) p.size).toList.isEmpty
      all_goals
        go_enter Tryz.func81, Tryz.ntmps81
        go_wp2_with fail
        refine (KP.out _).mono ?_
        rintro e w' ⟨rfl, rfl⟩
        go_wp2_with fail
        refine (KT.out _).mono ?_
        rintro e w' ⟨rfl, rfl⟩
        go_wp2_with fail
        go_ret
        exact ⟨ret_bool (by rw [HB.out, e1, e2]; simp), 0, rfl⟩
    · have hi' : i < t.size := by simpa using hi
      rw [(tok_yes h2).1, (tok_yes h2).2] at hb
      rw [h2] at kt
      have KT := hid kt
      have HB := hid hb
      clear kp kt hb h1 h2 hi hj
      have c1 : (0 : Int) ≤ ↑i := by omega
      have c2 : (↑i : Int) ≤ ↑t.size := by omega
      have c3 : (0 : Int) ≤ ↑i + 1 := by omega
      have c4 : (↑i + 1 : Int) ≤ ↑t.size := by omega
      cases e1 : ((p.extract 0 j).toList == (t.extract 0 i).toList) <;> cases e2 : (p.extract (j + 1) p.size).toList.isEmpty
      all_goals
        go_enter Tryz.func81, Tryz.ntmps81
        go_wp2_with fail
        refine (KP.out _).mono ?_
        rintro e w' ⟨rfl, rfl⟩
        go_wp2_with fail
        refine (KT.out _).mono ?_
        rintro e w' ⟨rfl, rfl⟩
        go_wp2_with fail
        go_quiet (fail)
        go_wp2_with fail
        go_ret
        exact ⟨ret_bool (by rw [HB.out, e1, e2]; simp), _, rfl⟩

end Go.Proofs.YtjehjjpdicimhaaGreat

/-
  What terms mean; the contracts of the reference's begins, Holds and Match.
-/
namespace Go.Proofs.YtjehjjpdicimhaaGreat
open Go.RowKit

/-- Does s begin with t? -/
def beginsB (s t : ByteArray) : Bool := decide (t.size ≤ s.size) && ((s.extract 0 t.size).toList == t.toList)

/-- Does a term hold of these texts? -/
def holdsT (x : Tm) (ts : List ByteArray) : Bool :=
  if x.2.1 = 1 then ts.any (tokenB x.2.2) else if x.2.1 = 2 then !ts.any (tokenB x.2.2) else if x.2.1 = 3 then ts.any (fun t => beginsB t x.2.2) else
  if x.2.1 = 4 then ts.any (fun t => ltB t x.2.2) else if x.2.1 = 5 then ts.any (fun t => ltB x.2.2 t) else if x.2.1 = 6 then decide (0 < ts.length) else if x.2.1 = 7 then decide (ts.length = 0) else false
def holdsM (x : Tm) (fs : List Fld) : Bool := holdsT x (textsOf fs x.1)
def matchM (p : List Tm) (fs : List Fld) : Bool := p.all fun x => holdsM x fs

set_option maxHeartbeats 1000000 in
theorem rbegins_any (s t : ByteArray) (w : World) (ht : t.size ≤ maxLen) :
    Calls Tryz.prog 82 #[.string s, .string t] w fun e w' => e = .returned (.bool (beginsB s t)) ∧ w' = w := by
  unfold maxLen at ht
  have HB : Hid (beginsB s t = (decide (t.size ≤ s.size) && ((s.extract 0 t.size).toList == t.toList))) := rfl
  by_cases h : t.size ≤ s.size
  · have hz : (t.size : Int) ≤ (s.size : Int) := by omega
    have h0 : (0 : Int) ≤ (t.size : Int) := by omega
    have hd : decide (t.size ≤ s.size) = true := decide_eq_true h
    have HV : Hid (beginsB s t = ((s.extract 0 t.size).toList == t.toList)) := by show _ = _; rw [HB.out, hd]; rfl
    clear hd
    go_enter Tryz.func82, Tryz.ntmps82
    go_wp2_with fail
    go_ret
    exact ⟨ret_bool HV.out.symm, rfl⟩
  · have hz : ¬ (t.size : Int) ≤ (s.size : Int) := by omega
    have HV : Hid (beginsB s t = false) := by show _ = _; rw [HB.out, decide_eq_false h]; rfl
    go_enter Tryz.func82, Tryz.ntmps82
    go_wp2_with fail
    go_ret
    exact ⟨ret_bool HV.out.symm, rfl⟩

theorem any_snocT {ts : List ByteArray} {f : ByteArray → Bool} {i : Nat} (h : i < ts.length) : (ts.take (i + 1)).any f = ((ts.take i).any f || f ts[i]) := by
  rw [List.take_succ_eq_append_getElem h, List.any_append]
  simp

theorem gtr_of (t x : ByteArray) : (!ltB t x && !(t.toList == x.toList)) = ltB x t := by
  rcases ltB_cases t x with h | h | h
  · rw [h, ltB_asymm h]; rfl
  · subst h; rw [ltB_irrefl]; simp
  · rw [h, ltB_asymm h, seq_false (fun e => by subst e; rw [ltB_irrefl] at h; cases h)]; rfl

set_option maxHeartbeats 8000000 in
set_option maxRecDepth 100000 in
theorem rholds_any (x : Tm) (v : Value) (d : List Fx) (w : World) (hv : IsXs w v d) (hf : FitX d) (hx : x.2.2.size ≤ maxLen) :
    Calls Tryz.prog 62 #[.agg #[.string x.1, .int .i64 x.2.1, .string x.2.2], v] w fun e w' => e = .returned (.bool (holdsM x (d.map Fx.fld))) ∧ Grown w w' := by
  obtain ⟨xf, xo, xt⟩ := x
  simp only at hx ⊢
  have hbox : Below w.heap.size w (w.alloc (.cells #[.string xf, .int .i64 xo, .string xt] 100)) := (Below.refl _ _).alloc (Nat.le_refl _) _
  have HT := hid (rtexts_any v xf d _ (hv.kept hbox) hf)
  have hfit : ∀ t ∈ textsOf (d.map Fx.fld) xf, t.size ≤ maxLen := fun t ht => by
    unfold textsOf at ht
    cases hfd : (d.map Fx.fld).find? fun f => decide (f.1 = xf) with
    | none => rw [hfd] at ht; simp at ht
    | some f =>
      rw [hfd] at ht
      obtain ⟨y, hy, rfl⟩ := List.mem_map.1 (List.mem_of_find?_eq_some hfd)
      exact (hf.2 y hy).2.2 t ht
  have hlen : (textsOf (d.map Fx.fld) xf).length ≤ maxLen := by
    unfold textsOf
    cases hfd : (d.map Fx.fld).find? fun f => decide (f.1 = xf) with
    | none => unfold maxLen; simp
    | some f =>
      obtain ⟨y, hy, rfl⟩ := List.mem_map.1 (List.mem_of_find?_eq_some hfd)
      exact (hf.2 y hy).2.1
  have HH : Hid (holdsM (xf, xo, xt) (d.map Fx.fld) = holdsT (xf, xo, xt) (textsOf (d.map Fx.fld) xf)) := rfl
  obtain ⟨ts, hts⟩ : ∃ ts, textsOf (d.map Fx.fld) xf = ts := ⟨_, rfl⟩
  rw [hts] at HT hfit hlen HH
  rw [HH.out]
  have HFT := hid hfit
  unfold maxLen at hlen
  have HXS := hid hx
  have HG1 : Hid (Grown w (w.alloc (.cells #[.string xf, .int .i64 xo, .string xt] 100))) := (Grown.refl _).alloc _
  clear hv hf hx hbox hfit hts HH
  have mixed := Tryz.mixed
  obtain ⟨W1, hW1⟩ : ∃ W1, w.alloc (.cells #[.string xf, .int .i64 xo, .string xt] 100) = W1 := ⟨_, rfl⟩
  have hbk : W1.heap[w.heap.size]? = some (.cells #[.string xf, .int .i64 xo, .string xt] 100 (0, 0)) := by rw [← hW1]; exact heap_alloc_new _ _
  have k0 : ∀ n, (W1.drewN n).cell? ⟨w.heap.size, 0, none⟩ = some (.string xf) := fun n => by rw [Lib.cell_of_heap (show (W1.drewN n).heap[w.heap.size]? = _ from hbk)]; rfl
  have k1 : ∀ n, (W1.drewN n).cell? ⟨w.heap.size, 1, none⟩ = some (.int .i64 xo) := fun n => by rw [Lib.cell_of_heap (show (W1.drewN n).heap[w.heap.size]? = _ from hbk)]; rfl
  have k2 : ∀ n, (W1.drewN n).cell? ⟨w.heap.size, 2, none⟩ = some (.string xt) := fun n => by rw [Lib.cell_of_heap (show (W1.drewN n).heap[w.heap.size]? = _ from hbk)]; rfl
  rw [hW1] at HT HG1
  have e0 : W1.cell? ⟨w.heap.size, 0, none⟩ = some (.string xf) := k0 0
  clear hbk
  go_enter Tryz.func62, Tryz.ntmps62
  go_wp2_with (first | (go_at_call 80; refine HT.out.mono ?_; rintro e w1 ⟨⟨pl, cl, rfl, tl⟩, rfl⟩))
  have HTL := hid tl
  clear tl
  go_loopg [6, 7, 8, 9, 10] ts.length (fun g v6 v7 v8 v9 vi ws => ∃ i n : Nat, vi = .int .i64 i ∧ i ≤ ts.length ∧ ts.length - i ≤ g ∧ v6 = .bool ((ts.take i).any (tokenB xt)) ∧ v7 = .bool ((ts.take i).any (fun t => beginsB t xt)) ∧ v8 = .bool ((ts.take i).any (fun t => ltB t xt)) ∧ v9 = .bool ((ts.take i).any (fun t => ltB xt t)) ∧ ws = w1.drewN n)
  case atStart => exact ⟨0, 0, rfl, by omega, by omega, by simp, by simp, by simp, by simp, rfl⟩
  case round =>
    obtain ⟨i, n, rfl, hi, hgk, rfl, rfl, rfl, rfl, rfl⟩ := hrel
    by_cases hlt : i < ts.length
    · have hltz : (i : Int) < (ts.length : Int) := by omega
      have hiz : (0 : Int) ≤ (i : Int) := by omega
      obtain ⟨bt, ot, rfl, hct⟩ : ∃ b off, pl = some ⟨b, off, none⟩ ∧ ∀ i, (h : i < ts.length) → w1.cell? ⟨b, off + i, none⟩ = some (.string ts[i]) := by
        rcases HTL.out with h | h
        · rw [h] at hlt; simp at hlt
        · exact h
      have H6 := hid (any_snocT (f := tokenB xt) hlt)
      have H7 := hid (any_snocT (f := fun t => beginsB t xt) hlt)
      have H8 := hid (any_snocT (f := fun t => ltB t xt) hlt)
      have H9 := hid (any_snocT (f := fun t => ltB xt t) hlt)
      have hts := HFT.out _ (List.getElem_mem hlt)
      have hkf : ∀ m, (w1.drewN m).cell? ⟨w.heap.size, 2, none⟩ = some (.string xt) ∧ (w1.drewN m).cell? ⟨bt, ot + i, none⟩ = some (.string ts[i]) := fun m => ⟨k2 m, hct i hlt⟩
      obtain ⟨t, ht⟩ : ∃ t, ts[i] = t := ⟨_, rfl⟩
      rw [ht] at hkf H6 H7 H8 H9 hts
      have KF := hid hkf
      have HTK := hid (fun W => rtoken_any xt t W HXS.out hts)
      have HBG := hid (fun W => rbegins_any t xt W HXS.out)
      obtain ⟨B6, hB6⟩ : ∃ B, (ts.take i).any (tokenB xt) = B := ⟨_, rfl⟩
      obtain ⟨B7, hB7⟩ : ∃ B, (ts.take i).any (fun t => beginsB t xt) = B := ⟨_, rfl⟩
      obtain ⟨B8, hB8⟩ : ∃ B, (ts.take i).any (fun t => ltB t xt) = B := ⟨_, rfl⟩
      obtain ⟨B9, hB9⟩ : ∃ B, (ts.take i).any (fun t => ltB xt t) = B := ⟨_, rfl⟩
      rw [hB6] at H6 ⊢
      rw [hB7] at H7 ⊢
      rw [hB8] at H8 ⊢
      rw [hB9] at H9 ⊢
      obtain ⟨L8, hL8⟩ : ∃ B, ltB t xt = B := ⟨_, rfl⟩
      obtain ⟨L9, hL9⟩ : ∃ B, ltB xt t = B := ⟨_, rfl⟩
      have hg9 := gtr_of t xt
      rw [hL8, hL9] at hg9
      have HG9 := hid hg9
      clear hg9
      rw [hL8] at H8
      rw [hL9] at H9
      have g8 := sless_of hL8
      have g9 := sless_of hL9
      obtain ⟨W, hW⟩ : ∃ W, w1.drewN n = W := ⟨_, rfl⟩
      obtain ⟨f2, ct⟩ := hkf n
      rw [hW] at f2 ct ⊢
      have HW := hid hW
      clear hB6 hB7 hB8 hB9 hct ht hkf hts hW hL8 hL9
      go_upto_region 6 with fail
      go_cut [6] from 15 to 60 (fun v wx => (∃ m, wx = w1.drewN m) ∧ v = .bool (B6 || tokenB xt t))
      case first =>
        cases B6 with
        | true =>
          refine wp_region_quiet_lit mixed (by kernel_rfl) ?_
          repeat (go_big_quiet_step (fail))
          refine wpQuiet_nil ?_
          intro _ hw'
          obtain ⟨nq, hw''⟩ := hw'
          subst hw''
          go_wp2_with fail
          go_meet
          case rel => exact ⟨⟨_, by rw [← HW.out, World.drewN_drewN]⟩, rfl⟩
        | false =>
          refine wp_region_quiet_lit mixed (by kernel_rfl) ?_
          repeat (go_big_quiet_step (first | (go_at_call 81; refine Calls.quiet_of (HTK.out _))))
          refine wpQuiet_nil ?_
          intro _ hw'
          obtain ⟨nq, hw''⟩ := hw'
          subst hw''
          go_wp2_with fail
          go_meet
          case rel => exact ⟨⟨_, by rw [← HW.out, World.drewN_drewN]⟩, rfl⟩
      case rest =>
      obtain ⟨⟨m6, rfl⟩, rfl⟩ := hcut
      clear f2 ct HW
      obtain ⟨W, hW⟩ : ∃ W, w1.drewN m6 = W := ⟨_, rfl⟩
      obtain ⟨f2, ct⟩ := KF.out m6
      rw [hW] at f2 ct ⊢
      have HW := hid hW
      clear hW
      go_upto_region 7 with fail
      go_cut [7] from 15 to 60 (fun v wx => (∃ m, wx = w1.drewN m) ∧ v = .bool (B7 || beginsB t xt))
      case first =>
        cases B7 with
        | true =>
          refine wp_region_quiet_lit mixed (by kernel_rfl) ?_
          repeat (go_big_quiet_step (fail))
          refine wpQuiet_nil ?_
          intro _ hw'
          obtain ⟨nq, hw''⟩ := hw'
          subst hw''
          go_wp2_with fail
          go_meet
          case rel => exact ⟨⟨_, by rw [← HW.out, World.drewN_drewN]⟩, rfl⟩
        | false =>
          refine wp_region_quiet_lit mixed (by kernel_rfl) ?_
          repeat (go_big_quiet_step (first | (go_at_call 82; refine Calls.quiet_of_same (HBG.out _))))
          refine wpQuiet_nil ?_
          intro _ hw'
          obtain ⟨nq, hw''⟩ := hw'
          subst hw''
          go_wp2_with fail
          go_meet
          case rel => exact ⟨⟨_, by rw [← HW.out, World.drewN_drewN]⟩, rfl⟩
      case rest =>
      obtain ⟨⟨m7, rfl⟩, rfl⟩ := hcut
      clear f2 ct HW
      obtain ⟨W, hW⟩ : ∃ W, w1.drewN m7 = W := ⟨_, rfl⟩
      obtain ⟨f2, ct⟩ := KF.out m7
      rw [hW] at f2 ct ⊢
      have HW := hid hW
      clear hW
      go_upto_region 8 with fail
      go_cut [8] from 15 to 60 (fun v wx => (∃ m, wx = w1.drewN m) ∧ v = .bool (B8 || L8))
      case first =>
        cases B8 with
        | true =>
          refine wp_region_quiet_lit mixed (by kernel_rfl) ?_
          repeat (go_big_quiet_step (fail))
          refine wpQuiet_nil ?_
          intro _ hw'
          obtain ⟨nq, hw''⟩ := hw'
          subst hw''
          go_wp2_with fail
          go_meet
          case rel => exact ⟨⟨_, by rw [← HW.out, World.drewN_drewN]⟩, rfl⟩
        | false =>
          refine wp_region_quiet_lit mixed (by kernel_rfl) ?_
          repeat (go_big_quiet_step (fail))
          refine wpQuiet_nil ?_
          intro _ hw'
          obtain ⟨nq, hw''⟩ := hw'
          subst hw''
          go_wp2_with fail
          go_meet
          case rel => exact ⟨⟨_, by rw [← HW.out, World.drewN_drewN]⟩, rfl⟩
      case rest =>
      obtain ⟨⟨m8, rfl⟩, rfl⟩ := hcut
      clear f2 ct HW
      obtain ⟨W, hW⟩ : ∃ W, w1.drewN m8 = W := ⟨_, rfl⟩
      obtain ⟨f2, ct⟩ := KF.out m8
      rw [hW] at f2 ct ⊢
      have HW := hid hW
      clear hW
      cases B9 with
      | true =>
        go_wp2_with fail
        refine wp_region_quiet_lit mixed (by kernel_rfl) ?_
        repeat (go_big_quiet_step (fail))
        refine wpQuiet_nil ?_
        intro _ hw'
        obtain ⟨nq, hw''⟩ := hw'
        subst hw''
        go_wp2_with fail
        go_roundg (ts.length - (i + 1))
        case measure => omega
        case rel => exact ⟨i + 1, m8 + nq, by go_num, by omega, by omega, by rw [H6.out], by rw [H7.out], by rw [H8.out], by rw [H9.out]; rfl, by rw [← HW.out, World.drewN_drewN]⟩
      | false =>
        go_wp2_with fail
        refine wp_region_quiet_lit mixed (by kernel_rfl) ?_
        repeat (go_big_quiet_step (fail))
        refine wpQuiet_nil ?_
        intro _ hw'
        obtain ⟨nq, hw''⟩ := hw'
        subst hw''
        go_wp2_with fail
        go_roundg (ts.length - (i + 1))
        case measure => omega
        case rel => exact ⟨i + 1, m8 + nq, by go_num, by omega, by omega, by rw [H6.out], by rw [H7.out], by rw [H8.out], by rw [H9.out, ← HG9.out]; rfl, by rw [← HW.out, World.drewN_drewN]⟩
    · have hltz : ¬ (i : Int) < (ts.length : Int) := by omega
      rw [List.take_of_length_le (by omega)]
      have e1 := k1 n
      have HHT : Hid (holdsT (xf, xo, xt) ts = if xo = 1 then ts.any (tokenB xt) else if xo = 2 then !ts.any (tokenB xt) else if xo = 3 then ts.any (fun t => beginsB t xt) else if xo = 4 then ts.any (fun t => ltB t xt) else if xo = 5 then ts.any (fun t => ltB xt t) else if xo = 6 then decide (0 < ts.length) else if xo = 7 then decide (ts.length = 0) else false) := rfl
      have HGR : Hid (Grown w (w1.drewN n)) := HG1.out.drewN n
      have z6 : decide ((0 : Int) < (ts.length : Int)) = decide (0 < ts.length) := by rw [decide_eq_decide]; omega
      have z7 : ((ts.length : Int) == 0) = decide (ts.length = 0) := by rw [Bool.eq_iff_iff, beq_iff_eq, decide_eq_true_iff]; omega
      have Z6 := hid z6
      have Z7 := hid z7
      clear z6 z7
      by_cases h1 : xo = 1
      · have HV := HHT.out
        rw [if_pos h1] at HV
        have HVV := hid HV
        subst h1
        clear HV HHT 
        go_wp2_with fail
        go_ret
        exact ⟨ret_bool (by rw [HVV.out]), HGR.out⟩
      have d1 : (xo == 1) = false := beq_eq_false_iff_ne.2 h1
      by_cases h2 : xo = 2
      · have HV := HHT.out
        rw [if_neg h1, if_pos h2] at HV
        have HVV := hid HV
        subst h2
        clear HV HHT h1
        go_wp2_with fail
        go_ret
        exact ⟨ret_bool (by rw [HVV.out]), HGR.out⟩
      have d2 : (xo == 2) = false := beq_eq_false_iff_ne.2 h2
      by_cases h3 : xo = 3
      · have HV := HHT.out
        rw [if_neg h1, if_neg h2, if_pos h3] at HV
        have HVV := hid HV
        subst h3
        clear HV HHT h1 h2
        go_wp2_with fail
        go_ret
        exact ⟨ret_bool (by rw [HVV.out]), HGR.out⟩
      have d3 : (xo == 3) = false := beq_eq_false_iff_ne.2 h3
      by_cases h4 : xo = 4
      · have HV := HHT.out
        rw [if_neg h1, if_neg h2, if_neg h3, if_pos h4] at HV
        have HVV := hid HV
        subst h4
        clear HV HHT h1 h2 h3
        go_wp2_with fail
        go_ret
        exact ⟨ret_bool (by rw [HVV.out]), HGR.out⟩
      have d4 : (xo == 4) = false := beq_eq_false_iff_ne.2 h4
      by_cases h5 : xo = 5
      · have HV := HHT.out
        rw [if_neg h1, if_neg h2, if_neg h3, if_neg h4, if_pos h5] at HV
        have HVV := hid HV
        subst h5
        clear HV HHT h1 h2 h3 h4
        go_wp2_with fail
        go_ret
        exact ⟨ret_bool (by rw [HVV.out]), HGR.out⟩
      have d5 : (xo == 5) = false := beq_eq_false_iff_ne.2 h5
      by_cases h6 : xo = 6
      · have HV := HHT.out
        rw [if_neg h1, if_neg h2, if_neg h3, if_neg h4, if_neg h5, if_pos h6] at HV
        have HVV := hid HV
        subst h6
        clear HV HHT h1 h2 h3 h4 h5
        go_wp2_with fail
        go_ret
        exact ⟨ret_bool (by rw [HVV.out]), HGR.out⟩
      have d6 : (xo == 6) = false := beq_eq_false_iff_ne.2 h6
      by_cases h7 : xo = 7
      · have HV := HHT.out
        rw [if_neg h1, if_neg h2, if_neg h3, if_neg h4, if_neg h5, if_neg h6, if_pos h7] at HV
        have HVV := hid HV
        subst h7
        clear HV HHT h1 h2 h3 h4 h5 h6
        go_wp2_with fail
        go_ret
        exact ⟨ret_bool (by rw [HVV.out]; first | rfl | exact Z7.out), HGR.out⟩
      have d7 : (xo == 7) = false := beq_eq_false_iff_ne.2 h7
      have HV := HHT.out
      rw [if_neg h1, if_neg h2, if_neg h3, if_neg h4, if_neg h5, if_neg h6, if_neg h7] at HV
      have HVV := hid HV
      clear HV HHT h1 h2 h3 h4 h5 h6 h7
      go_wp2_with fail
      go_ret
      exact ⟨ret_bool HVV.out.symm, HGR.out⟩

set_option maxHeartbeats 2000000 in
set_option maxRecDepth 100000 in
theorem rmatch_any (u v : Value) (p : List Tm) (d : List Fx) (w : World) (hu : KM.Is w u p) (hp : FitM p) (hv : IsXs w v d) (hf : FitX d) :
    Calls Tryz.prog 44 #[u, v] w fun e w' => e = .returned (.bool (matchM p (d.map Fx.fld))) ∧ Grown w w' := by
  obtain ⟨q, cap, rfl, hd⟩ := hu
  have hl := hp.1
  unfold maxLen at hl
  have HD := hid hd
  have HP := hid hp.2
  have HHO : Hid (∀ x ∈ p, ∀ W, Below w.heap.size w W → Calls Tryz.prog 62 #[.agg #[.string x.1, .int .i64 x.2.1, .string x.2.2], v] W fun e w' => e = .returned (.bool (holdsM x (d.map Fx.fld))) ∧ Grown W w') := fun x hx W hW => rholds_any x v d W (hv.kept hW) hf (hp.2 x hx).2.1
  obtain ⟨r, hr⟩ : ∃ r, matchM p (d.map Fx.fld) = r := ⟨_, rfl⟩
  rw [hr]
  have HR := hid hr
  clear hd hp hr hv hf
  go_enter Tryz.func44, Tryz.ntmps44
  go_wp2_with fail
  go_loopg [5] p.length (fun g vi ws => ∃ i : Nat, vi = .int .i64 i ∧ i ≤ p.length ∧ p.length - i ≤ g ∧ Hid (∀ j, (h : j < p.length) → j < i → holdsM p[j] (d.map Fx.fld) = true) ∧ Hid (Grown w ws))
  case atStart => exact ⟨0, rfl, by omega, by omega, fun j _ h => by omega, Grown.refl _⟩
  case round =>
    obtain ⟨i, rfl, hi, hgk, HJ, HG⟩ := hrel
    by_cases hlt : i < p.length
    · have hltz : (i : Int) < (p.length : Int) := by omega
      have hiz : (0 : Int) ≤ (i : Int) := by omega
      obtain ⟨b, off, rfl, hat⟩ : ∃ b off, q = some ⟨b, off, none⟩ ∧ KM.At w b off p := by
        rcases HD.out with h | h
        · subst h; simp at hlt
        · exact h
      obtain ⟨c0, c1, c2⟩ := km_cells (Kind.at_kept hat HG.out.below) i hlt
      have HC := hid (HHO.out _ (List.getElem_mem hlt) wr HG.out.below)
      cases hh : holdsM p[i] (d.map Fx.fld) with
      | false =>
        have H0 : Hid (r = false) := by
          show _ = _
          rw [← HR.out]
          unfold matchM
          rw [List.all_eq_false]
          exact ⟨p[i], List.getElem_mem hlt, by rw [hh]; simp⟩
        rw [hh] at HC
        generalize p[i] = x at c0 c1 c2 HC
        clear hat hh
        go_wp2_with (first | (go_at_call 62; refine HC.out.mono ?_; rintro e w2 ⟨rfl, g2⟩))
        go_ret
        exact ⟨ret_bool H0.out.symm, HG.out.trans g2⟩
      | true =>
        have HJ2 : Hid (∀ j, (h : j < p.length) → j < i + 1 → holdsM p[j] (d.map Fx.fld) = true) := fun j h hj => by
          by_cases e : j = i
          · subst e; exact hh
          · exact HJ.out j h (by omega)
        rw [hh] at HC
        generalize p[i] = x at c0 c1 c2 HC
        clear hat hh
        go_wp2_with (first | (go_at_call 62; refine HC.out.mono ?_; rintro e w2 ⟨rfl, g2⟩))
        go_roundg (p.length - (i + 1))
        case measure => omega
        case rel => exact ⟨i + 1, by go_num, by omega, by omega, HJ2, HG.out.trans g2⟩
    · have hltz : ¬ (i : Int) < (p.length : Int) := by omega
      have H0 : Hid (r = true) := by
        show _ = _
        rw [← HR.out]
        unfold matchM
        rw [List.all_eq_true]
        intro x hx
        obtain ⟨j, hj, rfl⟩ := List.mem_iff_getElem.1 hx
        exact HJ.out j hj (by omega)
      go_wp2_with fail
      go_ret
      exact ⟨ret_bool H0.out.symm, HG.out⟩

end Go.Proofs.YtjehjjpdicimhaaGreat
