/-
  Texts of this claim, one behind the other: Dou Dsm Dcm Dcw.
-/
import Derived.Test.YtmfhbkickaofcaaGreatPf
import Derived.Test.YtmfhbkickaofcaaGreatPe
/-
  What rows of stage 7 open a stamp by.
-/
namespace Go.Proofs.YtmfhbkickaofcaaGreat
open Go.ChangeShapes Go.WideShapes Go.ChangeAt Go.RowKit Go.Lib Go.Deep Go.Joins

set_option maxRecDepth 100000 in
theorem open_u64Y {H : Type} {enc : TypeId × Value → H} {W : World} {b0 : Nat} {v : Value} {d : DataW H} {p : List MemPlace}
    (hv : Value.okWide Tryz.prog W .any b0 32 v) (h : DataW.Trod enc Tryz.prog W 0 (fun _ => true) true 32 v d p) : ∃ t, v = .int .u64 t ∧ 0 ≤ t ∧ t ≤ 18446744073709551615 := by
  obtain ⟨n, rfl, _, _, hw⟩ := open_int Tryz.underlying32 hv h
  have hws : 0 ≤ n ∧ n ≤ 18446744073709551615 := by
    simp only [Lit.wf, IntKind.min, IntKind.max, IntKind.signed, IntKind.bits] at hw
    simpa using hw
  exact ⟨n, rfl, hws.1, hws.2⟩

end Go.Proofs.YtmfhbkickaofcaaGreat

/-
  The laws of stage 7: two answers held against each other.
-/
namespace Go.Proofs.YtmfhbkickaofcaaGreat
open Go.RowKit

theorem val_atJ {w : World} {x : Vx} {N : Nat} (h : OwnJ N w x.sl x.o) : x.at w := h.1.is

theorem sameF_true {W1 w1 W2 w2 : World} {l : List Fnd} {u1 u2 : Value} (h1 : FdPost W1 l (.returned u1) w1) (hb : Below w1.heap.size w1 w2) (h2 : FdPost W2 l (.returned u2) w2) (hl : l.length ≤ 2400000000000) :
    Calls Tryz.prog 14 #[u1, u2] w2 fun r w' => r = .returned (.bool true) ∧ Below w2.heap.size w2 w' := by
  obtain ⟨v1, d, e1, a1, a2, a3, _⟩ := h1
  obtain ⟨v2, e, e2, b1, b2, b3, _⟩ := h2
  injection e1 with e1
  injection e2 with e2
  subst e1 e2
  have hdl : d.length ≤ 2400000000000 := by
    have := congrArg List.length a3
    rw [List.length_map] at this
    omega
  have := sameFd_any u1 u2 d e w2 (Kind.own_is (Kind.own_on a1 hb)) (Kind.own_is b1) (fun x hx => ⟨val_atJ ((a2 x hx).1.on hb), (may_fit (a2 x hx).2).1⟩) (fun x hx => ⟨val_atJ (b2 x hx).1, (may_fit (b2 x hx).2).1⟩) (by unfold maxLen; omega)
  rw [decide_eq_true (a3.trans b3.symm)] at this
  exact this

theorem sameK_true {N1 N2 : Nat} {w1 w2 : World} {l : List Ky} {u1 u2 : Value} (h1 : KK.Own N1 w1 u1 l) (hb : Below w1.heap.size w1 w2) (h2 : KK.Own N2 w2 u2 l) (hl : l.length ≤ 2400000000000) :
    Calls Tryz.prog 21 #[u1, u2] w2 fun r w' => r = .returned (.bool true) ∧ Below w2.heap.size w2 w' := by
  have := Z.zsame_any u1 u2 l l w2 (Z.Own.is (z_own.2 (Kind.own_on h1 hb))) (Z.Own.is (z_own.2 h2)) (by unfold maxLen; omega) (by unfold maxLen; omega)
  refine this.mono ?_
  rintro e w' ⟨rfl, n, rfl⟩
  exact ⟨by rw [decide_eq_true rfl], bel_drewN (Below.refl _ _) n⟩

theorem sameVs_true {W1 w1 W2 w2 : World} {l : List Vr} {u1 u2 : Value} (h1 : AllPost W1 l (.returned u1) w1) (hb : Below w1.heap.size w1 w2) (h2 : AllPost W2 l (.returned u2) w2) (hm : ∀ v ∈ l, mayB v.val = true) (hl : l.length ≤ 2400000000000) :
    Calls Tryz.prog 23 #[u1, u2] w2 fun r w' => r = .returned (.bool true) ∧ Below w2.heap.size w2 w' := by
  obtain ⟨v1, o1, e1, t1, _⟩ := all_told h1
  obtain ⟨v2, o2, e2, t2, _⟩ := all_told h2
  injection e1 with e1
  injection e2 with e2
  subst e1 e2
  have t1' := t1.on hb
  have := sameVs_any u1 u2 o1 o2 w2 (Kind.own_is t1'.own) (Kind.own_is t2.own) (t1'.fits hm) (t2.fits hm) (by have := t1.len; unfold maxLen; omega)
  rw [decide_eq_true (t1'.ver.trans t2.ver.symm)] at this
  exact this

/-- Two versions in boxes. -/
theorem sameV_true {x y : Vx} {o : Option Vr} {w : World} {N M : Nat} (hx : x.ver = o.getD zeroV) (hy : y.ver = o.getD zeroV) (jx : OwnJ N w x.sl x.o) (jy : OwnJ M w y.sl y.o) (hm : ∀ v, o = some v → mayB v.val = true) :
    Calls Tryz.prog 27 #[.agg (encVx x).toArray, .agg (encVx y).toArray] w fun e w' => e = .returned (.bool true) ∧ Below w.heap.size w w' := by
  have := sameV_any x y w jx.1.is jy.1.is (vans_fit hx hm) (vans_fit hy hm)
  rw [decide_eq_true (hx.trans hy.symm)] at this
  exact this

theorem log_same {A B : List RowD} (hA : OkD A) {typ : ByteArray} {t : Int} (he : sinceD B typ t = sinceD A typ t) {W1 w1 W2 w2 : World} {u1 u2 : Value} (h1 : LogPost W1 A typ t (.returned u1) w1) (hb : Below w1.heap.size w1 w2) (h2 : LogPost W2 B typ t (.returned u2) w2) (hl : (sinceD A typ t).length ≤ 2400000000000) :
    Calls Tryz.prog 14 #[u1, u2] w2 fun r w' => r = .returned (.bool true) ∧ Below w2.heap.size w2 w' := by
  obtain ⟨r1, a1, a2, a3⟩ := h1
  obtain ⟨r2, b1, b2, b3⟩ := h2
  rw [he] at b2
  obtain rfl := log_uniq hA a2 b2 a3 b3
  exact sameF_true a1 hb b1 (by rw [a2.length_eq]; exact hl)

end Go.Proofs.YtmfhbkickaofcaaGreat

/-
  The laws of stage 7: what DirCounts counts. No program.
-/
namespace Go.Proofs.YtmfhbkickaofcaaGreat
open Go.RowKit

/-- A directory's types come from the script. -/
theorem step_types {D : List RowD} {x : Oy} {k : Ky} (hk : k ∈ (stepD D x).map Prod.fst) : k = x.key ∨ k ∈ D.map Prod.fst := by
  unfold stepD at hk
  split at hk
  · rw [pruneD_keys] at hk; exact Or.inr hk
  · unfold putD at hk
    split at hk
    · rw [setD_keys] at hk; exact (mem_insR _ _ _ _).1 hk
    · exact Or.inr hk

theorem fold_types : ∀ (ops : List Oy) (D : List RowD) (k : Ky), k ∈ (ops.foldl stepD D).map Prod.fst → k.1 ∈ ops.map Oy.a ∨ k ∈ D.map Prod.fst
  | [], D, k, hk => Or.inr hk
  | x :: ops, D, k, hk => by
    rcases fold_types ops (stepD D x) k hk with h | h
    · exact Or.inl (by rw [List.map_cons]; exact List.mem_cons_of_mem _ h)
    · rcases step_types h with h | h
      · exact Or.inl (by rw [h, List.map_cons]; exact List.mem_cons_self ..)
      · exact Or.inr h

theorem laid_types (ops : List Oy) (k : Ky) (hk : k ∈ (laidD ops).map Prod.fst) : k.1 ∈ ops.map Oy.a := by
  rcases fold_types ops [] k hk with h | h
  · exact h
  · simp at h

theorem sum_part (n : Nat) (a : ByteArray) (ts : List ByteArray) (hn : ts.Nodup) : (ts.map fun t => if a = t then n else 0).sum ≤ n := by
  by_cases h : a ∈ ts
  · rw [sum_hit n a ts hn h]; exact Nat.le_refl _
  · have : (ts.map fun t => if a = t then n else 0) = ts.map fun _ => 0 := List.map_congr_left fun t ht => if_neg fun e => h (by rw [e]; exact ht)
    rw [this]
    have z : ∀ l : List ByteArray, (l.map fun _ => 0).sum = 0 := fun l => by induction l with
      | nil => rfl
      | cons _ _ ih => rw [List.map_cons, List.sum_cons, ih]
    rw [z]; omega

/-- Some types: at most all versions. -/
theorem count_some {ts : List ByteArray} (hn : ts.Nodup) : ∀ {d : List RowD}, OkD d → (ts.map fun t => countT d t).sum ≤ countD d
  | [], _ => by
    have : ∀ l : List ByteArray, (l.map fun t => countT [] t).sum = 0 := fun l => by induction l with
      | nil => rfl
      | cons _ _ ih => rw [List.map_cons, List.sum_cons, ih]; rfl
    rw [this]; exact Nat.zero_le _
  | r :: d, h => by
    have e : (ts.map fun t => countT (r :: d) t) = ts.map fun t => (if r.1.1 = t then r.2.length else 0) + countT d t := List.map_congr_left fun t _ => countT_cons h t
    have h1 := sum_part r.2.length r.1.1 ts hn
    have h2 := count_some hn h.tail
    have h3 : countD (r :: d) = r.2.length + countD d := rfl
    rw [e, sum_add2, h3]
    exact Nat.add_le_add h1 h2

/-- What the types ts of D count. -/
def sumT (D : List RowD) (ts : List ByteArray) : Nat := (ts.map fun t => countT D t).sum
theorem sumT_snoc (D : List RowD) (ts : List ByteArray) (a : ByteArray) : sumT D (ts ++ [a]) = sumT D ts + countT D a := by
  unfold sumT
  rw [List.map_append, List.sum_append]
  simp
def sumK (D : List RowD) (ks : List Ky) : Nat := (ks.map fun k => (ofD D k).length).sum
theorem sumK_snoc (D : List RowD) (ks : List Ky) (k : Ky) : sumK D (ks ++ [k]) = sumK D ks + (ofD D k).length := by
  unfold sumK
  rw [List.map_append, List.sum_append]
  simp
theorem sumK_take (D : List RowD) (ks : List Ky) (j : Nat) : sumK D (ks.take j) ≤ sumK D ks := by
  have h : sumK D ks = sumK D (ks.take j) + sumK D (ks.drop j) := by
    conv => lhs; rw [← List.take_append_drop j ks]
    unfold sumK
    rw [List.map_append, List.sum_append]
  omega
theorem sumK_keys (D : List RowD) (a : ByteArray) : sumK D (keysD D a) = countT D a := rfl

/-- Finds in their order, one behind the other. -/
theorem walk_next {D : List RowD} (h : OkD D) {t : Int} {n i : Nat} {fs : List Fd} (hf : fs.map Fd.fnd = (walkD D t).take n) (hi : i + 1 < fs.length) : ltKy ((fs[i]'(by omega)).a, (fs[i]'(by omega)).b) ((fs[i + 1]).a, (fs[i + 1]).b) = true := by
  have h1 := walkD_rise h t
  have h2 : (fs.map Fd.fnd).map Prod.fst = ((walkD D t).map Prod.fst).take n := by rw [hf, List.map_take]
  have h3 : RisingR ltKy ((fs.map Fd.fnd).map Prod.fst) := by rw [h2]; exact h1.sublist (List.take_sublist _ _)
  have h4 := List.pairwise_iff_getElem.1 h3 i (i + 1) (by simp; omega) (by simp; omega) (by omega)
  simpa [Fd.fnd] using h4

theorem walk_each {D : List RowD} (h : OkD D) {t : Int} {n i : Nat} {fs : List Fd} (hf : fs.map Fd.fnd = (walkD D t).take n) (hi : i < fs.length) : atV (ofD D ((fs[i]).a, (fs[i]).b)) t = some (fs[i]).v.ver ∧ (fs[i]).v.ver.live = true := by
  have h1 : (fs[i]).fnd ∈ walkD D t := by
    have : (fs[i]).fnd ∈ fs.map Fd.fnd := List.mem_map.2 ⟨_, List.getElem_mem hi, rfl⟩
    rw [hf] at this
    exact List.mem_of_mem_take this
  exact walkD_mem h h1

theorem ltKy_parts {pa pb a b : ByteArray} (h : ltKy (pa, pb) (a, b) = true) : ltB a pa = false ∧ (pa = a → ltB pb b = true) := by
  rcases ltKy_true.1 h with h | ⟨h1, h2⟩
  · refine ⟨ltB_asymm h, fun e => ?_⟩
    simp only at h
    rw [e, ltB_irrefl] at h
    cases h
  · simp only at h1 h2
    exact ⟨by rw [h1]; exact ltB_irrefl _, fun _ => h2⟩

end Go.Proofs.YtmfhbkickaofcaaGreat

/-
  The laws of stage 7: DirCounts, walked.
-/
namespace Go.Proofs.YtmfhbkickaofcaaGreat
open Go.RowKit

/-- Between two operations: the types seen so far, each once, and what they count. -/
structure CtSt (T : Nat) (wL : World) (ops : List Oy) (i : Nat) (ts : List ByteArray) (v : Value) (W : World) : Prop where
  bel : Below T wL W
  own : KT.Own T W v ts
  nd : ts.Nodup
  len : ts.length ≤ i
  seen : ∀ j, (h : j < ops.length) → j < i → (ops[j]).a ∈ ts

def SeenB (B : Bool) (a : ByteArray) (l : List ByteArray) : Prop := B = true ↔ a ∈ l
theorem seen_zero (a : ByteArray) (l : List ByteArray) : SeenB false a (l.take 0) := by unfold SeenB; simp
theorem seen_hit {a : ByteArray} {l : List ByteArray} {j : Nat} (hj : j < l.length) (e : l[j] = a) : SeenB true a (l.take (j + 1)) := by
  unfold SeenB
  rw [List.take_succ_eq_append_getElem hj, e]
  simp
theorem seen_miss {B : Bool} {a : ByteArray} {l : List ByteArray} {j : Nat} (hj : j < l.length) (h : SeenB B a (l.take j)) (e : l[j] ≠ a) : SeenB B a (l.take (j + 1)) := by
  unfold SeenB at *
  rw [List.take_succ_eq_append_getElem hj, List.mem_append, List.mem_singleton, h]
  exact ⟨Or.inl, fun h => h.resolve_right fun h' => e h'.symm⟩
theorem seen_stay {a : ByteArray} {l : List ByteArray} {j : Nat} (hj : j < l.length) (h : SeenB true a (l.take j)) : SeenB true a (l.take (j + 1)) := by
  unfold SeenB at *
  rw [List.take_succ_eq_append_getElem hj, List.mem_append]
  exact ⟨fun h' => Or.inl (h.1 h'), fun _ => rfl⟩
theorem seen_in {a : ByteArray} {l : List ByteArray} (h : SeenB true a l) : a ∈ l := h.1 rfl
theorem seen_out {a : ByteArray} {l : List ByteArray} (h : SeenB false a l) : a ∉ l := fun h' => by have := h.2 h'; cases this

/-- An append to a row of texts leaves what is of another type. -/
theorem heap_grown {w w4 : World} {v : Value} {T O : Nat} {ts : List ByteArray} {cs : Array Value} {ty : TypeId} (ho : KT.Own T w v ts) (hg : w.grownBy w4 v.ownBlock) (hO : w.heap[O]? = some (.cells cs ty (0, 0))) (hne : ty ≠ 9) : w4.heap[O]? = some (.cells cs ty (0, 0)) := by
  refine (hg.block O (Array.getElem?_eq_some_iff.1 hO).1 fun e => ?_).trans hO
  obtain ⟨c, hc⟩ := own_type ho e.symm
  rw [hO] at hc
  injection hc with hc
  injection hc with _ hc _
  exact hne hc

theorem nodup_snoc {ts : List ByteArray} {a : ByteArray} (h : ts.Nodup) (ha : a ∉ ts) : (ts ++ [a]).Nodup := by
  refine List.nodup_append.2 ⟨h, by simp, fun x hx y hy => ?_⟩
  rw [List.mem_singleton] at hy
  subst hy
  intro e
  subst e
  exact ha hx

theorem gtr_no {a p : ByteArray} (h : ltB a p = false) : (!Op.bytesLess p.toList a.toList && !(p.toList == a.toList)) = false := by
  rcases ltB_cases p a with h1 | h1 | h1
  · rw [sless_of h1]; rfl
  · subst h1; simp
  · rw [h] at h1; cases h1

set_option maxHeartbeats 16000000 in
set_option maxRecDepth 100000 in
theorem counts7_any (v : Value) (ops : List Oy) (tt : Int) (w : World) (hv : KY.Is w v ops) (hx : ∀ x ∈ ops, OpY w x) (hl : ops.length ≤ 1200000000000) :
    Calls Tryz.prog 8 #[v, .int .u64 tt] w fun e w' => e = .returned (.bool true) ∧ Below w.heap.size w w' := by
  have HV := hid hv
  obtain ⟨p, cap, rfl, hd⟩ := hv
  have HD := hid hd
  have HX := hid hx
  obtain ⟨N, hN⟩ : ∃ N, w.heap.size = N := ⟨_, rfl⟩
  obtain ⟨i0, hi0, hz0, hz1, hz2⟩ := info_parts Tryz.infoStr
  have HI := hid hi0
  have HFX := hid (fixedD_any w)
  rw [hN] at HFX
  rw [hN]
  clear hd hx hi0
  go_enter Tryz.func8, Tryz.ntmps8
  go_wp2_with fail
  refine HFX.out.mono ?_
  rintro e w2 ⟨rfl, hb2⟩
  have hb2' : Below w.heap.size w w2 := by rw [hN]; exact hb2
  have HLA := hid (laidD_any _ ops w2 (Kind.is_kept HV.out hb2') (fun x hx => (HX.out x hx).on hb2') hl)
  have HB2 := hid hb2
  have hs2 := hb2.size
  clear hb2 hb2' HFX
  go_wp2_with fail
  refine HLA.out.mono ?_
  rintro e w3 ⟨ga, rfl, hA3, hb3⟩
  have HTY := hid (laid_types ops)
  obtain ⟨A, hA⟩ : ∃ A, laidD ops = A := ⟨_, rfl⟩
  rw [hA] at hA3 HTY
  have HA3 := hid hA3
  have HB3 : Hid (Below w.heap.size w w3) := by show Below _ _ _; rw [hN]; exact HB2.out.trans (hb3.mono (by omega))
  have hs3 := HB3.out.size
  have HOK := hid hA3.ok
  have hfew := hA3.few
  have hcl : countD A ≤ 1200000000000 := by omega
  obtain ⟨T, hT⟩ : ∃ T, w3.heap.size = T := ⟨_, rfl⟩
  have HST0 : Hid (CtSt T w3 ops 0 [] (.slice none 0 0) w3) := ⟨Below.refl _ _, KT.own_nil _ _, List.nodup_nil, Nat.le_refl _, fun j _ h => by omega⟩
  clear hA3 hb3 HLA HB2 hA
  go_wp2_with fail
  go_loopg [6, 7, 29] ops.length (fun gg vn vt vi wr => ∃ (i : Nat) (ts : List ByteArray), vi = .int .i64 i ∧ i ≤ ops.length ∧ ops.length - i ≤ gg ∧ vn = .int .i64 (sumT A ts : Nat) ∧ Hid (CtSt T w3 ops i ts vt wr))
  case atStart => exact ⟨0, [], rfl, by omega, by omega, rfl, HST0.out⟩
  case round =>
    clear HST0
    obtain ⟨i, ts, rfl, hi, hgi, rfl, HS⟩ := hrel
    have hbT : Below w3.heap.size w3 wr := by rw [hT]; exact HS.out.bel
    have hbw : Below w.heap.size w wr := bel_then HB3.out hs3 hbT
    have hst := count_some HS.out.nd HOK.out
    have hsT : T ≤ wr.heap.size := by rw [← hT]; exact hbT.size
    obtain ⟨pt, ct, rfl⟩ := Kind.own_shape HS.out.own
    by_cases hlt : i < ops.length
    · have hltz : (i : Int) < (ops.length : Int) := by omega
      have hiz : (0 : Int) ≤ i := by omega
      obtain ⟨b1, o1, rfl, k1⟩ : ∃ b off, p = some ⟨b, off, none⟩ ∧ KY.At w b off ops := by
        rcases HD.out with h | h
        · rw [h] at hlt; simp at hlt
        · exact h
      obtain ⟨y0, y1, y2, y3, y4, y5, y6, y7, y8⟩ := ky_at (Kind.at_kept k1 hbw) i hlt
      have HXA : Hid (∀ ts' : List ByteArray, (∀ t ∈ ts, t ∈ ts') → (ops[i]).a ∈ ts' → ∀ j, (h : j < ops.length) → j < i + 1 → (ops[j]).a ∈ ts') := fun ts' h1 h2 j hj hji => by
        by_cases e : j = i
        · subst e; exact h2
        · exact h1 _ (HS.out.seen j hj (by omega))
      generalize ops[i] = x at *
      obtain ⟨W5, hW5⟩ : ∃ W5, wr.alloc (.cells (encY x).toArray 36) = W5 := ⟨_, rfl⟩
      have hba : Below wr.heap.size wr W5 := by rw [← hW5]; exact (Below.refl _ _).alloc (Nat.le_refl _) _
      have hop : W5.heap[wr.heap.size]? = some (.cells (encY x).toArray 36 (0, 0)) := by rw [← hW5]; exact heap_alloc_new wr _
      obtain ⟨O, hO⟩ : ∃ O, wr.heap.size = O := ⟨_, rfl⟩
      obtain ⟨xk, xa, xb, xs, xt, xl, xp, xc, xo, xq, xqc, xm, xn⟩ := x
      simp only [encY] at *
      rw [hO] at hop
      have hOl : O < W5.heap.size := (Array.getElem?_eq_some_iff.1 hop).1
      have HOP := hid hop
      have KS : Hid (∀ w', Below W5.heap.size W5 w' → w'.cell? ⟨O, 1, none⟩ = some (.string xa)) := fun w' hb => by
        have := (hb.block O hOl).trans HOP.out
        rw [Lib.cell_of_heap this]; rfl
      have HBT5 : Hid (Below T w3 W5) := by show Below _ _ _; rw [← hT]; exact bel_then hbT hbT.size hba
      have HO5 := hid (Kind.own_on HS.out.own hba)
      have HND := hid HS.out.nd
      have hs5 : T ≤ W5.heap.size := by omega
      have htl := HS.out.len
      clear k1 hbT hbw hba hop HS
      go_wp2_with fail
      try rw [hO]
      go_loopg [10, 35] ts.length (fun gg vs vj wr2 => ∃ (B : Bool) (j : Nat), vs = .bool B ∧ vj = .int .i64 j ∧ j ≤ ts.length ∧ ts.length - j ≤ gg ∧ Hid (SeenB B xa (ts.take j)) ∧ Hid (Below W5.heap.size W5 wr2))
      case atStart => exact ⟨false, 0, rfl, rfl, by omega, by omega, seen_zero _ _, Below.refl _ _⟩
      case round =>
        obtain ⟨B, j, rfl, rfl, hj, hgj, HBS, HWJ⟩ := hrel
        have q1 := KS.out wr HWJ.out
        by_cases hlj : j < ts.length
        · have hljz : (j : Int) < (ts.length : Int) := by omega
          have hjz : (0 : Int) ≤ j := by omega
          obtain ⟨b2, o2, rfl, ht2⟩ : ∃ b o, pt = some ⟨b, o, none⟩ ∧ ∀ i, (h : i < ts.length) → wr.cell? ⟨b, o + i, none⟩ = some (.string ts[i]) := by
            obtain ⟨pp, cc, he, h⟩ := Kind.own_is (Kind.own_on HO5.out HWJ.out)
            injection he with he _ _
            subst he
            rcases h with h | ⟨b, o, h1, h2⟩
            · rw [h] at hlj; simp at hlj
            · exact ⟨b, o, h1, kt_at.1 h2⟩
          have t0 := ht2 j hlj
          by_cases e : ts[j] = xa
          · have HSN := hid (seen_hit hlj e)
            rw [e] at t0
            clear ht2 HBS e
            cases B with
            | true =>
              go_wp2_with fail
              go_roundg (ts.length - (j + 1))
              case measure => omega
              exact ⟨true, j + 1, by rfl, by go_num, by omega, by omega, HSN.out, HWJ.out⟩
            | false =>
              go_wp2_with fail
              go_roundg (ts.length - (j + 1))
              case measure => omega
              exact ⟨true, j + 1, by rfl, by go_num, by omega, by omega, HSN.out, HWJ.out⟩
          · have HSN := hid (seen_miss hlj HBS.out e)
            have hbf := txt_ne e
            obtain ⟨t, hte⟩ : ∃ t, ts[j] = t := ⟨_, rfl⟩
            rw [hte] at t0 hbf
            clear ht2 HBS e hte
            cases B with
            | true =>
              go_wp2_with fail
              go_roundg (ts.length - (j + 1))
              case measure => omega
              exact ⟨true, j + 1, by rfl, by go_num, by omega, by omega, HSN.out, HWJ.out⟩
            | false =>
              go_wp2_with fail
              go_roundg (ts.length - (j + 1))
              case measure => omega
              exact ⟨false, j + 1, by rfl, by go_num, by omega, by omega, HSN.out, HWJ.out⟩
        · have hljz : ¬ (j : Int) < (ts.length : Int) := by omega
          have hjt : ts.take j = ts := List.take_of_length_le (by omega)
          rw [hjt] at HBS
          clear hjt
          cases B with
          | true =>
            go_wp2_with fail
            go_roundg (ops.length - (i + 1))
            case measure => omega
            refine ⟨i + 1, ts, by go_num, by omega, by omega, rfl, ?_⟩
            have hb5 : Below T w3 wr := by rw [← hT]; exact bel_then (by rw [hT]; exact HBT5.out) (by rw [hT]; exact hs5) HWJ.out
            exact ⟨hb5, Kind.own_on HO5.out HWJ.out, HND.out, by omega, HXA.out ts (fun _ h => h) (seen_in HBS.out)⟩
          | false =>
            have HND2 := hid (nodup_snoc HND.out (seen_out HBS.out))
            have hsum := count_some HND2.out HOK.out
            have hsumT : sumT A (ts ++ [xa]) ≤ 1200000000000 := Nat.le_trans hsum hcl
            rw [sumT_snoc, ← sumK_keys] at hsumT
            have HSN := hid (sumT_snoc A ts xa)
            rw [← sumK_keys] at HSN
            have HO6 := hid (Kind.own_on HO5.out HWJ.out)
            have HOPR := hid ((HWJ.out.block O hOl).trans HOP.out)
            have hsr : T ≤ wr.heap.size := Nat.le_trans hs5 HWJ.out.size
            have HBT6 : Hid (Below T w3 wr) := by show Below _ _ _; rw [← hT]; exact bel_then (by rw [hT]; exact HBT5.out) (by rw [hT]; exact hs5) HWJ.out
            clear hsum HND HBS KS HOP HWJ HO5 HBT5 hst
            go_wp2_with (at_builtin; refine wpList_append_own _ rfl _ _ 66 rfl T 9 i0 (.string ⟨#[]⟩) 1 16 Tryz.underlying66 HI.out hz0 hz1 hz2 rfl (by decide) _ _ _ rfl (World.ownsRow.alloc HO6.out _) _ 1 1 [.string xa] rfl rfl (fun j u hj => KT.news wr xa j u hj) (by intro u hu; simp at hu; subst hu; rfl) (by unfold maxLen; omega) (by omega) (by simp; omega) ?_; intro v4 w4 hown4 hg4 hnil4; have HO4 := hid hown4; have HG4 := hid hg4; have hc4 : w4.cell? ⟨O, 1, none⟩ = some (.string xa) := (by rw [Lib.cell_of_heap (heap_grown (World.ownsRow.alloc HO6.out (.cells #[.string xa] 9)) hg4 (((Below.refl _ _).alloc (Nat.le_refl _) _).block O (Array.getElem?_eq_some_iff.1 HOPR.out).1 |>.trans HOPR.out) (by decide))]; rfl); clear hown4 hg4 hnil4)
            have HBT7 : Hid (Below T w3 w4) := (HBT6.out.alloc hsr _).grown HG4.out (by simp; omega) (fun k hk => (World.ownsRow.lt HO6.out k hk).1)
            have HO7 : Hid (KT.Own T w4 v4 (ts ++ [xa])) := Kind.own_snoc HO4.out rfl rfl
            have HKE := hid (s_keys (HA3.out.on (by rw [hT]; exact HBT7.out)) (by omega) xa)
            have hs7 : T ≤ w4.heap.size := by have := HBT7.out.size; rw [hT] at this; exact this
            have HKN : Hid (∀ k ∈ keysD A xa, ofD A k ≠ []) := fun k hk => keysD_there HOK.out hk
            clear HO4 HG4 HO6 HOPR HBT6 hc4
            refine HKE.out.mono ?_
            rintro e w7 ⟨u7, rfl, ho7, hb7⟩
            obtain ⟨ks, hks⟩ : ∃ ks, keysD A xa = ks := ⟨_, rfl⟩
            rw [hks] at ho7 HKN HSN hsumT
            have HK7 := hid ho7
            have HB7 := hid hb7
            have hs8 := hb7.size
            have hkl : ks.length ≤ 1200000000000 := by
              have h1 : (keysD A xa).length ≤ (A.map Prod.fst).length := List.length_filter_le _ _
              rw [hks, List.length_map] at h1
              have h2 := dir_len HOK.out
              omega
            obtain ⟨pk, ck, rfl⟩ := Kind.own_shape ho7
            clear ho7 hb7 hks HKE
            go_wp2_with fail
            go_loopg [6, 61] ks.length (fun gg vn vj wr2 => ∃ (j : Nat), vj = .int .i64 j ∧ j ≤ ks.length ∧ ks.length - j ≤ gg ∧ vn = .int .i64 ((sumT A ts + sumK A (ks.take j) : Nat) : Int) ∧ Hid (Below w7.heap.size w7 wr2))
            case atStart => exact ⟨0, rfl, by omega, by omega, by simp [sumK], Below.refl _ _⟩
            case round =>
              obtain ⟨j, rfl, hj, hgj, rfl, HWJ⟩ := hrel
              by_cases hlj : j < ks.length
              · have hljz : (j : Int) < (ks.length : Int) := by omega
                have hjz : (0 : Int) ≤ j := by omega
                obtain ⟨bk, ok, rfl, k1⟩ : ∃ b off, pk = some ⟨b, off, none⟩ ∧ KK.At wr b off ks := by
                  obtain ⟨pp, cc, he, h⟩ := Kind.own_is (Kind.own_on HK7.out HWJ.out)
                  injection he with he _ _
                  subst he
                  rcases h with h | h
                  · rw [h] at hlj; simp at hlj
                  · exact h
                obtain ⟨y0, y1⟩ := kk_at k1 j hlj
                have hne := HKN.out _ (List.getElem_mem hlj)
                have hsn := sumK_snoc A (ks.take j) ks[j]
                rw [← List.take_succ_eq_append_getElem hlj] at hsn
                have hsle := sumK_take A ks (j + 1)
                generalize ks[j] = k at *
                obtain ⟨ka, kb⟩ := k
                simp only at y0 y1
                have hDr : DirS w2.heap.size ga ops.length A wr := HA3.out.on (by rw [hT]; exact (by rw [← hT]; exact bel_then (by rw [hT]; exact HBT7.out) (by rw [hT]; exact hs7) (bel_then HB7.out HB7.out.size HWJ.out)))
                have hkf := key_fit (hDr.key _ hne)
                obtain ⟨W8, hW8⟩ : ∃ W, wr.alloc (.cells #[.string ka, .string kb] 31) = W := ⟨_, rfl⟩
                have hba : Below wr.heap.size wr W8 := by rw [← hW8]; exact (Below.refl _ _).alloc (Nat.le_refl _) _
                have hop : W8.heap[wr.heap.size]? = some (.cells #[.string ka, .string kb] 31 (0, 0)) := by rw [← hW8]; exact heap_alloc_new wr _
                obtain ⟨K, hK⟩ : ∃ K, wr.heap.size = K := ⟨_, rfl⟩
                rw [hK] at hop
                have hKl : K < W8.heap.size := (Array.getElem?_eq_some_iff.1 hop).1
                have HOP := hid hop
                have KS : Hid (∀ w', Below W8.heap.size W8 w' → w'.cell? ⟨K, 0, none⟩ = some (.string ka) ∧ w'.cell? ⟨K, 1, none⟩ = some (.string kb)) := fun w' hb => by
                  have := (hb.block K hKl).trans HOP.out
                  exact ⟨by rw [Lib.cell_of_heap this]; rfl, by rw [Lib.cell_of_heap this]; rfl⟩
                have HSI := hid (s_since (hDr.on hba) (ka, kb) hkf 0)
                rw [since_zero (ofD_ok HOK.out _)] at HSI
                have KFI : Hid (∀ W, Below W8.heap.size W8 W → Calls Tryz.prog 28 #[.pointer (some ⟨ga, 0, none⟩), .agg #[.string ka, .string kb]] W fun e w' => VAns W (ofD A (ka, kb)).head? e w') := fun W hb => s_first ((hDr.on hba).on hb) (by omega) (ka, kb) hkf
                have HMAY := hid (hDr.may (ka, kb))
                have HB8 := hid (bel_then HWJ.out HWJ.out.size hba)
                obtain ⟨l, hll⟩ : ∃ l, ofD A (ka, kb) = l := ⟨_, rfl⟩
                rw [hll] at HSI KFI HMAY hsn hne
                obtain ⟨q0, q1⟩ := KS.out W8 (Below.refl _ _)
                obtain ⟨s0, hs0⟩ : ∃ s0, sumT A ts + sumK A (ks.take j) = s0 := ⟨_, rfl⟩
                obtain ⟨s1, hs1⟩ : ∃ s1, sumT A ts + sumK A (ks.take (j + 1)) = s1 := ⟨_, rfl⟩
                have hss : s0 + l.length = s1 := by omega
                have hs1l : s1 ≤ 1200000000000 := by omega
                rw [hs0]
                have HS1 := hid hs1
                clear k1 hDr hkf hba hop HOP hll hsn hsle hs0 hs1
                go_wp2_with fail
                try rw [hK]
                refine HSI.out.mono ?_
                intro e w9 hp9
                obtain ⟨u9, o9, rfl, ht9, hb9⟩ := all_told hp9
                have HT9 := hid ht9
                have HB9 := hid hb9
                obtain ⟨q0, q1⟩ := KS.out w9 hb9
                have HFI := hid (KFI.out w9 hb9)
                have hlen := ht9.len
                obtain ⟨L, hL⟩ : ∃ L, o9.length = L := ⟨_, rfl⟩
                obtain ⟨p9, c9, rfl⟩ := Kind.own_shape ht9.own
                rw [hL]
                have HLL := hid hL
                have hLl : L = l.length := by omega
                have hL0 : 0 < L := by rw [hLl]; exact List.length_pos_iff.2 hne
                have HSS : Hid (s0 + L = s1) := by show _ = _; omega
                clear hLl hss
                clear hp9 ht9 hb9 hL hlen HSI KFI
                go_wp2_with fail
                refine HFI.out.mono ?_
                rintro e w10 ⟨x10, rfl, hx10, hJ10, hb10⟩
                obtain ⟨v0, l0, rfl⟩ : ∃ v0 l0, l = v0 :: l0 := by
                  cases l with
                  | nil => exact absurd rfl hne
                  | cons v0 l0 => exact ⟨v0, l0, rfl⟩
                obtain ⟨V10, hV10⟩ : ∃ V, w10.alloc (.cells (encVx x10).toArray 56) = V := ⟨_, rfl⟩
                have hbv10 : Below w10.heap.size w10 V10 := by rw [← hV10]; exact (Below.refl _ _).alloc (Nat.le_refl _) _
                have hbb10 := bel_then hb10 hb10.size hbv10
                have HB10 := hid (bel_then HB9.out HB9.out.size hbb10)
                obtain ⟨A10, hA10⟩ : ∃ A, w10.heap.size = A := ⟨_, rfl⟩
                have HV10 : Hid (VerAt V10 A10 x10) := by show _ = _; rw [← hV10, ← hA10]; exact heap_alloc_new w10 _
                have ht10 := HT9.out.on hbb10
                have hlo : 0 < o9.length := by rw [HLL.out]; exact hL0
                have hov : (o9[0]).ver = v0 := by
                  have h1 := ht10.ver
                  have h2 : (o9.map Vx.ver)[0]? = some v0 := by rw [h1]; rfl
                  rw [List.getElem?_map, List.getElem?_eq_getElem hlo] at h2
                  simpa using h2
                have hoj := ht10.each _ (List.getElem_mem hlo)
                obtain ⟨b9, f9, rfl, k9⟩ : ∃ b off, p9 = some ⟨b, off, none⟩ ∧ KV.At V10 b off o9 := by
                  obtain ⟨pp, cc, he, h⟩ := Kind.own_is ht10.own
                  injection he with he _ _
                  subst he
                  rcases h with h | h
                  · rw [h] at hlo; simp at hlo
                  · exact h
                have hc9 := kv_at k9 0 hlo
                rw [Nat.zero_mul, Nat.add_zero] at hc9
                generalize o9[0] = y9 at *
                have HSV := hid (sameV_true (o := some v0) hx10 hov ((hJ10.on hbv10).on (Below.refl V10.heap.size V10).drew) (hoj.on (Below.refl V10.heap.size V10).drew) (fun v hv => by injection hv with hv; subst hv; exact HMAY.out _ (List.mem_cons_self ..)))
                obtain ⟨m0, m1, m2, m3, m4⟩ := HV10.out.cells
                obtain ⟨c0, c1, c2, c3, c4⟩ := hc9
                obtain ⟨xn1, xs1, xt1, xl1, xp1, xc1, xo1⟩ := x10
                obtain ⟨xn2, xs2, xt2, xl2, xp2, xc2, xo2⟩ := y9
                simp only [encVx, Vx.sl] at hV10 HSV m0 m1 m2 m3 m4 c0 c1 c2 c3 c4 ⊢
                have hL0z : ¬ (L : Int) = 0 := by omega
                have hL1z : (0 : Int) < L := by omega
                have z3 : wrap64 ((s0 : Int) + (L : Int)) = (s1 : Int) := by
                  have h2 : s0 + L = s1 := HSS.out
                  have z2 : IntKind.i64.wrap ((s0 : Int) + (L : Int)) = (s1 : Int) := by rw [IntKind.wrap_i64]; omega
                  first | exact z2 | (unfold wrap64; omega)
                have hL0n : ¬ L = 0 := by omega
                clear HSS hne hx10 hJ10 hb10 hbv10 hbb10 ht10 hov hoj k9 HV10 HT9 HFI KS HMAY
                go_wp2_with fail
                try rw [hA10]
                have HBd : Hid (Below V10.heap.size V10 V10.drew) := (Below.refl _ _).drew
                have HCC : Hid (∀ w', Below V10.heap.size V10 w' → (w'.cell? ⟨A10, 0, none⟩ = some (.int .i64 xn1) ∧ w'.cell? ⟨A10, 0 + 1, none⟩ = some (.int .u64 xs1) ∧ w'.cell? ⟨A10, 0 + 2, none⟩ = some (.int .i64 xt1) ∧ w'.cell? ⟨A10, 0 + 3, none⟩ = some (.bool xl1) ∧ w'.cell? ⟨A10, 0 + 4, none⟩ = some (.slice xp1 xo1.length xc1)) ∧ w'.cell? ⟨b9, f9, none⟩ = some (.int .i64 xn2) ∧ w'.cell? ⟨b9, f9 + 1, none⟩ = some (.int .u64 xs2) ∧ w'.cell? ⟨b9, f9 + 2, none⟩ = some (.int .i64 xt2) ∧ w'.cell? ⟨b9, f9 + 3, none⟩ = some (.bool xl2) ∧ w'.cell? ⟨b9, f9 + 4, none⟩ = some (.slice xp2 xo2.length xc2)) := fun w' hb =>
                  ⟨⟨(hb.cell (cell_block m0)).trans m0, (hb.cell (cell_block m1)).trans m1, (hb.cell (cell_block m2)).trans m2, (hb.cell (cell_block m3)).trans m3, (hb.cell (cell_block m4)).trans m4⟩, (hb.cell (cell_block c0)).trans c0, (hb.cell (cell_block c1)).trans c1, (hb.cell (cell_block c2)).trans c2, (hb.cell (cell_block c3)).trans c3, (hb.cell (cell_block c4)).trans c4⟩
                have qd := HCC.out _ HBd.out
                simp only [Nat.zero_add] at qd
                refine wp_region_held_drew (S := fun w' => (w'.cell? ⟨A10, 0, none⟩ = some (.int .i64 xn1) ∧ w'.cell? ⟨A10, 1, none⟩ = some (.int .u64 xs1) ∧ w'.cell? ⟨A10, 2, none⟩ = some (.int .i64 xt1) ∧ w'.cell? ⟨A10, 3, none⟩ = some (.bool xl1) ∧ w'.cell? ⟨A10, 4, none⟩ = some (.slice xp1 xo1.length xc1)) ∧ w'.cell? ⟨b9, f9, none⟩ = some (.int .i64 xn2) ∧ w'.cell? ⟨b9, f9 + 1, none⟩ = some (.int .u64 xs2) ∧ w'.cell? ⟨b9, f9 + 2, none⟩ = some (.int .i64 xt2) ∧ w'.cell? ⟨b9, f9 + 3, none⟩ = some (.bool xl2) ∧ w'.cell? ⟨b9, f9 + 4, none⟩ = some (.slice xp2 xo2.length xc2)) (by kernel_rfl) qd (fun hHeld => ?_)
                refine take_val (i := 0) (.bool true) rfl (by kernel_rfl) (by kernel_rfl) (by kernel_rfl) (fun _ _ _ h => h) (by rfl) (fun w hSw => by go_simp) hHeld ?_
                simp only [Act.put, List.setIfInBounds_toArray, List.set_cons_zero, List.set_cons_succ]
                refine take_val (i := 1) (.bool false) rfl (by kernel_rfl) (by kernel_rfl) (by kernel_rfl) (fun _ _ _ h => h) (by rfl) (fun w hSw => by go_simp) hHeld ?_
                simp only [Act.put, List.setIfInBounds_toArray, List.set_cons_zero, List.set_cons_succ]
                refine take_val (i := 2) (.bool false) rfl (by kernel_rfl) (by kernel_rfl) (by kernel_rfl) (fun _ _ _ h => h) (by rfl) (fun w hSw => by go_simp) hHeld ?_
                simp only [Act.put, List.setIfInBounds_toArray, List.set_cons_zero, List.set_cons_succ]
                refine take_val (i := 3) (.slice (some ⟨b9, f9, none⟩) L c9) rfl (by kernel_rfl) (by kernel_rfl) (by kernel_rfl) (fun _ _ _ h => h) (by rfl) (fun w hSw => by go_simp) hHeld ?_
                simp only [Act.put, List.setIfInBounds_toArray, List.set_cons_zero, List.set_cons_succ]
                refine take_val (i := 4) (.int .i64 L) rfl (by kernel_rfl) (by kernel_rfl) (by kernel_rfl) (fun _ _ _ h => h) (by rfl) (fun w hSw => by go_simp) hHeld ?_
                simp only [Act.put, List.setIfInBounds_toArray, List.set_cons_zero, List.set_cons_succ]
                refine take_val (i := 5) (.bool false) rfl (by kernel_rfl) (by kernel_rfl) (by kernel_rfl) (fun _ _ _ h => h) (by rfl) (fun w hSw => by go_simp) hHeld ?_
                simp only [Act.put, List.setIfInBounds_toArray, List.set_cons_zero, List.set_cons_succ]
                refine take_val (i := 6) (.bool false) rfl (by kernel_rfl) (by kernel_rfl) (by kernel_rfl) (fun _ _ _ h => h) (by rfl) (fun w hSw => by go_simp) hHeld ?_
                simp only [Act.put, List.setIfInBounds_toArray, List.set_cons_zero, List.set_cons_succ]
                refine take_val (i := 7) (.bool false) rfl (by kernel_rfl) (by kernel_rfl) (by kernel_rfl) (fun _ _ _ h => h) (by rfl) (fun w hSw => by go_simp) hHeld ?_
                simp only [Act.put, List.setIfInBounds_toArray, List.set_cons_zero, List.set_cons_succ]
                refine take_val (i := 8) (.agg #[.int .i64 xn1, .int .u64 xs1, .int .i64 xt1, .bool xl1, .slice xp1 xo1.length xc1]) rfl (by kernel_rfl) (by kernel_rfl) (by kernel_rfl) (fun _ _ _ h => h) (by rfl) (fun w hSw => by go_simp) hHeld ?_
                simp only [Act.put, List.setIfInBounds_toArray, List.set_cons_zero, List.set_cons_succ]
                refine take_val (i := 9) (.slice (some ⟨b9, f9, none⟩) L c9) rfl (by kernel_rfl) (by kernel_rfl) (by kernel_rfl) (fun _ _ _ h => h) (by rfl) (fun w hSw => by go_simp) hHeld ?_
                simp only [Act.put, List.setIfInBounds_toArray, List.set_cons_zero, List.set_cons_succ]
                refine take_val (i := 10) (.pointer (some ⟨b9, f9, none⟩)) rfl (by kernel_rfl) (by kernel_rfl) (by kernel_rfl) (fun _ _ _ h => h) (by rfl) (fun w hSw => by go_simp) hHeld ?_
                simp only [Act.put, List.setIfInBounds_toArray, List.set_cons_zero, List.set_cons_succ]
                refine take_val (i := 11) (.agg #[.int .i64 xn2, .int .u64 xs2, .int .i64 xt2, .bool xl2, .slice xp2 xo2.length xc2]) rfl (by kernel_rfl) (by kernel_rfl) (by kernel_rfl) (fun _ _ _ h => h) (by rfl) (fun w hSw => by go_simp) hHeld ?_
                simp only [Act.put, List.setIfInBounds_toArray, List.set_cons_zero, List.set_cons_succ]
                refine wpAnyH_ready (rs := [12]) (by kernel_rfl) (by simp) ?_
                refine AllReadyH.cons (at_drop0 rfl) (fun K hK => ?_) AllReadyH.nil
                rw [if_pos (by rfl)]
                go_simp
                refine HSV.out.mono ?_
                rintro e w11 ⟨rfl, hb11⟩
                have HB11 := hid (bel_then HBd.out HBd.out.size hb11)
                have q11 := HCC.out _ HB11.out
                simp only [Nat.zero_add] at q11
                clear hb11
                go_wp2_with fail
                refine hK.out _ _ q11 (fun hHeld => ?_)
                clear hK K
                try simp only [Act.put, List.setIfInBounds_toArray, List.set_cons_zero, List.set_cons_succ]
                refine take_val (i := 13) (.bool false) rfl (by kernel_rfl) (by kernel_rfl) (by kernel_rfl) (fun _ _ _ h => h) (by rfl) (fun w hSw => by go_simp) hHeld ?_
                simp only [Act.put, List.setIfInBounds_toArray, List.set_cons_zero, List.set_cons_succ]
                refine take_val (i := 14) (.bool false) rfl (by kernel_rfl) (by kernel_rfl) (by kernel_rfl) (fun _ _ _ h => h) (by rfl) (fun w hSw => by go_simp) hHeld ?_
                simp only [Act.put, List.setIfInBounds_toArray, List.set_cons_zero, List.set_cons_succ]
                refine wpAnyH_done (by kernel_rfl) ?_ _
                clear HCC HSV m0 m1 m2 m3 m4 c0 c1 c2 c3 c4 qd q11
                go_wp2_with fail
                go_roundg (ks.length - (j + 1))
                case measure => omega
                exact ⟨j + 1, by go_num, by omega, by omega, by rw [HS1.out, z3], bel_then HB8.out HB8.out.size (bel_then HB10.out HB10.out.size HB11.out)⟩
              · have hljz : ¬ (j : Int) < (ks.length : Int) := by omega
                have hjt : ks.take j = ks := List.take_of_length_le (by omega)
                rw [hjt, ← HSN.out]
                clear hjt
                go_wp2_with fail
                go_roundg (ops.length - (i + 1))
                case measure => omega
                refine ⟨i + 1, ts ++ [xa], by go_num, by omega, by omega, rfl, ?_⟩
                have hb9 := bel_then HB7.out HB7.out.size HWJ.out
                have hb10 : Below T w3 wr := by rw [← hT]; exact bel_then (by rw [hT]; exact HBT7.out) (by rw [hT]; exact hs7) hb9
                exact ⟨hb10, Kind.own_on HO7.out hb9, HND2.out, by simp; omega, HXA.out _ (fun _ h => List.mem_append_left _ h) (by simp)⟩
    · have hltz : ¬ (i : Int) < (ops.length : Int) := by omega
      have hcnt : sumT A ts = countD A := count_types HS.out.nd HOK.out fun k hk => by
        obtain ⟨x, hx, e⟩ := List.mem_map.1 (HTY.out k hk)
        obtain ⟨j, hj, rfl⟩ := List.getElem_of_mem hx
        rw [← e]
        exact HS.out.seen j hj (by omega)
      rw [hcnt]
      have HDr := hid (HA3.out.on hbT)
      have HBR := hid hbw
      have hsr := hbw.size
      have HWK := hid (s_walked HDr.out hl tt)
      clear hbT hbw HS hcnt hst HTY HX HV HD HB3 HA3
      go_wp2_with fail
      refine HWK.out.mono ?_
      intro e w4 hp4
      obtain ⟨u4, fs, rfl, ho4, hj4, hf4, hb4⟩ := hp4
      have hfl : fs.length ≤ 65537 := by
        have := congrArg List.length hf4
        rw [List.length_map, List.length_take] at this
        omega
      have HO4 := hid ho4
      have HJ4 := hid hj4
      have HF4 := hid hf4
      have HB4 := hid hb4
      have HD4 := hid (HDr.out.on hb4)
      have HBW4 := hid (bel_then HBR.out hsr hb4)
      obtain ⟨pf, cf, rfl⟩ := Kind.own_shape ho4
      clear ho4 hj4 hf4 hb4 HWK HDr
      go_wp2_with fail
      go_loopg [100] fs.length (fun gg vi wr2 => ∃ (i : Nat), vi = .int .i64 i ∧ i ≤ fs.length ∧ fs.length - i ≤ gg ∧ Hid (Below w4.heap.size w4 wr2))
      case atStart => exact ⟨0, rfl, by omega, by omega, Below.refl _ _⟩
      case round =>
        obtain ⟨i, rfl, hi, hgi, HW⟩ := hrel
        by_cases hlf : i < fs.length
        · have hlfz : (i : Int) < (fs.length : Int) := by omega
          have hiz : (0 : Int) ≤ i := by omega
          obtain ⟨bf, of, rfl, KAT⟩ : ∃ b off, pf = some ⟨b, off, none⟩ ∧ Hid (∀ W, Below w4.heap.size w4 W → KFd.At W b off fs) := by
            obtain ⟨pp, cc, he, h⟩ := Kind.own_is HO4.out
            injection he with he _ _
            subst he
            rcases h with h | ⟨b, o, h1, h2⟩
            · rw [h] at hlf; simp at hlf
            · exact ⟨b, o, h1, fun W hW => Kind.at_kept h2 hW⟩
          have k1 := KAT.out wr HW.out
          have y0 := k1 i hlf 0 _ rfl
          have y1 := k1 i hlf 1 _ rfl
          have y2 := k1 i hlf 2 _ rfl
          have y3 := k1 i hlf 3 _ rfl
          have y4 := k1 i hlf 4 _ rfl
          have y5 := k1 i hlf 5 _ rfl
          have y6 := k1 i hlf 6 _ rfl
          have hve := walk_each HOK.out HF4.out hlf
          have hjv := HJ4.out _ (List.getElem_mem hlf)
          have HPV : Hid (0 < i → ∃ pa pb, (∀ W, Below w4.heap.size w4 W → W.cell? ⟨bf, of + (i - 1) * 7, none⟩ = some (.string pa) ∧ W.cell? ⟨bf, of + (i - 1) * 7 + 1, none⟩ = some (.string pb)) ∧ ltB (fs[i]).a pa = false ∧ (pa = (fs[i]).a → ltB pb (fs[i]).b = true)) := fun h0 => by
            obtain ⟨m, rfl⟩ : ∃ m, i = m + 1 := ⟨i - 1, by omega⟩
            obtain ⟨h1, h2⟩ := ltKy_parts (walk_next HOK.out HF4.out hlf)
            refine ⟨_, _, fun W hW => ?_, h1, h2⟩
            have hk := KAT.out W hW
            rw [Nat.add_sub_cancel]
            exact ⟨hk m (by omega) 0 _ rfl, hk m (by omega) 1 _ rfl⟩
          generalize fs[i] = y at *
          obtain ⟨ya, yb, xn2, xs2, xt2, xl2, xp2, xc2, xo2⟩ := y
          simp only [KFd, Vx.sl, Nat.add_zero] at y0 y1 y2 y3 y4 y5 y6
          simp only at HPV hve hjv
          obtain ⟨hat, hliv⟩ := hve
          have hDr := HD4.out.on HW.out
          have hkf : FitK (ya, yb) := key_fit (hDr.key _ (fun e => by rw [e] at hat; cases hat))
          have HMAY := hid (hDr.may (ya, yb) _ (at_mem hat))
          obtain ⟨W5, hW5⟩ : ∃ W, wr.alloc (.cells #[.string ya, .string yb, .int .i64 xn2, .int .u64 xs2, .int .i64 xt2, .bool xl2, .slice xp2 xo2.length xc2] 63) = W := ⟨_, rfl⟩
          have hba : Below wr.heap.size wr W5 := by rw [← hW5]; exact (Below.refl _ _).alloc (Nat.le_refl _) _
          have hop : W5.heap[wr.heap.size]? = some (.cells #[.string ya, .string yb, .int .i64 xn2, .int .u64 xs2, .int .i64 xt2, .bool xl2, .slice xp2 xo2.length xc2] 63 (0, 0)) := by rw [← hW5]; exact heap_alloc_new wr _
          obtain ⟨F, hF⟩ : ∃ F, wr.heap.size = F := ⟨_, rfl⟩
          rw [hF] at hop
          have hFl : F < W5.heap.size := (Array.getElem?_eq_some_iff.1 hop).1
          have HOP := hid hop
          have KS : Hid (∀ w', Below W5.heap.size W5 w' → w'.cell? ⟨F, 0, none⟩ = some (.string ya) ∧ w'.cell? ⟨F, 1, none⟩ = some (.string yb) ∧ w'.cell? ⟨F, 2, none⟩ = some (.int .i64 xn2) ∧ w'.cell? ⟨F, 3, none⟩ = some (.int .u64 xs2) ∧ w'.cell? ⟨F, 4, none⟩ = some (.int .i64 xt2) ∧ w'.cell? ⟨F, 5, none⟩ = some (.bool xl2) ∧ w'.cell? ⟨F, 6, none⟩ = some (.slice xp2 xo2.length xc2)) := fun w' hb => by
            have := (hb.block F hFl).trans HOP.out
            exact ⟨by rw [Lib.cell_of_heap this]; rfl, by rw [Lib.cell_of_heap this]; rfl, by rw [Lib.cell_of_heap this]; rfl, by rw [Lib.cell_of_heap this]; rfl, by rw [Lib.cell_of_heap this]; rfl, by rw [Lib.cell_of_heap this]; rfl, by rw [Lib.cell_of_heap this]; rfl⟩
          have HAT := hid (s_at (hDr.on hba) (ya, yb) hkf tt)
          rw [hat] at HAT
          have HB5 := hid (bel_then HW.out HW.out.size hba)
          have HJY := hid (hjv.1.on (bel_then HW.out HW.out.size hba))
          have HLIV := hid hliv
          obtain ⟨q0, q1, _⟩ := KS.out W5 (Below.refl _ _)
          clear k1 hDr hkf hba hop HOP hat hliv hjv KAT
          go_wp2_with fail
          try rw [hF]
          refine HAT.out.mono ?_
          rintro e w10 ⟨x10, rfl, hx10, hJ10, hb10⟩
          obtain ⟨V10, hV10⟩ : ∃ V, w10.alloc (.cells (encVx x10).toArray 56) = V := ⟨_, rfl⟩
          have hbv10 : Below w10.heap.size w10 V10 := by rw [← hV10]; exact (Below.refl _ _).alloc (Nat.le_refl _) _
          have hbb10 := bel_then hb10 hb10.size hbv10
          have HB10 := hid hbb10
          obtain ⟨A10, hA10⟩ : ∃ A, w10.heap.size = A := ⟨_, rfl⟩
          have HV10 : Hid (VerAt V10 A10 x10) := by show _ = _; rw [← hV10, ← hA10]; exact heap_alloc_new w10 _
          have hxl : x10.live = true := by have h1 : x10.ver.live = true := by rw [hx10]; exact HLIV.out
                                           exact h1
          have HSV := hid (sameV_true (o := some _) hx10 rfl ((hJ10.on hbv10).on (Below.refl V10.heap.size V10).drew) ((HJY.out.on hbb10).on (Below.refl V10.heap.size V10).drew) (fun v hv => by injection hv with hv; subst hv; exact HMAY.out))
          obtain ⟨m0, m1, m2, m3, m4⟩ := HV10.out.cells
          obtain ⟨xn1, xs1, xt1, xl1, xp1, xc1, xo1⟩ := x10
          simp only at hxl
          subst hxl
          simp only [encVx, Vx.sl] at hV10 HSV m0 m1 m2 m3 m4 ⊢
          obtain ⟨r0, r1, r2, r3, r4, r5, r6⟩ := KS.out V10 hbb10
          clear hx10 hJ10 hb10 hbv10 hbb10 HV10 HAT HJY HMAY
          go_wp2_with fail
          try rw [hA10]
          by_cases hi0 : 0 < i
          · obtain ⟨pa, pb, hpc, hp1, hp2⟩ := HPV.out hi0
            obtain ⟨g0, g1⟩ := hpc V10 (bel_then HB5.out HB5.out.size HB10.out)
            obtain ⟨m, hm⟩ : ∃ m, i - 1 = m := ⟨_, rfl⟩
            rw [hm] at g0 g1
            have hi0z : (0 : Int) < i := by omega
            have hi1z : ¬ (i : Int) = 0 := by omega
            have hi2z : ¬ (i : Int) < 0 := by omega
            have zm : IntKind.i64.wrap ((i : Int) - 1) = (m : Int) := by rw [IntKind.wrap_i64]; omega
            have hmz : (0 : Int) ≤ m := by omega
            have hml : (m : Int) < (fs.length : Int) := by omega
            have hgt : (!Op.bytesLess pa.toList ya.toList && !(pa.toList == ya.toList)) = false := gtr_no hp1
            have hge := hp2
            clear hm HPV hpc
            have HBd : Hid (Below V10.heap.size V10 V10.drew) := (Below.refl _ _).drew
            have HCC : Hid (∀ w', Below V10.heap.size V10 w' → (w'.cell? ⟨A10, 0, none⟩ = some (.int .i64 xn1) ∧ w'.cell? ⟨A10, 1, none⟩ = some (.int .u64 xs1) ∧ w'.cell? ⟨A10, 2, none⟩ = some (.int .i64 xt1) ∧ w'.cell? ⟨A10, 3, none⟩ = some (.bool true) ∧ w'.cell? ⟨A10, 4, none⟩ = some (.slice xp1 xo1.length xc1)) ∧ (w'.cell? ⟨F, 0, none⟩ = some (.string ya) ∧ w'.cell? ⟨F, 1, none⟩ = some (.string yb) ∧ w'.cell? ⟨F, 2, none⟩ = some (.int .i64 xn2) ∧ w'.cell? ⟨F, 3, none⟩ = some (.int .u64 xs2) ∧ w'.cell? ⟨F, 4, none⟩ = some (.int .i64 xt2) ∧ w'.cell? ⟨F, 5, none⟩ = some (.bool xl2) ∧ w'.cell? ⟨F, 6, none⟩ = some (.slice xp2 xo2.length xc2)) ∧ w'.cell? ⟨bf, of + m * 7, none⟩ = some (.string pa) ∧ w'.cell? ⟨bf, of + m * 7 + 1, none⟩ = some (.string pb)) := fun w' hb =>
              ⟨⟨(hb.cell (cell_block m0)).trans m0, (hb.cell (cell_block m1)).trans m1, (hb.cell (cell_block m2)).trans m2, (hb.cell (cell_block m3)).trans m3, (hb.cell (cell_block m4)).trans m4⟩, ⟨(hb.cell (cell_block r0)).trans r0, (hb.cell (cell_block r1)).trans r1, (hb.cell (cell_block r2)).trans r2, (hb.cell (cell_block r3)).trans r3, (hb.cell (cell_block r4)).trans r4, (hb.cell (cell_block r5)).trans r5, (hb.cell (cell_block r6)).trans r6⟩, (hb.cell (cell_block g0)).trans g0, (hb.cell (cell_block g1)).trans g1⟩
            have qd := HCC.out _ HBd.out
            refine wp_region_held_drew (S := fun w' => (w'.cell? ⟨A10, 0, none⟩ = some (.int .i64 xn1) ∧ w'.cell? ⟨A10, 1, none⟩ = some (.int .u64 xs1) ∧ w'.cell? ⟨A10, 2, none⟩ = some (.int .i64 xt1) ∧ w'.cell? ⟨A10, 3, none⟩ = some (.bool true) ∧ w'.cell? ⟨A10, 4, none⟩ = some (.slice xp1 xo1.length xc1)) ∧ (w'.cell? ⟨F, 0, none⟩ = some (.string ya) ∧ w'.cell? ⟨F, 1, none⟩ = some (.string yb) ∧ w'.cell? ⟨F, 2, none⟩ = some (.int .i64 xn2) ∧ w'.cell? ⟨F, 3, none⟩ = some (.int .u64 xs2) ∧ w'.cell? ⟨F, 4, none⟩ = some (.int .i64 xt2) ∧ w'.cell? ⟨F, 5, none⟩ = some (.bool xl2) ∧ w'.cell? ⟨F, 6, none⟩ = some (.slice xp2 xo2.length xc2)) ∧ w'.cell? ⟨bf, of + m * 7, none⟩ = some (.string pa) ∧ w'.cell? ⟨bf, of + m * 7 + 1, none⟩ = some (.string pb)) (by kernel_rfl) qd (fun hHeld => ?_)
            refine take_val (i := 0) (.bool true) rfl (by kernel_rfl) (by kernel_rfl) (by kernel_rfl) (fun _ _ _ h => h) (by rfl) (fun w hSw => by go_simp) hHeld ?_
            simp only [Act.put, List.setIfInBounds_toArray, List.set_cons_zero, List.set_cons_succ]
            refine take_val (i := 1) (.bool false) rfl (by kernel_rfl) (by kernel_rfl) (by kernel_rfl) (fun _ _ _ h => h) (by rfl) (fun w hSw => by go_simp) hHeld ?_
            simp only [Act.put, List.setIfInBounds_toArray, List.set_cons_zero, List.set_cons_succ]
            refine take_val (i := 2) (.bool false) rfl (by kernel_rfl) (by kernel_rfl) (by kernel_rfl) (fun _ _ _ h => h) (by rfl) (fun w hSw => by go_simp) hHeld ?_
            simp only [Act.put, List.setIfInBounds_toArray, List.set_cons_zero, List.set_cons_succ]
            refine take_val (i := 3) (.pointer (some ⟨A10, 3, none⟩)) rfl (by kernel_rfl) (by kernel_rfl) (by kernel_rfl) (fun _ _ _ h => h) (by rfl) (fun w hSw => by go_simp) hHeld ?_
            simp only [Act.put, List.setIfInBounds_toArray, List.set_cons_zero, List.set_cons_succ]
            refine take_val (i := 4) (.bool true) rfl (by kernel_rfl) (by kernel_rfl) (by kernel_rfl) (fun _ _ _ h => h) (by rfl) (fun w hSw => by go_simp) hHeld ?_
            simp only [Act.put, List.setIfInBounds_toArray, List.set_cons_zero, List.set_cons_succ]
            refine take_val (i := 5) (.bool false) rfl (by kernel_rfl) (by kernel_rfl) (by kernel_rfl) (fun _ _ _ h => h) (by rfl) (fun w hSw => by go_simp) hHeld ?_
            simp only [Act.put, List.setIfInBounds_toArray, List.set_cons_zero, List.set_cons_succ]
            refine take_val (i := 6) (.bool false) rfl (by kernel_rfl) (by kernel_rfl) (by kernel_rfl) (fun _ _ _ h => h) (by rfl) (fun w hSw => by go_simp) hHeld ?_
            simp only [Act.put, List.setIfInBounds_toArray, List.set_cons_zero, List.set_cons_succ]
            refine take_val (i := 7) (.bool false) rfl (by kernel_rfl) (by kernel_rfl) (by kernel_rfl) (fun _ _ _ h => h) (by rfl) (fun w hSw => by go_simp) hHeld ?_
            simp only [Act.put, List.setIfInBounds_toArray, List.set_cons_zero, List.set_cons_succ]
            refine take_val (i := 8) (.agg #[.int .i64 xn1, .int .u64 xs1, .int .i64 xt1, .bool true, .slice xp1 xo1.length xc1]) rfl (by kernel_rfl) (by kernel_rfl) (by kernel_rfl) (fun _ _ _ h => h) (by rfl) (fun w hSw => by go_simp) hHeld ?_
            simp only [Act.put, List.setIfInBounds_toArray, List.set_cons_zero, List.set_cons_succ]
            refine take_val (i := 9) (.pointer (some ⟨F, 2, none⟩)) rfl (by kernel_rfl) (by kernel_rfl) (by kernel_rfl) (fun _ _ _ h => h) (by rfl) (fun w hSw => by go_simp) hHeld ?_
            simp only [Act.put, List.setIfInBounds_toArray, List.set_cons_zero, List.set_cons_succ]
            refine take_val (i := 10) (.agg #[.int .i64 xn2, .int .u64 xs2, .int .i64 xt2, .bool xl2, .slice xp2 xo2.length xc2]) rfl (by kernel_rfl) (by kernel_rfl) (by kernel_rfl) (fun _ _ _ h => h) (by rfl) (fun w hSw => by go_simp) hHeld ?_
            simp only [Act.put, List.setIfInBounds_toArray, List.set_cons_zero, List.set_cons_succ]
            refine wpAnyH_ready (rs := [11]) (by kernel_rfl) (by simp) ?_
            refine AllReadyH.cons (at_drop0 rfl) (fun K hK => ?_) AllReadyH.nil
            rw [if_pos (by rfl)]
            go_simp
            refine HSV.out.mono ?_
            rintro e w11 ⟨rfl, hb11⟩
            have HB11 := hid (bel_then HBd.out HBd.out.size hb11)
            have q11 := HCC.out _ HB11.out
            clear hb11
            go_wp2_with fail
            refine hK.out _ _ q11 (fun hHeld => ?_)
            clear hK K
            try simp only [Act.put, List.setIfInBounds_toArray, List.set_cons_zero, List.set_cons_succ]
            refine take_val (i := 12) (.bool false) rfl (by kernel_rfl) (by kernel_rfl) (by kernel_rfl) (fun _ _ _ h => h) (by rfl) (fun w hSw => by go_simp) hHeld ?_
            simp only [Act.put, List.setIfInBounds_toArray, List.set_cons_zero, List.set_cons_succ]
            refine take_val (i := 13) (.bool false) rfl (by kernel_rfl) (by kernel_rfl) (by kernel_rfl) (fun _ _ _ h => h) (by rfl) (fun w hSw => by go_simp) hHeld ?_
            simp only [Act.put, List.setIfInBounds_toArray, List.set_cons_zero, List.set_cons_succ]
            refine take_val (i := 14) (.bool false) rfl (by kernel_rfl) (by kernel_rfl) (by kernel_rfl) (fun _ _ _ h => h) (by rfl) (fun w hSw => by go_simp) hHeld ?_
            simp only [Act.put, List.setIfInBounds_toArray, List.set_cons_zero, List.set_cons_succ]
            refine take_val (i := 15) (.int .i64 i) rfl (by kernel_rfl) (by kernel_rfl) (by kernel_rfl) (fun _ _ _ h => h) (by rfl) (fun w hSw => by go_simp) hHeld ?_
            simp only [Act.put, List.setIfInBounds_toArray, List.set_cons_zero, List.set_cons_succ]
            refine take_val (i := 16) (.bool true) rfl (by kernel_rfl) (by kernel_rfl) (by kernel_rfl) (fun _ _ _ h => h) (by rfl) (fun w hSw => by go_simp) hHeld ?_
            simp only [Act.put, List.setIfInBounds_toArray, List.set_cons_zero, List.set_cons_succ]
            refine take_val (i := 17) (.bool true) rfl (by kernel_rfl) (by kernel_rfl) (by kernel_rfl) (fun _ _ _ h => h) (by rfl) (fun w hSw => by go_simp) hHeld ?_
            simp only [Act.put, List.setIfInBounds_toArray, List.set_cons_zero, List.set_cons_succ]
            refine take_val (i := 18) (.slice (some ⟨bf, of, none⟩) fs.length cf) rfl (by kernel_rfl) (by kernel_rfl) (by kernel_rfl) (fun _ _ _ h => h) (by rfl) (fun w hSw => by go_simp) hHeld ?_
            simp only [Act.put, List.setIfInBounds_toArray, List.set_cons_zero, List.set_cons_succ]
            refine take_val (i := 19) (.int .i64 i) rfl (by kernel_rfl) (by kernel_rfl) (by kernel_rfl) (fun _ _ _ h => h) (by rfl) (fun w hSw => by go_simp) hHeld ?_
            simp only [Act.put, List.setIfInBounds_toArray, List.set_cons_zero, List.set_cons_succ]
            refine take_val (i := 20) (.int .i64 m) rfl (by kernel_rfl) (by kernel_rfl) (by kernel_rfl) (fun _ _ _ h => h) (by rfl) (fun w hSw => by go_simp) hHeld ?_
            simp only [Act.put, List.setIfInBounds_toArray, List.set_cons_zero, List.set_cons_succ]
            refine take_val (i := 21) (.pointer (some ⟨bf, of + m * 7, none⟩)) rfl (by kernel_rfl) (by kernel_rfl) (by kernel_rfl) (fun _ _ _ h => h) (by rfl) (fun w hSw => by go_simp) hHeld ?_
            simp only [Act.put, List.setIfInBounds_toArray, List.set_cons_zero, List.set_cons_succ]
            refine take_val (i := 22) (.pointer (some ⟨bf, of + m * 7, none⟩)) rfl (by kernel_rfl) (by kernel_rfl) (by kernel_rfl) (fun _ _ _ h => h) (by rfl) (fun w hSw => by go_simp) hHeld ?_
            simp only [Act.put, List.setIfInBounds_toArray, List.set_cons_zero, List.set_cons_succ]
            refine take_val (i := 23) (.pointer (some ⟨bf, of + m * 7, none⟩)) rfl (by kernel_rfl) (by kernel_rfl) (by kernel_rfl) (fun _ _ _ h => h) (by rfl) (fun w hSw => by go_simp) hHeld ?_
            simp only [Act.put, List.setIfInBounds_toArray, List.set_cons_zero, List.set_cons_succ]
            refine take_val (i := 24) (.string pa) rfl (by kernel_rfl) (by kernel_rfl) (by kernel_rfl) (fun _ _ _ h => h) (by rfl) (fun w hSw => by go_simp) hHeld ?_
            simp only [Act.put, List.setIfInBounds_toArray, List.set_cons_zero, List.set_cons_succ]
            refine take_val (i := 25) (.pointer (some ⟨F, 0, none⟩)) rfl (by kernel_rfl) (by kernel_rfl) (by kernel_rfl) (fun _ _ _ h => h) (by rfl) (fun w hSw => by go_simp) hHeld ?_
            simp only [Act.put, List.setIfInBounds_toArray, List.set_cons_zero, List.set_cons_succ]
            refine take_val (i := 26) (.pointer (some ⟨F, 0, none⟩)) rfl (by kernel_rfl) (by kernel_rfl) (by kernel_rfl) (fun _ _ _ h => h) (by rfl) (fun w hSw => by go_simp) hHeld ?_
            simp only [Act.put, List.setIfInBounds_toArray, List.set_cons_zero, List.set_cons_succ]
            refine take_val (i := 27) (.string ya) rfl (by kernel_rfl) (by kernel_rfl) (by kernel_rfl) (fun _ _ _ h => h) (by rfl) (fun w hSw => by go_simp) hHeld ?_
            simp only [Act.put, List.setIfInBounds_toArray, List.set_cons_zero, List.set_cons_succ]
            refine take_val (i := 28) (.bool false) rfl (by kernel_rfl) (by kernel_rfl) (by kernel_rfl) (fun _ _ _ h => h) (by rfl) (fun w hSw => by go_simp) hHeld ?_
            simp only [Act.put, List.setIfInBounds_toArray, List.set_cons_zero, List.set_cons_succ]
            refine take_val (i := 29) (.bool false) rfl (by kernel_rfl) (by kernel_rfl) (by kernel_rfl) (fun _ _ _ h => h) (by rfl) (fun w hSw => by go_simp) hHeld ?_
            simp only [Act.put, List.setIfInBounds_toArray, List.set_cons_zero, List.set_cons_succ]
            refine take_val (i := 30) (.slice (some ⟨bf, of, none⟩) fs.length cf) rfl (by kernel_rfl) (by kernel_rfl) (by kernel_rfl) (fun _ _ _ h => h) (by rfl) (fun w hSw => by go_simp) hHeld ?_
            simp only [Act.put, List.setIfInBounds_toArray, List.set_cons_zero, List.set_cons_succ]
            refine take_val (i := 31) (.int .i64 i) rfl (by kernel_rfl) (by kernel_rfl) (by kernel_rfl) (fun _ _ _ h => h) (by rfl) (fun w hSw => by go_simp) hHeld ?_
            simp only [Act.put, List.setIfInBounds_toArray, List.set_cons_zero, List.set_cons_succ]
            refine take_val (i := 32) (.int .i64 m) rfl (by kernel_rfl) (by kernel_rfl) (by kernel_rfl) (fun _ _ _ h => h) (by rfl) (fun w hSw => by go_simp) hHeld ?_
            simp only [Act.put, List.setIfInBounds_toArray, List.set_cons_zero, List.set_cons_succ]
            refine take_val (i := 33) (.pointer (some ⟨bf, of + m * 7, none⟩)) rfl (by kernel_rfl) (by kernel_rfl) (by kernel_rfl) (fun _ _ _ h => h) (by rfl) (fun w hSw => by go_simp) hHeld ?_
            simp only [Act.put, List.setIfInBounds_toArray, List.set_cons_zero, List.set_cons_succ]
            refine take_val (i := 34) (.pointer (some ⟨bf, of + m * 7, none⟩)) rfl (by kernel_rfl) (by kernel_rfl) (by kernel_rfl) (fun _ _ _ h => h) (by rfl) (fun w hSw => by go_simp) hHeld ?_
            simp only [Act.put, List.setIfInBounds_toArray, List.set_cons_zero, List.set_cons_succ]
            refine take_val (i := 35) (.pointer (some ⟨bf, of + m * 7, none⟩)) rfl (by kernel_rfl) (by kernel_rfl) (by kernel_rfl) (fun _ _ _ h => h) (by rfl) (fun w hSw => by go_simp) hHeld ?_
            simp only [Act.put, List.setIfInBounds_toArray, List.set_cons_zero, List.set_cons_succ]
            refine take_val (i := 36) (.string pa) rfl (by kernel_rfl) (by kernel_rfl) (by kernel_rfl) (fun _ _ _ h => h) (by rfl) (fun w hSw => by go_simp) hHeld ?_
            simp only [Act.put, List.setIfInBounds_toArray, List.set_cons_zero, List.set_cons_succ]
            refine take_val (i := 37) (.pointer (some ⟨F, 0, none⟩)) rfl (by kernel_rfl) (by kernel_rfl) (by kernel_rfl) (fun _ _ _ h => h) (by rfl) (fun w hSw => by go_simp) hHeld ?_
            simp only [Act.put, List.setIfInBounds_toArray, List.set_cons_zero, List.set_cons_succ]
            refine take_val (i := 38) (.pointer (some ⟨F, 0, none⟩)) rfl (by kernel_rfl) (by kernel_rfl) (by kernel_rfl) (fun _ _ _ h => h) (by rfl) (fun w hSw => by go_simp) hHeld ?_
            simp only [Act.put, List.setIfInBounds_toArray, List.set_cons_zero, List.set_cons_succ]
            refine take_val (i := 39) (.string ya) rfl (by kernel_rfl) (by kernel_rfl) (by kernel_rfl) (fun _ _ _ h => h) (by rfl) (fun w hSw => by go_simp) hHeld ?_
            simp only [Act.put, List.setIfInBounds_toArray, List.set_cons_zero, List.set_cons_succ]
            by_cases e : pa = ya
            · subst e
              have hlb := sless_of (hp2 rfl)
              clear hp1 hp2 hge
              refine take_val (i := 40) (.bool true) rfl (by kernel_rfl) (by kernel_rfl) (by kernel_rfl) (fun _ _ _ h => h) (by rfl) (fun w hSw => by go_simp) hHeld ?_
              simp only [Act.put, List.setIfInBounds_toArray, List.set_cons_zero, List.set_cons_succ]
              refine take_val (i := 41) (.bool true) rfl (by kernel_rfl) (by kernel_rfl) (by kernel_rfl) (fun _ _ _ h => h) (by rfl) (fun w hSw => by go_simp) hHeld ?_
              simp only [Act.put, List.setIfInBounds_toArray, List.set_cons_zero, List.set_cons_succ]
              refine take_val (i := 42) (.slice (some ⟨bf, of, none⟩) fs.length cf) rfl (by kernel_rfl) (by kernel_rfl) (by kernel_rfl) (fun _ _ _ h => h) (by rfl) (fun w hSw => by go_simp) hHeld ?_
              simp only [Act.put, List.setIfInBounds_toArray, List.set_cons_zero, List.set_cons_succ]
              refine take_val (i := 43) (.int .i64 i) rfl (by kernel_rfl) (by kernel_rfl) (by kernel_rfl) (fun _ _ _ h => h) (by rfl) (fun w hSw => by go_simp) hHeld ?_
              simp only [Act.put, List.setIfInBounds_toArray, List.set_cons_zero, List.set_cons_succ]
              refine take_val (i := 44) (.int .i64 m) rfl (by kernel_rfl) (by kernel_rfl) (by kernel_rfl) (fun _ _ _ h => h) (by rfl) (fun w hSw => by go_simp) hHeld ?_
              simp only [Act.put, List.setIfInBounds_toArray, List.set_cons_zero, List.set_cons_succ]
              refine take_val (i := 45) (.pointer (some ⟨bf, of + m * 7, none⟩)) rfl (by kernel_rfl) (by kernel_rfl) (by kernel_rfl) (fun _ _ _ h => h) (by rfl) (fun w hSw => by go_simp) hHeld ?_
              simp only [Act.put, List.setIfInBounds_toArray, List.set_cons_zero, List.set_cons_succ]
              refine take_val (i := 46) (.pointer (some ⟨bf, of + m * 7, none⟩)) rfl (by kernel_rfl) (by kernel_rfl) (by kernel_rfl) (fun _ _ _ h => h) (by rfl) (fun w hSw => by go_simp) hHeld ?_
              simp only [Act.put, List.setIfInBounds_toArray, List.set_cons_zero, List.set_cons_succ]
              refine take_val (i := 47) (.pointer (some ⟨bf, of + m * 7 + 1, none⟩)) rfl (by kernel_rfl) (by kernel_rfl) (by kernel_rfl) (fun _ _ _ h => h) (by rfl) (fun w hSw => by go_simp) hHeld ?_
              simp only [Act.put, List.setIfInBounds_toArray, List.set_cons_zero, List.set_cons_succ]
              refine take_val (i := 48) (.string pb) rfl (by kernel_rfl) (by kernel_rfl) (by kernel_rfl) (fun _ _ _ h => h) (by rfl) (fun w hSw => by go_simp) hHeld ?_
              simp only [Act.put, List.setIfInBounds_toArray, List.set_cons_zero, List.set_cons_succ]
              refine take_val (i := 49) (.pointer (some ⟨F, 0, none⟩)) rfl (by kernel_rfl) (by kernel_rfl) (by kernel_rfl) (fun _ _ _ h => h) (by rfl) (fun w hSw => by go_simp) hHeld ?_
              simp only [Act.put, List.setIfInBounds_toArray, List.set_cons_zero, List.set_cons_succ]
              refine take_val (i := 50) (.pointer (some ⟨F, 1, none⟩)) rfl (by kernel_rfl) (by kernel_rfl) (by kernel_rfl) (fun _ _ _ h => h) (by rfl) (fun w hSw => by go_simp) hHeld ?_
              simp only [Act.put, List.setIfInBounds_toArray, List.set_cons_zero, List.set_cons_succ]
              refine take_val (i := 51) (.string yb) rfl (by kernel_rfl) (by kernel_rfl) (by kernel_rfl) (fun _ _ _ h => h) (by rfl) (fun w hSw => by go_simp) hHeld ?_
              simp only [Act.put, List.setIfInBounds_toArray, List.set_cons_zero, List.set_cons_succ]
              refine take_val (i := 52) (.bool false) rfl (by kernel_rfl) (by kernel_rfl) (by kernel_rfl) (fun _ _ _ h => h) (by rfl) (fun w hSw => by go_simp) hHeld ?_
              simp only [Act.put, List.setIfInBounds_toArray, List.set_cons_zero, List.set_cons_succ]
              refine take_val (i := 53) (.bool false) rfl (by kernel_rfl) (by kernel_rfl) (by kernel_rfl) (fun _ _ _ h => h) (by rfl) (fun w hSw => by go_simp) hHeld ?_
              simp only [Act.put, List.setIfInBounds_toArray, List.set_cons_zero, List.set_cons_succ]
              refine take_val (i := 54) (.bool false) rfl (by kernel_rfl) (by kernel_rfl) (by kernel_rfl) (fun _ _ _ h => h) (by rfl) (fun w hSw => by go_simp) hHeld ?_
              simp only [Act.put, List.setIfInBounds_toArray, List.set_cons_zero, List.set_cons_succ]
              refine take_val (i := 55) (.bool false) rfl (by kernel_rfl) (by kernel_rfl) (by kernel_rfl) (fun _ _ _ h => h) (by rfl) (fun w hSw => by go_simp) hHeld ?_
              simp only [Act.put, List.setIfInBounds_toArray, List.set_cons_zero, List.set_cons_succ]
              refine take_val (i := 56) (.bool false) rfl (by kernel_rfl) (by kernel_rfl) (by kernel_rfl) (fun _ _ _ h => h) (by rfl) (fun w hSw => by go_simp) hHeld ?_
              simp only [Act.put, List.setIfInBounds_toArray, List.set_cons_zero, List.set_cons_succ]
              refine wpAnyH_done (by kernel_rfl) ?_ _
              clear HCC HSV m0 m1 m2 m3 m4 r0 r1 r2 r3 r4 r5 r6 qd q11
              go_wp2_with fail
              go_roundg (fs.length - (i + 1))
              case measure => omega
              exact ⟨i + 1, by go_num, by omega, by omega, bel_then HB5.out HB5.out.size (bel_then HB10.out HB10.out.size HB11.out)⟩
            · have hbf := txt_ne e
              clear hp1 hp2 hge
              refine take_val (i := 40) (.bool false) rfl (by kernel_rfl) (by kernel_rfl) (by kernel_rfl) (fun _ _ _ h => h) (by rfl) (fun w hSw => by go_simp) hHeld ?_
              simp only [Act.put, List.setIfInBounds_toArray, List.set_cons_zero, List.set_cons_succ]
              refine take_val (i := 41) (.bool false) rfl (by kernel_rfl) (by kernel_rfl) (by kernel_rfl) (fun _ _ _ h => h) (by rfl) (fun w hSw => by go_simp) hHeld ?_
              simp only [Act.put, List.setIfInBounds_toArray, List.set_cons_zero, List.set_cons_succ]
              refine take_not (i := 42) rfl (by kernel_rfl) (by kernel_rfl) (by kernel_rfl) (fun _ _ _ h => h) (by rfl) hHeld ?_
              simp only [Act.put, List.setIfInBounds_toArray, List.set_cons_zero, List.set_cons_succ]
              refine take_not (i := 43) rfl (by kernel_rfl) (by kernel_rfl) (by kernel_rfl) (fun _ _ _ h => h) (by rfl) hHeld ?_
              simp only [Act.put, List.setIfInBounds_toArray, List.set_cons_zero, List.set_cons_succ]
              refine take_not (i := 44) rfl (by kernel_rfl) (by kernel_rfl) (by kernel_rfl) (fun _ _ _ h => h) (by rfl) hHeld ?_
              simp only [Act.put, List.setIfInBounds_toArray, List.set_cons_zero, List.set_cons_succ]
              refine take_not (i := 45) rfl (by kernel_rfl) (by kernel_rfl) (by kernel_rfl) (fun _ _ _ h => h) (by rfl) hHeld ?_
              simp only [Act.put, List.setIfInBounds_toArray, List.set_cons_zero, List.set_cons_succ]
              refine take_not (i := 46) rfl (by kernel_rfl) (by kernel_rfl) (by kernel_rfl) (fun _ _ _ h => h) (by rfl) hHeld ?_
              simp only [Act.put, List.setIfInBounds_toArray, List.set_cons_zero, List.set_cons_succ]
              refine take_not (i := 47) rfl (by kernel_rfl) (by kernel_rfl) (by kernel_rfl) (fun _ _ _ h => h) (by rfl) hHeld ?_
              simp only [Act.put, List.setIfInBounds_toArray, List.set_cons_zero, List.set_cons_succ]
              refine take_not (i := 48) rfl (by kernel_rfl) (by kernel_rfl) (by kernel_rfl) (fun _ _ _ h => h) (by rfl) hHeld ?_
              simp only [Act.put, List.setIfInBounds_toArray, List.set_cons_zero, List.set_cons_succ]
              refine take_not (i := 49) rfl (by kernel_rfl) (by kernel_rfl) (by kernel_rfl) (fun _ _ _ h => h) (by rfl) hHeld ?_
              simp only [Act.put, List.setIfInBounds_toArray, List.set_cons_zero, List.set_cons_succ]
              refine take_not (i := 50) rfl (by kernel_rfl) (by kernel_rfl) (by kernel_rfl) (fun _ _ _ h => h) (by rfl) hHeld ?_
              simp only [Act.put, List.setIfInBounds_toArray, List.set_cons_zero, List.set_cons_succ]
              refine take_not (i := 51) rfl (by kernel_rfl) (by kernel_rfl) (by kernel_rfl) (fun _ _ _ h => h) (by rfl) hHeld ?_
              simp only [Act.put, List.setIfInBounds_toArray, List.set_cons_zero, List.set_cons_succ]
              refine take_not (i := 52) rfl (by kernel_rfl) (by kernel_rfl) (by kernel_rfl) (fun _ _ _ h => h) (by rfl) hHeld ?_
              simp only [Act.put, List.setIfInBounds_toArray, List.set_cons_zero, List.set_cons_succ]
              refine take_val (i := 53) (.bool false) rfl (by kernel_rfl) (by kernel_rfl) (by kernel_rfl) (fun _ _ _ h => h) (by rfl) (fun w hSw => by go_simp) hHeld ?_
              simp only [Act.put, List.setIfInBounds_toArray, List.set_cons_zero, List.set_cons_succ]
              refine take_val (i := 54) (.bool false) rfl (by kernel_rfl) (by kernel_rfl) (by kernel_rfl) (fun _ _ _ h => h) (by rfl) (fun w hSw => by go_simp) hHeld ?_
              simp only [Act.put, List.setIfInBounds_toArray, List.set_cons_zero, List.set_cons_succ]
              refine take_val (i := 55) (.bool false) rfl (by kernel_rfl) (by kernel_rfl) (by kernel_rfl) (fun _ _ _ h => h) (by rfl) (fun w hSw => by go_simp) hHeld ?_
              simp only [Act.put, List.setIfInBounds_toArray, List.set_cons_zero, List.set_cons_succ]
              refine take_val (i := 56) (.bool false) rfl (by kernel_rfl) (by kernel_rfl) (by kernel_rfl) (fun _ _ _ h => h) (by rfl) (fun w hSw => by go_simp) hHeld ?_
              simp only [Act.put, List.setIfInBounds_toArray, List.set_cons_zero, List.set_cons_succ]
              refine wpAnyH_done (by kernel_rfl) ?_ _
              clear HCC HSV m0 m1 m2 m3 m4 r0 r1 r2 r3 r4 r5 r6 qd q11
              go_wp2_with fail
              go_roundg (fs.length - (i + 1))
              case measure => omega
              exact ⟨i + 1, by go_num, by omega, by omega, bel_then HB5.out HB5.out.size (bel_then HB10.out HB10.out.size HB11.out)⟩
          · have hi0z : ¬ (0 : Int) < i := by omega
            have hi3z : (i : Int) ≤ 0 := by omega
            clear HPV
            have HBd : Hid (Below V10.heap.size V10 V10.drew) := (Below.refl _ _).drew
            have HCC : Hid (∀ w', Below V10.heap.size V10 w' → (w'.cell? ⟨A10, 0, none⟩ = some (.int .i64 xn1) ∧ w'.cell? ⟨A10, 1, none⟩ = some (.int .u64 xs1) ∧ w'.cell? ⟨A10, 2, none⟩ = some (.int .i64 xt1) ∧ w'.cell? ⟨A10, 3, none⟩ = some (.bool true) ∧ w'.cell? ⟨A10, 4, none⟩ = some (.slice xp1 xo1.length xc1)) ∧ (w'.cell? ⟨F, 0, none⟩ = some (.string ya) ∧ w'.cell? ⟨F, 1, none⟩ = some (.string yb) ∧ w'.cell? ⟨F, 2, none⟩ = some (.int .i64 xn2) ∧ w'.cell? ⟨F, 3, none⟩ = some (.int .u64 xs2) ∧ w'.cell? ⟨F, 4, none⟩ = some (.int .i64 xt2) ∧ w'.cell? ⟨F, 5, none⟩ = some (.bool xl2) ∧ w'.cell? ⟨F, 6, none⟩ = some (.slice xp2 xo2.length xc2))) := fun w' hb =>
              ⟨⟨(hb.cell (cell_block m0)).trans m0, (hb.cell (cell_block m1)).trans m1, (hb.cell (cell_block m2)).trans m2, (hb.cell (cell_block m3)).trans m3, (hb.cell (cell_block m4)).trans m4⟩, (hb.cell (cell_block r0)).trans r0, (hb.cell (cell_block r1)).trans r1, (hb.cell (cell_block r2)).trans r2, (hb.cell (cell_block r3)).trans r3, (hb.cell (cell_block r4)).trans r4, (hb.cell (cell_block r5)).trans r5, (hb.cell (cell_block r6)).trans r6⟩
            have qd := HCC.out _ HBd.out
            refine wp_region_held_drew (S := fun w' => (w'.cell? ⟨A10, 0, none⟩ = some (.int .i64 xn1) ∧ w'.cell? ⟨A10, 1, none⟩ = some (.int .u64 xs1) ∧ w'.cell? ⟨A10, 2, none⟩ = some (.int .i64 xt1) ∧ w'.cell? ⟨A10, 3, none⟩ = some (.bool true) ∧ w'.cell? ⟨A10, 4, none⟩ = some (.slice xp1 xo1.length xc1)) ∧ (w'.cell? ⟨F, 0, none⟩ = some (.string ya) ∧ w'.cell? ⟨F, 1, none⟩ = some (.string yb) ∧ w'.cell? ⟨F, 2, none⟩ = some (.int .i64 xn2) ∧ w'.cell? ⟨F, 3, none⟩ = some (.int .u64 xs2) ∧ w'.cell? ⟨F, 4, none⟩ = some (.int .i64 xt2) ∧ w'.cell? ⟨F, 5, none⟩ = some (.bool xl2) ∧ w'.cell? ⟨F, 6, none⟩ = some (.slice xp2 xo2.length xc2))) (by kernel_rfl) qd (fun hHeld => ?_)
            refine take_val (i := 0) (.bool true) rfl (by kernel_rfl) (by kernel_rfl) (by kernel_rfl) (fun _ _ _ h => h) (by rfl) (fun w hSw => by go_simp) hHeld ?_
            simp only [Act.put, List.setIfInBounds_toArray, List.set_cons_zero, List.set_cons_succ]
            refine take_val (i := 1) (.bool false) rfl (by kernel_rfl) (by kernel_rfl) (by kernel_rfl) (fun _ _ _ h => h) (by rfl) (fun w hSw => by go_simp) hHeld ?_
            simp only [Act.put, List.setIfInBounds_toArray, List.set_cons_zero, List.set_cons_succ]
            refine take_val (i := 2) (.bool false) rfl (by kernel_rfl) (by kernel_rfl) (by kernel_rfl) (fun _ _ _ h => h) (by rfl) (fun w hSw => by go_simp) hHeld ?_
            simp only [Act.put, List.setIfInBounds_toArray, List.set_cons_zero, List.set_cons_succ]
            refine take_val (i := 3) (.pointer (some ⟨A10, 3, none⟩)) rfl (by kernel_rfl) (by kernel_rfl) (by kernel_rfl) (fun _ _ _ h => h) (by rfl) (fun w hSw => by go_simp) hHeld ?_
            simp only [Act.put, List.setIfInBounds_toArray, List.set_cons_zero, List.set_cons_succ]
            refine take_val (i := 4) (.bool true) rfl (by kernel_rfl) (by kernel_rfl) (by kernel_rfl) (fun _ _ _ h => h) (by rfl) (fun w hSw => by go_simp) hHeld ?_
            simp only [Act.put, List.setIfInBounds_toArray, List.set_cons_zero, List.set_cons_succ]
            refine take_val (i := 5) (.bool false) rfl (by kernel_rfl) (by kernel_rfl) (by kernel_rfl) (fun _ _ _ h => h) (by rfl) (fun w hSw => by go_simp) hHeld ?_
            simp only [Act.put, List.setIfInBounds_toArray, List.set_cons_zero, List.set_cons_succ]
            refine take_val (i := 6) (.bool false) rfl (by kernel_rfl) (by kernel_rfl) (by kernel_rfl) (fun _ _ _ h => h) (by rfl) (fun w hSw => by go_simp) hHeld ?_
            simp only [Act.put, List.setIfInBounds_toArray, List.set_cons_zero, List.set_cons_succ]
            refine take_val (i := 7) (.bool false) rfl (by kernel_rfl) (by kernel_rfl) (by kernel_rfl) (fun _ _ _ h => h) (by rfl) (fun w hSw => by go_simp) hHeld ?_
            simp only [Act.put, List.setIfInBounds_toArray, List.set_cons_zero, List.set_cons_succ]
            refine take_val (i := 8) (.agg #[.int .i64 xn1, .int .u64 xs1, .int .i64 xt1, .bool true, .slice xp1 xo1.length xc1]) rfl (by kernel_rfl) (by kernel_rfl) (by kernel_rfl) (fun _ _ _ h => h) (by rfl) (fun w hSw => by go_simp) hHeld ?_
            simp only [Act.put, List.setIfInBounds_toArray, List.set_cons_zero, List.set_cons_succ]
            refine take_val (i := 9) (.pointer (some ⟨F, 2, none⟩)) rfl (by kernel_rfl) (by kernel_rfl) (by kernel_rfl) (fun _ _ _ h => h) (by rfl) (fun w hSw => by go_simp) hHeld ?_
            simp only [Act.put, List.setIfInBounds_toArray, List.set_cons_zero, List.set_cons_succ]
            refine take_val (i := 10) (.agg #[.int .i64 xn2, .int .u64 xs2, .int .i64 xt2, .bool xl2, .slice xp2 xo2.length xc2]) rfl (by kernel_rfl) (by kernel_rfl) (by kernel_rfl) (fun _ _ _ h => h) (by rfl) (fun w hSw => by go_simp) hHeld ?_
            simp only [Act.put, List.setIfInBounds_toArray, List.set_cons_zero, List.set_cons_succ]
            refine wpAnyH_ready (rs := [11]) (by kernel_rfl) (by simp) ?_
            refine AllReadyH.cons (at_drop0 rfl) (fun K hK => ?_) AllReadyH.nil
            rw [if_pos (by rfl)]
            go_simp
            refine HSV.out.mono ?_
            rintro e w11 ⟨rfl, hb11⟩
            have HB11 := hid (bel_then HBd.out HBd.out.size hb11)
            have q11 := HCC.out _ HB11.out
            clear hb11
            go_wp2_with fail
            refine hK.out _ _ q11 (fun hHeld => ?_)
            clear hK K
            try simp only [Act.put, List.setIfInBounds_toArray, List.set_cons_zero, List.set_cons_succ]
            refine take_val (i := 12) (.bool false) rfl (by kernel_rfl) (by kernel_rfl) (by kernel_rfl) (fun _ _ _ h => h) (by rfl) (fun w hSw => by go_simp) hHeld ?_
            simp only [Act.put, List.setIfInBounds_toArray, List.set_cons_zero, List.set_cons_succ]
            refine take_val (i := 13) (.bool false) rfl (by kernel_rfl) (by kernel_rfl) (by kernel_rfl) (fun _ _ _ h => h) (by rfl) (fun w hSw => by go_simp) hHeld ?_
            simp only [Act.put, List.setIfInBounds_toArray, List.set_cons_zero, List.set_cons_succ]
            refine take_val (i := 14) (.bool false) rfl (by kernel_rfl) (by kernel_rfl) (by kernel_rfl) (fun _ _ _ h => h) (by rfl) (fun w hSw => by go_simp) hHeld ?_
            simp only [Act.put, List.setIfInBounds_toArray, List.set_cons_zero, List.set_cons_succ]
            refine take_val (i := 15) (.int .i64 i) rfl (by kernel_rfl) (by kernel_rfl) (by kernel_rfl) (fun _ _ _ h => h) (by rfl) (fun w hSw => by go_simp) hHeld ?_
            simp only [Act.put, List.setIfInBounds_toArray, List.set_cons_zero, List.set_cons_succ]
            refine take_val (i := 16) (.bool false) rfl (by kernel_rfl) (by kernel_rfl) (by kernel_rfl) (fun _ _ _ h => h) (by rfl) (fun w hSw => by go_simp) hHeld ?_
            simp only [Act.put, List.setIfInBounds_toArray, List.set_cons_zero, List.set_cons_succ]
            refine take_val (i := 17) (.bool false) rfl (by kernel_rfl) (by kernel_rfl) (by kernel_rfl) (fun _ _ _ h => h) (by rfl) (fun w hSw => by go_simp) hHeld ?_
            simp only [Act.put, List.setIfInBounds_toArray, List.set_cons_zero, List.set_cons_succ]
            refine take_not (i := 18) rfl (by kernel_rfl) (by kernel_rfl) (by kernel_rfl) (fun _ _ _ h => h) (by rfl) hHeld ?_
            simp only [Act.put, List.setIfInBounds_toArray, List.set_cons_zero, List.set_cons_succ]
            refine take_not (i := 19) rfl (by kernel_rfl) (by kernel_rfl) (by kernel_rfl) (fun _ _ _ h => h) (by rfl) hHeld ?_
            simp only [Act.put, List.setIfInBounds_toArray, List.set_cons_zero, List.set_cons_succ]
            refine take_not (i := 20) rfl (by kernel_rfl) (by kernel_rfl) (by kernel_rfl) (fun _ _ _ h => h) (by rfl) hHeld ?_
            simp only [Act.put, List.setIfInBounds_toArray, List.set_cons_zero, List.set_cons_succ]
            refine take_not (i := 21) rfl (by kernel_rfl) (by kernel_rfl) (by kernel_rfl) (fun _ _ _ h => h) (by rfl) hHeld ?_
            simp only [Act.put, List.setIfInBounds_toArray, List.set_cons_zero, List.set_cons_succ]
            refine take_not (i := 22) rfl (by kernel_rfl) (by kernel_rfl) (by kernel_rfl) (fun _ _ _ h => h) (by rfl) hHeld ?_
            simp only [Act.put, List.setIfInBounds_toArray, List.set_cons_zero, List.set_cons_succ]
            refine take_not (i := 23) rfl (by kernel_rfl) (by kernel_rfl) (by kernel_rfl) (fun _ _ _ h => h) (by rfl) hHeld ?_
            simp only [Act.put, List.setIfInBounds_toArray, List.set_cons_zero, List.set_cons_succ]
            refine take_not (i := 24) rfl (by kernel_rfl) (by kernel_rfl) (by kernel_rfl) (fun _ _ _ h => h) (by rfl) hHeld ?_
            simp only [Act.put, List.setIfInBounds_toArray, List.set_cons_zero, List.set_cons_succ]
            refine take_not (i := 25) rfl (by kernel_rfl) (by kernel_rfl) (by kernel_rfl) (fun _ _ _ h => h) (by rfl) hHeld ?_
            simp only [Act.put, List.setIfInBounds_toArray, List.set_cons_zero, List.set_cons_succ]
            refine take_not (i := 26) rfl (by kernel_rfl) (by kernel_rfl) (by kernel_rfl) (fun _ _ _ h => h) (by rfl) hHeld ?_
            simp only [Act.put, List.setIfInBounds_toArray, List.set_cons_zero, List.set_cons_succ]
            refine take_not (i := 27) rfl (by kernel_rfl) (by kernel_rfl) (by kernel_rfl) (fun _ _ _ h => h) (by rfl) hHeld ?_
            simp only [Act.put, List.setIfInBounds_toArray, List.set_cons_zero, List.set_cons_succ]
            refine take_not (i := 28) rfl (by kernel_rfl) (by kernel_rfl) (by kernel_rfl) (fun _ _ _ h => h) (by rfl) hHeld ?_
            simp only [Act.put, List.setIfInBounds_toArray, List.set_cons_zero, List.set_cons_succ]
            refine take_not (i := 29) rfl (by kernel_rfl) (by kernel_rfl) (by kernel_rfl) (fun _ _ _ h => h) (by rfl) hHeld ?_
            simp only [Act.put, List.setIfInBounds_toArray, List.set_cons_zero, List.set_cons_succ]
            refine take_not (i := 30) rfl (by kernel_rfl) (by kernel_rfl) (by kernel_rfl) (fun _ _ _ h => h) (by rfl) hHeld ?_
            simp only [Act.put, List.setIfInBounds_toArray, List.set_cons_zero, List.set_cons_succ]
            refine take_not (i := 31) rfl (by kernel_rfl) (by kernel_rfl) (by kernel_rfl) (fun _ _ _ h => h) (by rfl) hHeld ?_
            simp only [Act.put, List.setIfInBounds_toArray, List.set_cons_zero, List.set_cons_succ]
            refine take_not (i := 32) rfl (by kernel_rfl) (by kernel_rfl) (by kernel_rfl) (fun _ _ _ h => h) (by rfl) hHeld ?_
            simp only [Act.put, List.setIfInBounds_toArray, List.set_cons_zero, List.set_cons_succ]
            refine take_not (i := 33) rfl (by kernel_rfl) (by kernel_rfl) (by kernel_rfl) (fun _ _ _ h => h) (by rfl) hHeld ?_
            simp only [Act.put, List.setIfInBounds_toArray, List.set_cons_zero, List.set_cons_succ]
            refine take_not (i := 34) rfl (by kernel_rfl) (by kernel_rfl) (by kernel_rfl) (fun _ _ _ h => h) (by rfl) hHeld ?_
            simp only [Act.put, List.setIfInBounds_toArray, List.set_cons_zero, List.set_cons_succ]
            refine take_not (i := 35) rfl (by kernel_rfl) (by kernel_rfl) (by kernel_rfl) (fun _ _ _ h => h) (by rfl) hHeld ?_
            simp only [Act.put, List.setIfInBounds_toArray, List.set_cons_zero, List.set_cons_succ]
            refine take_not (i := 36) rfl (by kernel_rfl) (by kernel_rfl) (by kernel_rfl) (fun _ _ _ h => h) (by rfl) hHeld ?_
            simp only [Act.put, List.setIfInBounds_toArray, List.set_cons_zero, List.set_cons_succ]
            refine take_not (i := 37) rfl (by kernel_rfl) (by kernel_rfl) (by kernel_rfl) (fun _ _ _ h => h) (by rfl) hHeld ?_
            simp only [Act.put, List.setIfInBounds_toArray, List.set_cons_zero, List.set_cons_succ]
            refine take_not (i := 38) rfl (by kernel_rfl) (by kernel_rfl) (by kernel_rfl) (fun _ _ _ h => h) (by rfl) hHeld ?_
            simp only [Act.put, List.setIfInBounds_toArray, List.set_cons_zero, List.set_cons_succ]
            refine take_not (i := 39) rfl (by kernel_rfl) (by kernel_rfl) (by kernel_rfl) (fun _ _ _ h => h) (by rfl) hHeld ?_
            simp only [Act.put, List.setIfInBounds_toArray, List.set_cons_zero, List.set_cons_succ]
            refine take_not (i := 40) rfl (by kernel_rfl) (by kernel_rfl) (by kernel_rfl) (fun _ _ _ h => h) (by rfl) hHeld ?_
            simp only [Act.put, List.setIfInBounds_toArray, List.set_cons_zero, List.set_cons_succ]
            refine take_not (i := 41) rfl (by kernel_rfl) (by kernel_rfl) (by kernel_rfl) (fun _ _ _ h => h) (by rfl) hHeld ?_
            simp only [Act.put, List.setIfInBounds_toArray, List.set_cons_zero, List.set_cons_succ]
            refine take_not (i := 42) rfl (by kernel_rfl) (by kernel_rfl) (by kernel_rfl) (fun _ _ _ h => h) (by rfl) hHeld ?_
            simp only [Act.put, List.setIfInBounds_toArray, List.set_cons_zero, List.set_cons_succ]
            refine take_not (i := 43) rfl (by kernel_rfl) (by kernel_rfl) (by kernel_rfl) (fun _ _ _ h => h) (by rfl) hHeld ?_
            simp only [Act.put, List.setIfInBounds_toArray, List.set_cons_zero, List.set_cons_succ]
            refine take_not (i := 44) rfl (by kernel_rfl) (by kernel_rfl) (by kernel_rfl) (fun _ _ _ h => h) (by rfl) hHeld ?_
            simp only [Act.put, List.setIfInBounds_toArray, List.set_cons_zero, List.set_cons_succ]
            refine take_not (i := 45) rfl (by kernel_rfl) (by kernel_rfl) (by kernel_rfl) (fun _ _ _ h => h) (by rfl) hHeld ?_
            simp only [Act.put, List.setIfInBounds_toArray, List.set_cons_zero, List.set_cons_succ]
            refine take_not (i := 46) rfl (by kernel_rfl) (by kernel_rfl) (by kernel_rfl) (fun _ _ _ h => h) (by rfl) hHeld ?_
            simp only [Act.put, List.setIfInBounds_toArray, List.set_cons_zero, List.set_cons_succ]
            refine take_not (i := 47) rfl (by kernel_rfl) (by kernel_rfl) (by kernel_rfl) (fun _ _ _ h => h) (by rfl) hHeld ?_
            simp only [Act.put, List.setIfInBounds_toArray, List.set_cons_zero, List.set_cons_succ]
            refine take_not (i := 48) rfl (by kernel_rfl) (by kernel_rfl) (by kernel_rfl) (fun _ _ _ h => h) (by rfl) hHeld ?_
            simp only [Act.put, List.setIfInBounds_toArray, List.set_cons_zero, List.set_cons_succ]
            refine take_not (i := 49) rfl (by kernel_rfl) (by kernel_rfl) (by kernel_rfl) (fun _ _ _ h => h) (by rfl) hHeld ?_
            simp only [Act.put, List.setIfInBounds_toArray, List.set_cons_zero, List.set_cons_succ]
            refine take_not (i := 50) rfl (by kernel_rfl) (by kernel_rfl) (by kernel_rfl) (fun _ _ _ h => h) (by rfl) hHeld ?_
            simp only [Act.put, List.setIfInBounds_toArray, List.set_cons_zero, List.set_cons_succ]
            refine take_not (i := 51) rfl (by kernel_rfl) (by kernel_rfl) (by kernel_rfl) (fun _ _ _ h => h) (by rfl) hHeld ?_
            simp only [Act.put, List.setIfInBounds_toArray, List.set_cons_zero, List.set_cons_succ]
            refine take_not (i := 52) rfl (by kernel_rfl) (by kernel_rfl) (by kernel_rfl) (fun _ _ _ h => h) (by rfl) hHeld ?_
            simp only [Act.put, List.setIfInBounds_toArray, List.set_cons_zero, List.set_cons_succ]
            refine take_not (i := 53) rfl (by kernel_rfl) (by kernel_rfl) (by kernel_rfl) (fun _ _ _ h => h) (by rfl) hHeld ?_
            simp only [Act.put, List.setIfInBounds_toArray, List.set_cons_zero, List.set_cons_succ]
            refine take_not (i := 54) rfl (by kernel_rfl) (by kernel_rfl) (by kernel_rfl) (fun _ _ _ h => h) (by rfl) hHeld ?_
            simp only [Act.put, List.setIfInBounds_toArray, List.set_cons_zero, List.set_cons_succ]
            refine take_val (i := 55) (.bool false) rfl (by kernel_rfl) (by kernel_rfl) (by kernel_rfl) (fun _ _ _ h => h) (by rfl) (fun w hSw => by go_simp) hHeld ?_
            simp only [Act.put, List.setIfInBounds_toArray, List.set_cons_zero, List.set_cons_succ]
            refine take_val (i := 56) (.bool false) rfl (by kernel_rfl) (by kernel_rfl) (by kernel_rfl) (fun _ _ _ h => h) (by rfl) (fun w hSw => by go_simp) hHeld ?_
            simp only [Act.put, List.setIfInBounds_toArray, List.set_cons_zero, List.set_cons_succ]
            refine wpAnyH_done (by kernel_rfl) ?_ _
            clear HCC HSV m0 m1 m2 m3 m4 r0 r1 r2 r3 r4 r5 r6 qd q11
            go_wp2_with fail
            go_roundg (fs.length - (i + 1))
            case measure => omega
            exact ⟨i + 1, by go_num, by omega, by omega, bel_then HB5.out HB5.out.size (bel_then HB10.out HB10.out.size HB11.out)⟩
        · have hlfz : ¬ (i : Int) < (fs.length : Int) := by omega
          have HCN := hid (s_count (HD4.out.on HW.out) (by omega))
          go_wp2_with fail
          refine HCN.out.mono ?_
          rintro e w5 ⟨rfl, hb5⟩
          have HB5 := hid (bel_then HBW4.out HBW4.out.size (bel_then HW.out HW.out.size hb5))
          clear hb5 HCN
          go_wp2_with fail
          go_ret
          exact ⟨rfl, by rw [← hN]; exact HB5.out⟩

end Go.Proofs.YtmfhbkickaofcaaGreat
