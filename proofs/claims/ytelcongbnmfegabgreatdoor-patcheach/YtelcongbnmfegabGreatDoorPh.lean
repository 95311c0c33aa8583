/-
  Texts of this claim, one behind the other: Haw Ede Sar Hew.
-/
import Derived.Test.YtelcongbnmfegabGreatDoorPg
import Derived.Test.YtelcongbnmfegabGreatDoorPf
import Derived.Test.YtelcongbnmfegabGreatDoorPd
import Derived.Test.YtelcongbnmfegabGreatDoorPc
import Derived.Deep.CutBlock
/-
  The walks of PatchApplies, PatchDiffs, PatchLines and PatchParses.
-/
namespace Go.Proofs.YtelcongbnmfegabGreatDoor
open Go.RowKit

theorem int_eqE (n : Int) : (n == n) = true := by simp
theorem int_neE (n : Int) : (n != n) = false := by simp

end Go.Proofs.YtelcongbnmfegabGreatDoor

/-
  The plain mathematics of edits: what a single one makes of a value.
-/
namespace Go.Proofs.YtelcongbnmfegabGreatDoor
open Go.RowKit

theorem three_len (n : ByteArray) (v : List Fld) : (v.filter fun f => ltB f.1 n).length + (v.filter fun f => ltB n f.1).length + (v.filter fun f => decide (f.1 = n)).length = v.length := by
  induction v with
  | nil => simp
  | cons f v ih =>
    rw [List.filter_cons, List.filter_cons, List.filter_cons]
    rcases ltB_cases f.1 n with k | k | k
    · have k2 := ltB_asymm k
      have k3 := ltB_ne k
      simp [k, k2, k3]
      omega
    · have k1 : ltB n n = false := ltB_irrefl n
      rw [k]
      simp [k1]
      omega
    · have k2 := ltB_asymm k
      have k3 : f.1 ≠ n := (ltB_ne k).symm
      simp [k, k2, k3]
      omega

theorem named_len {v : List Fld} (h : Rising v) (hb : NoBare v) (n : ByteArray) : (v.filter fun f => decide (f.1 = n)).length = if textsOf v n = [] then 0 else 1 := by
  induction v with
  | nil => rfl
  | cons f v ih =>
    have h2 := List.pairwise_cons.1 h
    have hb2 : NoBare v := fun g hg => hb g (by simp [hg])
    by_cases e : f.1 = n
    · have hno : v.filter (fun g => decide (g.1 = n)) = [] := List.filter_eq_nil_iff.2 fun g hg => by
        have := ltB_ne (h2.1 g hg)
        simp
        exact fun k => this (e.trans k.symm)
      have ht : textsOf (f :: v) n = f.2 := by rw [← e]; exact tx_cons_same
      rw [List.filter_cons, hno, ht, if_neg (hb f (by simp))]
      simp [e]
    · rw [List.filter_cons, tx_cons_other e, ← ih h2.2 hb2]
      simp [e]

/-- How long a value is with other texts for a name. -/
theorem setF_length {v : List Fld} (h : Rising v) (hb : NoBare v) (n : ByteArray) (ts : List ByteArray) :
    (setF v n ts).length + (if textsOf v n = [] then 0 else 1) = v.length + (if ts = [] then 0 else 1) := by
  have h1 := three_len n v
  rw [named_len h hb n] at h1
  unfold setF
  rw [List.length_append, List.length_append]
  cases ts with
  | nil => simp; omega
  | cons t ts => simp; omega

/-- What a single edit wants a field's texts to be. -/
def wantE (old : List ByteArray) (x : Ed) : List ByteArray :=
  if x.1 = 1 then [x.2.2] else if x.1 = 2 then old ++ [x.2.2] else if x.1 = 3 then restT old x.2.2 else if x.1 = 4 then [] else old

theorem mayE_one {x : Ed} (h : mayE [x] = 0) : namedE x = true ∧ rightE x = true ∧ shortE x = true := by
  obtain ⟨_, h1, h2, h3⟩ := mayE_zero h
  exact ⟨h1 x (by simp), h2 x (by simp), h3 x (by simp)⟩

theorem right_kind {x : Ed} (h : rightE x = true) : x.1 = 1 ∨ x.1 = 2 ∨ x.1 = 3 ∨ x.1 = 4 ∨ x.1 = 5 := by
  unfold rightE at h
  simp only [Bool.and_eq_true, decide_eq_true_eq] at h
  omega

theorem run_one (v : List Fld) (x : Ed) : runE v [x] = if (doE v x).1 = 0 then (0, (doE v x).2) else ((doE v x).1, []) := by
  simp only [runE]

theorem set_same {v : List Fld} (h : Rising v) (hb : NoBare v) (n : ByteArray) : setF v n (textsOf v n) = v := by
  refine value_unique (setF_rising h _ _) h (setF_nobare hb _ _) hb fun m => ?_
  rw [textsOf_set h]
  split
  · rename_i e; rw [e]
  · rfl

/-- A drop or a test that meets nothing is refused. -/
theorem each_stop {v : List Fld} {x : Ed} (hv : mayB v = true) (hx : mayE [x] = 0) (hm : ¬ (restT (textsOf v x.2.1) x.2.2).length < (textsOf v x.2.1).length) :
    (x.1 = 3 → codeA v [x] = 6) ∧ (x.1 = 5 → codeA v [x] = 13) := by
  obtain ⟨k, n, t⟩ := x
  simp only at hm
  constructor
  · intro h
    simp only at h
    subst h
    have hr : (runE v [(3, n, t)]).1 = 6 := by rw [run_one, do_drop, if_neg hm]; rfl
    rw [codeA_run hv hx (by rw [hr]; decide), hr]
  · intro h
    simp only at h
    subst h
    have hr : (runE v [(5, n, t)]).1 = 13 := by rw [run_one, do_test, if_neg hm]; rfl
    rw [codeA_run hv hx (by rw [hr]; decide), hr]

/-- Else it makes just that field what it wants. -/
theorem each_run {v : List Fld} {x : Ed} (hv : mayB v = true) (hx : mayE [x] = 0) (hm : (x.1 = 3 ∨ x.1 = 5) → (restT (textsOf v x.2.1) x.2.2).length < (textsOf v x.2.1).length) :
    runE v [x] = (0, setF v x.2.1 (wantE (textsOf v x.2.1) x)) := by
  have hk := right_kind (mayE_one hx).2.1
  have hR := (mayR hv).2.2
  have hB := may_nobareE hv
  obtain ⟨k, n, t⟩ := x
  simp only at hk hm ⊢
  rw [run_one]
  rcases hk with rfl | rfl | rfl | rfl | rfl
  · rw [do_set]; simp [wantE]
  · rw [do_add]; simp [wantE]
  · rw [do_drop, if_pos (hm (Or.inl rfl))]; simp [wantE]
  · rw [do_wipe]; simp [wantE]
  · rw [do_test, if_pos (hm (Or.inr rfl))]; simp [wantE, set_same hR hB]

theorem want_short {old : List ByteArray} {x : Ed} (hs : shortE x = true) (ho : ∀ t ∈ old, t.size ≤ 128) : ∀ t ∈ wantE old x, t.size ≤ 128 := by
  have hx := of_decide_eq_true hs
  intro t ht
  unfold wantE at ht
  split at ht
  · rw [List.mem_singleton.1 ht]; exact hx
  · split at ht
    · rcases List.mem_append.1 ht with h | h
      · exact ho t h
      · rw [List.mem_singleton.1 h]; exact hx
    · split at ht
      · exact ho t (List.mem_filter.1 ht).1
      · split at ht
        · cases ht
        · exact ho t ht

/-- What comes out is too long just where the field has too many texts, or the value too many fields. -/
theorem each_long {v : List Fld} {x : Ed} (hv : mayB v = true) (hx : mayE [x] = 0) (hl : mayB (setF v x.2.1 (wantE (textsOf v x.2.1) x)) = false) :
    8 < (wantE (textsOf v x.2.1) x).length ∨ (v.length = 16 ∧ textsOf v x.2.1 = []) := by
  have hR := (mayR hv).2.2
  have hB := may_nobareE hv
  have h16 := (mayR hv).1
  obtain ⟨h1, _, h3⟩ := mayE_one hx
  have hlen := setF_length hR hB x.2.1 (wantE (textsOf v x.2.1) x)
  obtain ⟨_, ht2⟩ := okR_texts (okR_may hv) x.2.1
  by_cases h8 : 8 < (wantE (textsOf v x.2.1) x).length
  · exact Or.inl h8
  · right
    refine Decidable.byContradiction fun hc => ?_
    have hle : (setF v x.2.1 (wantE (textsOf v x.2.1) x)).length ≤ 16 := by
      by_cases ho : textsOf v x.2.1 = []
      · have : v.length ≠ 16 := fun e => hc ⟨e, ho⟩
        rw [if_pos ho] at hlen
        split at hlen <;> omega
      · rw [if_neg ho] at hlen
        split at hlen <;> omega
    have hyes : mayB (setF v x.2.1 (wantE (textsOf v x.2.1) x)) = true := by
      refine mayR_of hle (fun f hf => ?_) (setF_rising hR _ _)
      rcases setF_mem.1 hf with ⟨g1, _⟩ | ⟨rfl, g1⟩
      · exact (mayR hv).2.1 f g1
      · exact fitsO h1 g1 (by show (wantE (textsOf v x.2.1) x).length ≤ 8; omega) (want_short h3 ht2)
    rw [hyes] at hl
    cases hl

end Go.Proofs.YtelcongbnmfegabGreatDoor

/-
  An append of a row that came in, whatever its length, at a step of a region that draws its order.
-/
namespace Go.Proofs.YtelcongbnmfegabGreatDoor
open Go.RowKit Go.Lib

/-- An append of a row that came in, whatever its length, at a step of a region that draws its order. -/
theorem step_append_rows {ops : Array Oper} {o : Oper} {a : Act} {K : Act → World → Prop} {Q : Exit → Act → World → Prop} {E : Prop} (w : World) (hgd : o.guard = none) (s x : Operand) (t : TypeId)
    (ho : o.op = .call { callee := .builtin .append, args := #[s, x], argTypes := #[t, t] })
    (base : Nat) (e : TypeId) (i : TypeInfo) (z : Value) (size bytes : Nat) (ht : Tryz.prog.underlying t = some (.slice e)) (hi : Tryz.prog.info? e = some i) (hz : i.zero = some z)
    (hsize : i.size = size) (hby : i.bytes = bytes) (hzs : z.cells.size = size) (hsz : 0 < size)
    (v : Value) (n : Nat) (xs : List Value) (hs : a.eval s = v) (hown : w.ownsRow base e size v n xs)
    (p : Option Addr) (m c : Nat) (news : List Value) (hx : a.eval x = .slice p m c) (hl : news.length = m * size)
    (hsrc : m = 0 ∨ ∃ ad, p = some ad ∧ ∀ j u, news[j]? = some u → w.cell? (ad.add j) = some u) (h1 : ∀ u ∈ news, u.oneCell' = true)
    (h63 : n + m ≤ maxLen) (hbytes : (n + m) * bytes ≤ 140737488355328) (hbase : base ≤ w.heap.size)
    (h : ∀ v' w', w'.ownsRow base e size v' (n + m) (xs ++ news) → w.grownBy w' v.ownBlock → K (a.put o.dst v') w') :
    if Region.wanted o (yielded ops a.tmps) = true then Oper.wp Tryz.prog o a w K Q else E := by
  by_cases hm : m = 0
  · have hw : Region.wanted o (yielded ops a.tmps) = true := by simp [Region.wanted, hgd]
    rw [if_pos hw]
    subst hm
    have hn : news = [] := List.length_eq_zero_iff.1 (by simpa using hl)
    subst hn
    obtain ⟨q, cap, hv, hcap, hq⟩ : ∃ q cap, v = .slice q n cap ∧ n ≤ cap ∧ (q = none → n = 0 ∧ cap = 0) := by
      rcases hown.2 with ⟨hv, h0⟩ | ⟨g, cap, cur, hv, _, _, hc, _⟩
      · exact ⟨none, 0, by rw [hv, h0], by omega, fun _ => ⟨h0, rfl⟩⟩
      · exact ⟨_, cap, hv, hc, fun h => by cases h⟩
    have hrun : (Builtin.append_ #[t, t] o.type #[.slice q n cap, .slice p 0 c]).run Tryz.prog w = .ok (.slice q n cap) w := by
      cases q with
      | none =>
        obtain ⟨rfl, rfl⟩ := hq rfl
        cases p <;> simp [Builtin.append_, run_underlying ht, Builtin.lenOf, Builtin.firstCells, sizeOf, typeInfo, hi, loadCells, loadCellsFrom]
      | some q =>
        cases p <;> simp [Builtin.append_, run_underlying ht, Builtin.lenOf, Builtin.firstCells, sizeOf, typeInfo, hi, storeCells, loadCells, loadCellsFrom, hcap]
    rw [hv] at hs
    unfold Oper.wp
    simp [execOp, ho, resolve, invoke, builtin, hs, hx, hrun, Result.andThen]
    refine h _ _ ?_ (grownBy_refl _ _)
    rw [← hv, List.append_nil]
    exact hown
  · rcases hsrc with h0 | ⟨ad, rfl, hc⟩
    · exact absurd h0 hm
    · exact step_append_lies w hgd s x t ho base e i z size bytes ht hi hz hsize hby hzs hsz v n xs hs hown ad m c news hx hl hc h1 (by omega) h63 hbytes hbase _ rfl (fun g cap w' h2 h3 _ _ => h _ w' h2 h3)

end Go.Proofs.YtelcongbnmfegabGreatDoor

/-
  The walk of PatchEach.
-/
namespace Go.Proofs.YtelcongbnmfegabGreatDoor
open Go.RowKit

theorem fitE_one {x : Ed} (h : x.2.1.size ≤ maxLen ∧ x.2.2.size ≤ maxLen ∧ -9223372036854775808 ≤ x.1 ∧ x.1 ≤ 9223372036854775807) : FitE [x] := ⟨by unfold maxLen; simp, fun y hy => by rw [List.mem_singleton.1 hy]; exact h⟩

theorem ansA_zero {V : List Fld} {l : List Ed} {o : List Fx} {u : Value} {W : World} (h : codeA V l ≠ 0) (hm : o.map Fx.fld = ansA V l) (hi : IsXs W u o) : ∃ p c, u = .slice p 0 c := by
  rw [ansA_none h] at hm
  have : o = [] := List.map_eq_nil_iff.1 hm
  subst this
  obtain ⟨p, c, rfl, _⟩ := hi
  exact ⟨p, c, rfl⟩

set_option maxHeartbeats 16000000 in
set_option maxRecDepth 100000 in
theorem each8_any (v : Value) (x : Ed) (d : List Fx) (w : World) (hv : IsXs w v d) (hf : FitX d) (hx : x.2.1.size ≤ maxLen ∧ x.2.2.size ≤ maxLen ∧ -9223372036854775808 ≤ x.1 ∧ x.1 ≤ 9223372036854775807) (hp : GoodAt w) :
    Calls Tryz.prog 3 #[v, .agg #[.int .i64 x.1, .string x.2.1, .string x.2.2]] w fun e w' => e = .returned (.bool true) ∧ Below w.heap.size w w' := by
  obtain ⟨i0, hi0, hz0, hz1, hz2⟩ := info_parts Tryz.infoStr
  have mixed := Tryz.mixed
  have HI := hid hi0
  have hfx := fitE_one hx
  obtain ⟨xo, xf, xt⟩ := x
  simp only at hx hfx ⊢
  obtain ⟨N, hN⟩ : ∃ N, w.heap.size = N := ⟨_, rfl⟩
  obtain ⟨W0, hW0⟩ : ∃ W0, w.alloc (.cells #[.int .i64 xo, .string xf, .string xt] 24) = W0 := ⟨_, rfl⟩
  have hb0 : Below w.heap.size w W0 := by rw [← hW0]; exact (Below.refl _ _).alloc (Nat.le_refl _) _
  have hs0 : W0.heap.size = N + 1 := by rw [← hW0, ← hN]; simp
  have HX : Hid (∀ W, Below W0.heap.size W0 W → W.cell? ⟨N, 0, none⟩ = some (.int .i64 xo) ∧ W.cell? ⟨N, 1, none⟩ = some (.string xf) ∧ W.cell? ⟨N, 2, none⟩ = some (.string xt)) := fun W hW => by
    have h1 : W0.heap[N]? = some (.cells #[.int .i64 xo, .string xf, .string xt] 24 (0, 0)) := by rw [← hW0, ← hN]; exact heap_alloc_new w _
    have h2 := (hW.block N (by omega)).trans h1
    rw [Lib.cell_of_heap h2, Lib.cell_of_heap h2, Lib.cell_of_heap h2]
    exact ⟨rfl, rfl, rfl⟩
  have hv0 := hv.kept hb0
  have HB0 := hid hb0
  have hp0 := hp.on hb0
  have HF := hid (hfixed_any W0 hp0)
  obtain ⟨V, hV⟩ : ∃ V, d.map Fx.fld = V := ⟨_, rfl⟩
  have HAP : Hid (∀ W : World, Below W0.heap.size W0 W → Calls Tryz.prog 5 #[v, .slice (some ⟨W.heap.size, 0, none⟩) 1 1] (W.alloc (.cells #[.int .i64 xo, .string xf, .string xt] 24)) fun e w' => ApPost (W.alloc (.cells #[.int .i64 xo, .string xf, .string xt] 24)) V [(xo, xf, xt)] e w') := fun W hW => by
    have := papply_any v _ d [(xo, xf, xt)] _ (hv0.kept (hW.alloc hW.size _)) hf (ke_one W (xo, xf, xt)) hfx (hp0.on (hW.alloc hW.size _))
    rw [hV] at this
    exact this
  have HMV : Hid (∀ W, Below W0.heap.size W0 W → Calls Tryz.prog 6 #[v] W fun e w' => e = .returned (.bool (mayB V)) ∧ Below W.heap.size W w') := fun W hW => by
    have := rmay_any v d W (hv0.kept hW) hf
    rw [hV] at this
    exact this.mono fun e w' h => ⟨h.1, h.2.below⟩
  have HMX : Hid (∀ W : World, Below W0.heap.size W0 W → Calls Tryz.prog 7 #[.slice (some ⟨W.heap.size, 0, none⟩) 1 1] (W.alloc (.cells #[.int .i64 xo, .string xf, .string xt] 24)) fun e w' => e = .returned (.int .i64 (mayE [(xo, xf, xt)])) ∧ Below W.heap.size W w') := fun W hW => by
    refine (pmayE_any _ [(xo, xf, xt)] _ (ke_one W (xo, xf, xt)) hfx (hp0.on (hW.alloc hW.size _))).mono ?_
    rintro e w' ⟨rfl, h⟩
    exact ⟨rfl, bel_then ((Below.refl _ _).alloc (Nat.le_refl _) _) (by rw [World.size_alloc]; omega) h⟩
  have HTX : Hid (∀ W, Below W0.heap.size W0 W → Calls Tryz.prog 8 #[v, .string xf] W fun e w' => (∃ p c, e = .returned (.slice p (textsOf V xf).length c) ∧ TxtAt W p (textsOf V xf)) ∧ W = w') := fun W hW => by
    have := rtexts_any v xf d W (hv0.kept hW) hf
    rw [hV] at this
    exact this.mono fun e w' h => ⟨h.1, h.2.symm⟩
  have HV0 := hid hv0
  have HVV := hid hV
  have HFD := hid hf
  have HS0 := hid hs0
  have HXF := hid hx
  clear hv hf hv0 hb0 hV hi0 hfx hs0 hx hp hp0
  go_enter Tryz.func3, Tryz.ntmps3
  go_wp2_with fail
  try rw [hN]
  try rw [hW0]
  clear hW0 hN
  refine HF.out.mono ?_
  rintro e w1 ⟨rfl, q1⟩
  obtain ⟨x0, x1, x2⟩ := HX.out w1 q1
  have HQ1 := hid q1
  clear q1 HF
  go_wp2_with fail
  refine (HAP.out w1 HQ1.out).mono ?_
  rintro e w2 ⟨u5, o5, rfl, hi5, hm5, q2⟩
  have hq2 := bel_then (HQ1.out.alloc HQ1.out.size (.cells #[.int .i64 xo, .string xf, .string xt] 24)) (by rw [World.size_alloc]; have := HQ1.out.size; omega) q2
  have HQ2 := hid hq2
  have HI5 := hid hi5
  have HM5 := hid hm5
  obtain ⟨c, hc⟩ : ∃ c, codeA V [(xo, xf, xt)] = c := ⟨_, rfl⟩
  rw [hc]
  have HC := hid hc
  clear hi5 hm5 q2 hq2 hc HAP x0 x1 x2
  go_wp2_with fail
  refine (HMV.out w2 HQ2.out).mono ?_
  rintro e w3 ⟨rfl, q3⟩
  have hq3 := bel_then HQ2.out HQ2.out.size q3
  obtain ⟨x0, x1, x2⟩ := HX.out w3 hq3
  have HQ3 := hid hq3
  have HI53 := hid (HI5.out.kept q3)
  clear q3 hq3 HMV HI5
  cases hmv : mayB V with
  | false =>
    have hc3 : c = 3 := by rw [← HC.out]; exact codeA_field hmv
    subst hc3
    obtain ⟨p5, c5, hu5⟩ := ansA_zero (by rw [HC.out]; decide) HM5.out HI53.out
    subst hu5
    clear hmv
    go_wp2_with fail
    go_ret
    exact ⟨rfl, bel_then HB0.out HB0.out.size HQ3.out⟩
  | true =>
  go_wp2_with fail
  refine (HMX.out w3 HQ3.out).mono ?_
  rintro e w4 ⟨rfl, q4⟩
  have hq4 := bel_then HQ3.out HQ3.out.size q4
  obtain ⟨y0, y1, y2⟩ := HX.out w4 hq4
  have HQ4 := hid hq4
  have HI54 := hid (HI53.out.kept q4)
  clear q4 hq4 HMX x0 x1 x2
  by_cases hme : mayE [(xo, xf, xt)] = 0
  · rw [hme]
    obtain ⟨hol8, hos⟩ := okR_texts (okR_may hmv) xf
    have HSTP : Hid (¬ (restT (textsOf V xf) xt).length < (textsOf V xf).length → (xo = 3 → c = 6) ∧ (xo = 5 → c = 13)) := fun h => by
      rw [← HC.out]
      exact each_stop (x := (xo, xf, xt)) hmv hme h
    have HRUN : Hid (((xo = 3 ∨ xo = 5) → (restT (textsOf V xf) xt).length < (textsOf V xf).length) → runE V [(xo, xf, xt)] = (0, setF V xf (wantE (textsOf V xf) (xo, xf, xt)))) := fun h => each_run (x := (xo, xf, xt)) hmv hme h
    have HLNG : Hid (mayB (setF V xf (wantE (textsOf V xf) (xo, xf, xt))) = false → 8 < (wantE (textsOf V xf) (xo, xf, xt)).length ∨ (V.length = 16 ∧ textsOf V xf = [])) := fun h => each_long (x := (xo, xf, xt)) hmv hme h
    have hkind : xo = 1 ∨ xo = 2 ∨ xo = 3 ∨ xo = 4 ∨ xo = 5 := right_kind (x := (xo, xf, xt)) (mayE_one hme).2.1
    have HMV := hid hmv
    have HME := hid hme
    have HT4 := hid (HTX.out w4 HQ4.out)
    obtain ⟨old, hold⟩ : ∃ old, textsOf V xf = old := ⟨_, rfl⟩
    rw [hold] at HSTP HRUN HLNG HT4 hol8 hos
    have HOLD := hid hold
    have HOS := hid hos
    clear hme hmv hold hos HTX
    go_wp2_with fail
    refine HT4.out.mono ?_
    rintro e w5 ⟨⟨p7, c7, rfl, ht7⟩, rfl⟩
    have HT7 := hid ht7
    clear ht7 HT4
    go_wp2_with fail
    go_loopg [8, 9, 11, 48] old.length (fun g vn vr vt vi wr => ∃ j k : Nat, vi = .int .i64 j ∧ j ≤ old.length ∧ old.length - j ≤ g ∧ vn = .int .i64 k ∧ Hid (k + (restT (old.take j) xt).length = j) ∧ Hid (OwnT w4.heap.size wr vr (restT (old.take j) xt)) ∧ Hid (Below w4.heap.size w4 wr))
    case atStart => exact ⟨0, 0, rfl, by omega, by omega, rfl, rfl, World.ownsRow_nil _ _ _ _, Below.refl _ _⟩
    case round =>
    obtain ⟨j, k, rfl, hj, hgj, rfl, HK, HOR, HBL⟩ := hrel
    have hszl := HBL.out.size
    have hq4l := bel_then HQ4.out HQ4.out.size HBL.out
    obtain ⟨z0, z1, z2⟩ := HX.out wr hq4l
    by_cases hlj : j < old.length
    · have hljz : (j : Int) < (old.length : Int) := by omega
      have hjz : (0 : Int) ≤ j := by omega
      obtain ⟨b2, o2, rfl, ht2⟩ : ∃ b o, p7 = some ⟨b, o, none⟩ ∧ ∀ i, (h : i < old.length) → w4.cell? ⟨b, o + i, none⟩ = some (.string old[i]) := by
        rcases HT7.out with h | h
        · rw [h] at hlj; simp at hlj
        · exact h
      have t0 : wr.cell? ⟨b2, o2 + j, none⟩ = some (.string old[j]) := (HBL.out.cell (p := ⟨b2, o2 + j, none⟩) (cell_block (ht2 j hlj))).trans (ht2 j hlj)
      have hst : old.take (j + 1) = old.take j ++ [old[j]] := List.take_succ_eq_append_getElem hlj
      obtain ⟨t, hte⟩ : ∃ t, old[j] = t := ⟨_, rfl⟩
      rw [hte] at t0 hst
      have hrst : restT (old.take (j + 1)) xt = restT (old.take j) xt ++ if t = xt then [] else [t] := by
        rw [hst]
        unfold restT
        rw [List.filter_append]
        congr 1
        by_cases e : t = xt <;> simp [e]
      have hk8 : k ≤ 8 := by have := HK.out; omega
      have hr8 : (restT (old.take j) xt).length ≤ 8 := by have := HK.out; omega
      obtain ⟨ra, hra⟩ : ∃ ra, restT (old.take j) xt = ra := ⟨_, rfl⟩
      rw [hra] at HOR hrst hr8 HK
      have HRST := hid hrst
      clear ht2 hst hrst hte hra hq4l
      by_cases hq : t = xt
      · have hqe := seq_true hq
        have HQ := hid hq
        clear hq
        go_wp2_with fail
        go_roundg (old.length - (j + 1))
        case measure => omega
        refine ⟨j + 1, k + 1, by go_num, by omega, by omega, by go_num, ?_, ?_, HBL⟩
        · rw [HRST.out, if_pos HQ.out, List.append_nil]
          show _ = _
          have := HK.out
          omega
        · rw [HRST.out, if_pos HQ.out, List.append_nil]
          exact HOR
      · have hqe := seq_false hq
        have HQ := hid hq
        clear hq
        go_wp2_with (at_builtin; refine wpList_append_own _ rfl _ _ 32 rfl w4.heap.size 9 i0 (.string ⟨#[]⟩) 1 16 Tryz.underlying32 HI.out hz0 hz1 hz2 rfl (by decide) _ _ _ rfl (World.ownsRow.alloc HOR.out _) _ 1 1 [.string t] rfl rfl (fun j u hj => KT.news wr t j u hj) (by intro u hu; simp at hu; subst hu; rfl) (by unfold maxLen; omega) (by omega) (by simp; omega) ?_; intro v6 w6 hown6 hg6 hnil6; have HO6 := hid hown6; have HB6 := hid ((HBL.out.alloc hszl (.cells #[.string t] 9)).grown hg6 (by simp; omega) (fun k hk => (World.ownsRow.lt HOR.out k hk).1)); clear hown6 hg6 hnil6)
        go_roundg (old.length - (j + 1))
        case measure => omega
        refine ⟨j + 1, k, by go_num, by omega, by omega, rfl, ?_, ?_, HB6⟩
        · rw [HRST.out, if_neg HQ.out]
          show _ = _
          have := HK.out
          rw [List.length_append, List.length_singleton]
          omega
        · rw [HRST.out, if_neg HQ.out]
          show OwnT _ _ _ _
          unfold OwnT
          rw [List.length_append, List.map_append]
          exact HO6.out
    · have hljz : ¬ (j : Int) < (old.length : Int) := by omega
      have hjt : old.take j = old := List.take_of_length_le (by omega)
      rw [hjt] at HK HOR
      have hjo : j = old.length := by omega
      clear hjt hgj hj hlj
      subst hjo
      obtain ⟨rest, hrest⟩ : ∃ rest, restT old xt = rest := ⟨_, rfl⟩
      rw [hrest] at HK HOR HSTP HRUN
      have HRS := hid hrest
      obtain ⟨p9, c9, hp9⟩ := own_slice HOR.out
      subst hp9
      have hkr := HK.out
      obtain ⟨W6, rfl⟩ : ∃ W6, W6 = wr := ⟨_, rfl⟩
      clear hrest HK
      by_cases hstop : (xo = 3 ∨ xo = 5) ∧ k = 0
      · obtain ⟨hk35, hk0⟩ := hstop
        obtain ⟨s3, s5⟩ := HSTP.out (by omega)
        subst hk0
        rcases hk35 with rfl | rfl
        · have hc6 := s3 rfl
          subst hc6
          clear s3 s5 HSTP HRUN HLNG
          go_wp2_with fail
          go_ret
          exact ⟨rfl, bel_then HB0.out HB0.out.size hq4l⟩
        · have hc6 := s5 rfl
          subst hc6
          clear s3 s5 HSTP HRUN HLNG
          go_wp2_with fail
          go_ret
          exact ⟨rfl, bel_then HB0.out HB0.out.size hq4l⟩
      · have hrun := HRUN.out (fun h => by
          have : k ≠ 0 := fun e => hstop ⟨h, e⟩
          omega)
        have hk3 : xo = 3 → k ≠ 0 := fun h e => hstop ⟨Or.inl h, e⟩
        have hk5 : xo = 5 → k ≠ 0 := fun h e => hstop ⟨Or.inr h, e⟩
        have HRUN2 := hid hrun
        clear hstop HRUN HSTP hrun
        obtain ⟨want, hwant⟩ : ∃ want, wantE old (xo, xf, xt) = want := ⟨_, rfl⟩
        rw [hwant] at HRUN2 HLNG
        have HWA := hid hwant
        have HSC : Hid (∀ W, Below w4.heap.size w4 W → W.cell? ⟨N, 2, none⟩ = some (.string xt)) := fun W hW => (HX.out W (bel_then HQ4.out HQ4.out.size hW)).2.2
        clear hwant
        go_upto_block 2 with fail
        go_cut [12] from 63 (fun v12 wx => ∃ p12 c12, v12 = .slice p12 want.length c12 ∧ Hid (TxtAt wx p12 want) ∧ Hid (Below w4.heap.size w4 wx))
        case first =>
          rcases hkind with rfl | rfl | rfl | rfl | rfl
          · have hw : want = [xt] := by rw [← HWA.out]; simp [wantE]
            subst hw
            go_wp2_with fail
            go_meet
            case rel => exact ⟨_, _, rfl, txt_oneAt W6 xt, HBL.out.alloc hszl _⟩
          · have hw : want = old ++ [xt] := by rw [← HWA.out]; simp [wantE]
            subst hw
            have HBD : Hid (Below w4.heap.size w4 W6.drew) := HBL.out.drew
            have hszd : w4.heap.size ≤ W6.drew.heap.size := hszl
            obtain ⟨W7, hW7⟩ : ∃ W7, W6.drew = W7 := ⟨_, rfl⟩
            have hh7 : W6.heap.size = W7.heap.size := by rw [← hW7]; rfl
            rw [hW7] at HBD hszd
            have q0 := HSC.out _ HBD.out
            have HS2 : Hid (∀ W : World, Below w4.heap.size w4 W → w4.heap.size ≤ W.heap.size → (W.alloc (.cells #[] 9)).ownsRow w4.heap.size 9 1 (.slice (some ⟨W.heap.size, 0, none⟩) 0 0) 0 []) := fun W _ h => World.ownsRow_lit W #[] 0 h (by decide) rfl
            have hbA := HBD.out.alloc hszd (.cells #[] 9)
            have hsA : w4.heap.size ≤ (W7.alloc (.cells #[] 9)).heap.size := by rw [World.size_alloc]; omega
            have hbB := HBD.out.alloc hszd (.cells #[.string xt] 9)
            have hsB : w4.heap.size ≤ (W7.alloc (.cells #[.string xt] 9)).heap.size := by rw [World.size_alloc]; omega
            have hbAB := hbA.alloc hsA (.cells #[.string xt] 9)
            have hsAB : w4.heap.size ≤ ((W7.alloc (.cells #[] 9)).alloc (.cells #[.string xt] 9)).heap.size := by rw [World.size_alloc]; omega
            have hbBA := hbB.alloc hsB (.cells #[] 9)
            have hsBA : w4.heap.size ≤ ((W7.alloc (.cells #[.string xt] 9)).alloc (.cells #[] 9)).heap.size := by rw [World.size_alloc]; omega
            have qA := HSC.out _ hbA
            have qB := HSC.out _ hbB
            have qAB := HSC.out _ hbAB
            have qBA := HSC.out _ hbBA
            have HBA := hid hbA
            have HBB := hid hbB
            have HBAB := hid hbAB
            have HBBA := hid hbBA
            have HA0 := hid (HS2.out W7 HBD.out hszd)
            have HAB0 := hid (World.ownsRow.alloc HA0.out (.cells #[.string xt] 9))
            have hBA0 := HS2.out (W7.alloc (.cells #[.string xt] 9)) hbB hsB
            rw [World.size_alloc] at hBA0
            have HBA0 := hid hBA0
            have HSA := hid (src_ts (HT7.out.kept hbA))
            have HSAB := hid (src_ts (HT7.out.kept hbAB))
            have HSBA := hid (src_ts (HT7.out.kept hbBA))
            have HCAB : Hid (((W7.alloc (.cells #[] 9)).alloc (.cells #[.string xt] 9)).heap[W7.heap.size + 1]? = some (.cells #[.string xt] 9 (0, 0))) := by
              have := heap_alloc_new (W7.alloc (.cells #[] 9)) (.cells #[.string xt] 9)
              rwa [World.size_alloc] at this
            have HCBA : Hid (((W7.alloc (.cells #[.string xt] 9)).alloc (.cells #[] 9)).heap[W7.heap.size]? = some (.cells #[.string xt] 9 (0, 0))) := (Below.heap_alloc _ _ _ (by rw [World.size_alloc]; omega)).trans (heap_alloc_new W7 _)
            have HNW : Hid (∀ (W : World) (h : Nat), W.heap[h]? = some (.cells #[.string xt] 9 (0, 0)) → ∀ j u, ([.string xt] : List Value)[j]? = some u → W.cell? ((⟨h, 0, none⟩ : Addr).add j) = some u) := fun W h hh j u hu => by
              have hj : j < 1 := (List.getElem?_eq_some_iff.1 hu).1
              obtain rfl : j = 0 := by omega
              rw [addr_add, Lib.cell_of_heap hh]
              exact hu
            clear hbA hbB hbAB hbBA hBA0 hh7
            go_wp2_with fail
            refine wp_region_held_drew (S := fun W => W.cell? ⟨N, 2, none⟩ = some (.string xt)) (by kernel_rfl) (by rw [hW7]; exact q0) (fun hHeld => ?_)
            rw [hW7] at hHeld ⊢
            refine take_val (i := 1) (.slice p7 old.length c7) rfl (by kernel_rfl) (by kernel_rfl) (by kernel_rfl) (fun _ _ _ h => h) (by rfl) (fun w hSw => by go_simp) hHeld ?_
            simp only [Act.put, List.setIfInBounds_toArray, List.set_cons_zero, List.set_cons_succ]
            refine take_val (i := 3) (.pointer (some ⟨N, 2, none⟩)) rfl (by kernel_rfl) (by kernel_rfl) (by kernel_rfl) (fun _ _ _ h => h) (by rfl) (fun w hSw => by go_simp) hHeld ?_
            simp only [Act.put, List.setIfInBounds_toArray, List.set_cons_zero, List.set_cons_succ]
            refine take_val (i := 4) (.string xt) rfl (by kernel_rfl) (by kernel_rfl) (by kernel_rfl) (fun _ _ _ h => h) (by rfl) (fun w hSw => by go_simp) hHeld ?_
            simp only [Act.put, List.setIfInBounds_toArray, List.set_cons_zero, List.set_cons_succ]
            refine wpAnyH_ready (rs := [0, 5]) (by kernel_rfl) (by simp) ?_
            refine AllReadyH.cons (at_drop0 rfl) (fun K hK => ?_) (AllReadyH.cons (at_drop0 rfl) (fun K hK => ?_) AllReadyH.nil)
            · rw [if_pos (by rfl)]
              go_simp
              refine hK.out _ _ qA (fun hHeld => ?_)
              clear hK K
              try simp only [Act.put, List.setIfInBounds_toArray, List.set_cons_zero, List.set_cons_succ]
              refine wpAnyH_ready (rs := [2, 5]) (by kernel_rfl) (by simp) ?_
              refine AllReadyH.cons (at_drop0 rfl) (fun K hK => ?_) (AllReadyH.cons (at_drop0 rfl) (fun K hK => ?_) AllReadyH.nil)
              · refine step_append_rows _ (by rfl) (.tmp 95) (.tmp 96) 32 (by rfl) w4.heap.size 9 i0 (.string ⟨#[]⟩) 1 16 Tryz.underlying32 HI.out hz0 hz1 hz2 rfl (by decide) (.slice (some ⟨W7.heap.size, 0, none⟩) 0 0) 0 [] (by rfl) HA0.out p7 old.length c7 (old.map Value.string) (by rfl) (by simp) HSA.out (txts_one old) (by unfold maxLen; omega) (by omega) hsA ?_
                intro v8 w8 hown8 hg8
                have hb8 : Below w4.heap.size w4 w8 := HBA.out.grown hg8 hsA (fun k hk => (World.ownsRow.lt HA0.out k hk).1)
                have hs8 := hb8.size
                have q8 := HSC.out _ hb8
                have HO8 : Hid (OwnT w4.heap.size w8 v8 old) := by
                  have h := hown8
                  rw [Nat.zero_add, List.nil_append] at h
                  exact h
                have hb8a := hb8.alloc hs8 (.cells #[.string xt] 9)
                have hs8a : w4.heap.size ≤ (w8.alloc (.cells #[.string xt] 9)).heap.size := by rw [World.size_alloc]; omega
                have HB8A := hid hb8a
                have q8a := HSC.out _ hb8a
                clear hown8 hg8 hb8 hb8a
                refine hK.out _ _ q8 (fun hHeld => ?_)
                clear hK K
                try simp only [Act.put, List.setIfInBounds_toArray, List.set_cons_zero, List.set_cons_succ]
                refine wpAnyH_ready (rs := [5]) (by kernel_rfl) (by simp) ?_
                refine AllReadyH.cons (at_drop0 rfl) (fun K hK => ?_) AllReadyH.nil
                rw [if_pos (by rfl)]
                go_simp
                refine hK.out _ _ q8a (fun hHeld => ?_)
                clear hK K
                try simp only [Act.put, List.setIfInBounds_toArray, List.set_cons_zero, List.set_cons_succ]
                refine wpAnyH_ready (rs := [6]) (by kernel_rfl) (by simp) ?_
                refine AllReadyH.cons (at_drop0 rfl) (fun K hK => ?_) AllReadyH.nil
                refine step_append_lies _ (by rfl) (.tmp 97) (.tmp 100) 32 (by rfl) w4.heap.size 9 i0 (.string ⟨#[]⟩) 1 16 Tryz.underlying32 HI.out hz0 hz1 hz2 rfl (by decide) v8 old.length (old.map Value.string) (by rfl) (World.ownsRow.alloc HO8.out _) ⟨w8.heap.size, 0, none⟩ 1 1 [.string xt] (by rfl) rfl (fun j u hj => KT.news w8 xt j u hj) (by intro u hu; simp at hu; subst hu; rfl) (by decide) (by unfold maxLen; omega) (by omega) hs8a _ rfl ?_
                intro g9 cap9 w9 hown9 hg9 _ _
                have hb9 : Below w4.heap.size w4 w9 := HB8A.out.grown hg9 hs8a (fun k hk => (World.ownsRow.lt HO8.out k hk).1)
                have HB9 := hid hb9
                have q9 := HSC.out _ hb9
                have HO9 : Hid (OwnT w4.heap.size w9 (.slice (some ⟨g9, 0, none⟩) (old ++ [xt]).length cap9) (old ++ [xt])) := by
                  show w9.ownsRow _ _ _ _ _ _
                  rw [List.length_append, List.map_append]
                  exact hown9
                clear hown9 hg9 hb9
                refine hK.out _ _ q9 (fun hHeld => ?_)
                clear hK K
                try simp only [Act.put, List.setIfInBounds_toArray, List.set_cons_zero, List.set_cons_succ]
                refine take_val (i := 7) (.slice (some ⟨g9, 0, none⟩) (old.length + 1) cap9) rfl (by kernel_rfl) (by kernel_rfl) (by kernel_rfl) (fun _ _ _ h => h) (by rfl) (fun w hSw => by go_simp) hHeld ?_
                simp only [Act.put, List.setIfInBounds_toArray, List.set_cons_zero, List.set_cons_succ]
                refine wpAnyH_done (by kernel_rfl) ?_ _
                go_wp2_with fail
                go_meet
                case rel => exact ⟨some ⟨g9, 0, none⟩, cap9, by rw [List.length_append]; rfl, HO9.out.txtAt, HB9⟩
              · rw [if_pos (by rfl)]
                go_simp
                refine hK.out _ _ qAB (fun hHeld => ?_)
                clear hK K
                try simp only [Act.put, List.setIfInBounds_toArray, List.set_cons_zero, List.set_cons_succ]
                refine wpAnyH_ready (rs := [2]) (by kernel_rfl) (by simp) ?_
                refine AllReadyH.cons (at_drop0 rfl) (fun K hK => ?_) AllReadyH.nil
                refine step_append_rows _ (by rfl) (.tmp 95) (.tmp 96) 32 (by rfl) w4.heap.size 9 i0 (.string ⟨#[]⟩) 1 16 Tryz.underlying32 HI.out hz0 hz1 hz2 rfl (by decide) (.slice (some ⟨W7.heap.size, 0, none⟩) 0 0) 0 [] (by rfl) HAB0.out p7 old.length c7 (old.map Value.string) (by rfl) (by simp) HSAB.out (txts_one old) (by unfold maxLen; omega) (by omega) hsAB ?_
                intro v8 w8 hown8 hg8
                have hb8 : Below w4.heap.size w4 w8 := HBAB.out.grown hg8 hsAB (fun k hk => (World.ownsRow.lt HAB0.out k hk).1)
                have hs8 := hb8.size
                have q8 := HSC.out _ hb8
                have HB8 := hid hb8
                have HB8C : Hid (w8.heap[W7.heap.size + 1]? = some (.cells #[.string xt] 9 (0, 0))) := (hg8.block (W7.heap.size + 1) (by rw [World.size_alloc, World.size_alloc]; omega) (fun e => by have e2 : some (W7.heap.size + 1) = some (W7.heap.size) := e; injection e2 with e2; omega)).trans HCAB.out
                have HO8 : Hid (OwnT w4.heap.size w8 v8 old) := by
                  have h := hown8
                  rw [Nat.zero_add, List.nil_append] at h
                  exact h
                clear hown8 hg8 hb8
                refine hK.out _ _ q8 (fun hHeld => ?_)
                clear hK K
                try simp only [Act.put, List.setIfInBounds_toArray, List.set_cons_zero, List.set_cons_succ]
                refine wpAnyH_ready (rs := [6]) (by kernel_rfl) (by simp) ?_
                refine AllReadyH.cons (at_drop0 rfl) (fun K hK => ?_) AllReadyH.nil
                refine step_append_lies _ (by rfl) (.tmp 97) (.tmp 100) 32 (by rfl) w4.heap.size 9 i0 (.string ⟨#[]⟩) 1 16 Tryz.underlying32 HI.out hz0 hz1 hz2 rfl (by decide) v8 old.length (old.map Value.string) (by rfl) HO8.out ⟨W7.heap.size + 1, 0, none⟩ 1 1 [.string xt] (by rfl) rfl (HNW.out w8 _ HB8C.out) (by intro u hu; simp at hu; subst hu; rfl) (by decide) (by unfold maxLen; omega) (by omega) hs8 _ rfl ?_
                intro g9 cap9 w9 hown9 hg9 _ _
                have hb9 : Below w4.heap.size w4 w9 := HB8.out.grown hg9 hs8 (fun k hk => (World.ownsRow.lt HO8.out k hk).1)
                have HB9 := hid hb9
                have q9 := HSC.out _ hb9
                have HO9 : Hid (OwnT w4.heap.size w9 (.slice (some ⟨g9, 0, none⟩) (old ++ [xt]).length cap9) (old ++ [xt])) := by
                  show w9.ownsRow _ _ _ _ _ _
                  rw [List.length_append, List.map_append]
                  exact hown9
                clear hown9 hg9 hb9
                refine hK.out _ _ q9 (fun hHeld => ?_)
                clear hK K
                try simp only [Act.put, List.setIfInBounds_toArray, List.set_cons_zero, List.set_cons_succ]
                refine take_val (i := 7) (.slice (some ⟨g9, 0, none⟩) (old.length + 1) cap9) rfl (by kernel_rfl) (by kernel_rfl) (by kernel_rfl) (fun _ _ _ h => h) (by rfl) (fun w hSw => by go_simp) hHeld ?_
                simp only [Act.put, List.setIfInBounds_toArray, List.set_cons_zero, List.set_cons_succ]
                refine wpAnyH_done (by kernel_rfl) ?_ _
                go_wp2_with fail
                go_meet
                case rel => exact ⟨some ⟨g9, 0, none⟩, cap9, by rw [List.length_append]; rfl, HO9.out.txtAt, HB9⟩
            · rw [if_pos (by rfl)]
              go_simp
              refine hK.out _ _ qB (fun hHeld => ?_)
              clear hK K
              try simp only [Act.put, List.setIfInBounds_toArray, List.set_cons_zero, List.set_cons_succ]
              refine wpAnyH_ready (rs := [0]) (by kernel_rfl) (by simp) ?_
              refine AllReadyH.cons (at_drop0 rfl) (fun K hK => ?_) AllReadyH.nil
              rw [if_pos (by rfl)]
              go_simp
              refine hK.out _ _ qBA (fun hHeld => ?_)
              clear hK K
              try simp only [Act.put, List.setIfInBounds_toArray, List.set_cons_zero, List.set_cons_succ]
              refine wpAnyH_ready (rs := [2]) (by kernel_rfl) (by simp) ?_
              refine AllReadyH.cons (at_drop0 rfl) (fun K hK => ?_) AllReadyH.nil
              refine step_append_rows _ (by rfl) (.tmp 95) (.tmp 96) 32 (by rfl) w4.heap.size 9 i0 (.string ⟨#[]⟩) 1 16 Tryz.underlying32 HI.out hz0 hz1 hz2 rfl (by decide) (.slice (some ⟨W7.heap.size + 1, 0, none⟩) 0 0) 0 [] (by rfl) HBA0.out p7 old.length c7 (old.map Value.string) (by rfl) (by simp) HSBA.out (txts_one old) (by unfold maxLen; omega) (by omega) hsBA ?_
              intro v8 w8 hown8 hg8
              have hb8 : Below w4.heap.size w4 w8 := HBBA.out.grown hg8 hsBA (fun k hk => (World.ownsRow.lt HBA0.out k hk).1)
              have hs8 := hb8.size
              have q8 := HSC.out _ hb8
              have HB8 := hid hb8
              have HB8C : Hid (w8.heap[W7.heap.size]? = some (.cells #[.string xt] 9 (0, 0))) := (hg8.block (W7.heap.size) (by rw [World.size_alloc, World.size_alloc]; omega) (fun e => by have e2 : some (W7.heap.size) = some (W7.heap.size + 1) := e; injection e2 with e2; omega)).trans HCBA.out
              have HO8 : Hid (OwnT w4.heap.size w8 v8 old) := by
                have h := hown8
                rw [Nat.zero_add, List.nil_append] at h
                exact h
              clear hown8 hg8 hb8
              refine hK.out _ _ q8 (fun hHeld => ?_)
              clear hK K
              try simp only [Act.put, List.setIfInBounds_toArray, List.set_cons_zero, List.set_cons_succ]
              refine wpAnyH_ready (rs := [6]) (by kernel_rfl) (by simp) ?_
              refine AllReadyH.cons (at_drop0 rfl) (fun K hK => ?_) AllReadyH.nil
              refine step_append_lies _ (by rfl) (.tmp 97) (.tmp 100) 32 (by rfl) w4.heap.size 9 i0 (.string ⟨#[]⟩) 1 16 Tryz.underlying32 HI.out hz0 hz1 hz2 rfl (by decide) v8 old.length (old.map Value.string) (by rfl) HO8.out ⟨W7.heap.size, 0, none⟩ 1 1 [.string xt] (by rfl) rfl (HNW.out w8 _ HB8C.out) (by intro u hu; simp at hu; subst hu; rfl) (by decide) (by unfold maxLen; omega) (by omega) hs8 _ rfl ?_
              intro g9 cap9 w9 hown9 hg9 _ _
              have hb9 : Below w4.heap.size w4 w9 := HB8.out.grown hg9 hs8 (fun k hk => (World.ownsRow.lt HO8.out k hk).1)
              have HB9 := hid hb9
              have q9 := HSC.out _ hb9
              have HO9 : Hid (OwnT w4.heap.size w9 (.slice (some ⟨g9, 0, none⟩) (old ++ [xt]).length cap9) (old ++ [xt])) := by
                show w9.ownsRow _ _ _ _ _ _
                rw [List.length_append, List.map_append]
                exact hown9
              clear hown9 hg9 hb9
              refine hK.out _ _ q9 (fun hHeld => ?_)
              clear hK K
              try simp only [Act.put, List.setIfInBounds_toArray, List.set_cons_zero, List.set_cons_succ]
              refine take_val (i := 7) (.slice (some ⟨g9, 0, none⟩) (old.length + 1) cap9) rfl (by kernel_rfl) (by kernel_rfl) (by kernel_rfl) (fun _ _ _ h => h) (by rfl) (fun w hSw => by go_simp) hHeld ?_
              simp only [Act.put, List.setIfInBounds_toArray, List.set_cons_zero, List.set_cons_succ]
              refine wpAnyH_done (by kernel_rfl) ?_ _
              go_wp2_with fail
              go_meet
              case rel => exact ⟨some ⟨g9, 0, none⟩, cap9, by rw [List.length_append]; rfl, HO9.out.txtAt, HB9⟩
          · have hw : want = rest := by rw [← HWA.out, ← HRS.out]; simp [wantE]
            subst hw
            have hkn : ((k : Int) == 0) = false := beq_eq_false_iff_ne.2 (by have := hk3 rfl; omega)
            go_wp2_with fail
            go_meet
            case rel => exact ⟨_, _, rfl, OwnT.txtAt HOR.out, HBL⟩
          · have hw : want = [] := by rw [← HWA.out]; simp [wantE]
            subst hw
            go_wp2_with fail
            go_meet
            case rel => exact ⟨_, _, rfl, Or.inl rfl, HBL⟩
          · have hw : want = old := by rw [← HWA.out]; simp [wantE]
            subst hw
            have hkn : ((k : Int) == 0) = false := beq_eq_false_iff_ne.2 (by have := hk5 rfl; omega)
            go_wp2_with fail
            go_meet
            case rel => exact ⟨_, _, rfl, HT7.out.kept HBL.out, HBL⟩
        case rest =>
        obtain ⟨p12, c12, rfl, HT12, HB12⟩ := hcut
        have hsz12 := HB12.out.size
        have hq12 := bel_then HQ4.out HQ4.out.size HB12.out
        obtain ⟨x0, x1, x2⟩ := HX.out wc hq12
        have HQ12 := hid hq12
        obtain ⟨pv, cv, hveq, hdv, hxv⟩ := HV0.out
        subst hveq
        have hdl : d.length = V.length := by rw [← HVV.out, List.length_map]
        have hd16 : d.length ≤ 16 := by have := (mayR HMV.out).1; omega
        have HDL := hid hdl
        have HDV := hid hdv
        have HXV := hid hxv
        clear hdl hq12 hdv hxv HRS HOR HSC hkr hk3 hk5 hszl hq4l z0 z1 z2 y0 y1 y2
        cases hmr : mayB (setF V xf want) with
        | false =>
          have hc5 : c = 5 := by rw [← HC.out]; exact codeA_long HMV.out HME.out (by rw [HRUN2.out]) (by rw [HRUN2.out]; exact hmr)
          subst hc5
          have hlng := HLNG.out hmr
          clear hmr HLNG
          by_cases h8 : 8 < want.length
          · have h8z : (8 : Int) < (want.length : Int) := by omega
            clear hlng
            go_wp2_with fail
            go_ret
            exact ⟨rfl, bel_then HB0.out HB0.out.size HQ12.out⟩
          · have h8z : ¬ (8 : Int) < (want.length : Int) := by omega
            obtain ⟨h16, ho⟩ : V.length = 16 ∧ old = [] := by
              rcases hlng with h | h
              · exact absurd h h8
              · exact h
            have h16z : ((d.length : Int) == 16) = true := beq_iff_eq.2 (by have := HDL.out; omega)
            subst ho
            clear hlng h8
            go_wp2_with fail
            go_ret
            exact ⟨rfl, bel_then HB0.out HB0.out.size HQ12.out⟩
        | true =>
        have hc0 : c = 0 := by rw [← HC.out]; exact codeA_of HMV.out HME.out (by rw [HRUN2.out]) (by rw [HRUN2.out]; exact hmr)
        subst hc0
        have hm5 : o5.map Fx.fld = setF V xf want := by rw [HM5.out]; unfold ansA; rw [if_pos HC.out, HRUN2.out]
        have HM5R := hid hm5
        have hR := (mayR HMV.out).2.2
        have HTS := hid (fun m => textsOf_set hR xf m want)
        have HTV : Hid (∀ i, (h : i < d.length) → textsOf V (d[i]).name = (d[i]).txt) := fun i h => by
          have := textsOf_mem (v := V) hR (f := (d[i]).fld) (by rw [← HVV.out]; exact List.mem_map.2 ⟨_, List.getElem_mem h, rfl⟩)
          exact this
        have HLEN := hid (setF_length hR (may_nobareE HMV.out) xf want)
        have hfo5 : FitX o5 := may_fitE (by rw [hm5]; exact hmr)
        have hI5 := HI54.out.kept HB12.out
        have HTG : Hid (∀ (W : World) (nm : ByteArray), Below wc.heap.size wc W → Calls Tryz.prog 8 #[u5, .string nm] W fun e w' => (∃ p c, e = .returned (.slice p (textsOf (setF V xf want) nm).length c) ∧ TxtAt W p (textsOf (setF V xf want) nm)) ∧ W = w') := fun W nm hW => by
          have := rtexts_any u5 nm o5 W (hI5.kept hW) hfo5
          rw [hm5] at this
          exact this.mono fun e w' h => ⟨h.1, h.2.symm⟩
        have HI5C := hid hI5
        clear hmr hm5 hR hfo5 hI5 HLNG HI54 HI53 HM5 HRUN2
        go_wp2_with fail
        go_loopg [14, 132] d.length (fun g vb vi wr => ∃ i : Nat, vi = .int .i64 i ∧ i ≤ d.length ∧ d.length - i ≤ g ∧ Hid (Below wc.heap.size wc wr))
        case atStart => exact ⟨0, rfl, by omega, by omega, Below.refl _ _⟩
        case round =>
        obtain ⟨i, rfl, hi, hgi, HBI⟩ := hrel
        have hszi := HBI.out.size
        have hqi := bel_then HQ12.out HQ12.out.size HBI.out
        obtain ⟨g0, g1, g2⟩ := HX.out wr hqi
        have HQI := hid hqi
        clear hqi
        by_cases hlt : i < d.length
        · have hltz : (i : Int) < (d.length : Int) := by omega
          have hiz : (0 : Int) ≤ i := by omega
          obtain ⟨bd, od, rfl, hxs⟩ : ∃ b off, pv = some ⟨b, off, none⟩ ∧ XsAt W0 b off d := by
            rcases HDV.out with h | h
            · subst h; simp at hlt
            · exact h
          obtain ⟨e0, e1⟩ := hxs.kept HQI.out i hlt
          have hxi : (d[i]).at W0 := HXV.out _ (List.getElem_mem hlt)
          have htv := HTV.out i hlt
          have htx : (d[i]).txt.length ≤ 8 := (fitsP ((mayR HMV.out).2.1 (d[i]).fld (by rw [← HVV.out]; exact List.mem_map.2 ⟨_, List.getElem_mem hlt, rfl⟩))).2.2.1
          obtain ⟨⟨nm, pn, cn, us⟩, hdx⟩ : ∃ y, d[i] = y := ⟨_, rfl⟩
          rw [hdx] at e0 e1 hxi htv htx
          simp only [Fx.sl, Fx.at] at e0 e1 hxi htv htx
          have HXI := hid hxi
          have HTVI := hid htv
          clear hxs hxi htv hdx
          obtain ⟨WB, hWB⟩ : ∃ WB, wr.alloc (.cells #[.string nm, .slice pn us.length cn] 35) = WB := ⟨_, rfl⟩
          obtain ⟨H, hH⟩ : ∃ H, wr.heap.size = H := ⟨_, rfl⟩
          have hbB : Below wc.heap.size wc WB := by rw [← hWB]; exact HBI.out.alloc hszi _
          have hhB : WB.heap[H]? = some (.cells #[.string nm, .slice pn us.length cn] 35 (0, 0)) := by rw [← hWB, ← hH]; exact heap_alloc_new wr _
          have hHB : H < WB.heap.size := by rw [← hWB, ← hH]; simp
          have HWB := hid hbB
          have KS : Hid (∀ W, Below WB.heap.size WB W → W.cell? ⟨H, 0, none⟩ = some (.string nm) ∧ W.cell? ⟨H, 1, none⟩ = some (.slice pn us.length cn) ∧ W.cell? ⟨N, 1, none⟩ = some (.string xf)) := fun W hW => by
            have h2 := (hW.block H hHB).trans hhB
            rw [Lib.cell_of_heap h2, Lib.cell_of_heap h2]
            exact ⟨rfl, rfl, (HX.out W (bel_then HQ12.out HQ12.out.size (bel_then HWB.out HWB.out.size hW))).2.1⟩
          have q0 := KS.out WB.drew (Below.refl _ _).drew
          have hbBd : Below wc.heap.size wc WB.drew := HWB.out.drew
          have HBD := hid hbBd
          clear hbB hhB hHB hbBd
          by_cases hq : nm = xf
          · have hqe := seq_true hq
            clear hq
            go_wp2_with fail
            try rw [hH]
            try rw [hWB]
            refine wp_region_held_drew (S := fun W => W.cell? ⟨H, 0, none⟩ = some (.string nm) ∧ W.cell? ⟨H, 1, none⟩ = some (.slice pn us.length cn) ∧ W.cell? ⟨N, 1, none⟩ = some (.string xf)) (by kernel_rfl) q0 (fun hHeld => ?_)
            refine take_val (i := 0) (.pointer (some ⟨H, 0, none⟩)) rfl (by kernel_rfl) (by kernel_rfl) (by kernel_rfl) (fun _ _ _ h => h) (by rfl) (fun w hSw => by go_simp) hHeld ?_
            simp only [Act.put, List.setIfInBounds_toArray, List.set_cons_zero, List.set_cons_succ]
            refine take_val (i := 1) (.string nm) rfl (by kernel_rfl) (by kernel_rfl) (by kernel_rfl) (fun _ _ _ h => h) (by rfl) (fun w hSw => by go_simp) hHeld ?_
            simp only [Act.put, List.setIfInBounds_toArray, List.set_cons_zero, List.set_cons_succ]
            refine take_val (i := 2) (.pointer (some ⟨N, 1, none⟩)) rfl (by kernel_rfl) (by kernel_rfl) (by kernel_rfl) (fun _ _ _ h => h) (by rfl) (fun w hSw => by go_simp) hHeld ?_
            simp only [Act.put, List.setIfInBounds_toArray, List.set_cons_zero, List.set_cons_succ]
            refine take_val (i := 3) (.string xf) rfl (by kernel_rfl) (by kernel_rfl) (by kernel_rfl) (fun _ _ _ h => h) (by rfl) (fun w hSw => by go_simp) hHeld ?_
            simp only [Act.put, List.setIfInBounds_toArray, List.set_cons_zero, List.set_cons_succ]
            refine take_val (i := 4) (.bool false) rfl (by kernel_rfl) (by kernel_rfl) (by kernel_rfl) (fun _ _ _ h => h) (by rfl) (fun w hSw => by go_simp) hHeld ?_
            simp only [Act.put, List.setIfInBounds_toArray, List.set_cons_zero, List.set_cons_succ]
            refine take_val (i := 5) (.bool false) rfl (by kernel_rfl) (by kernel_rfl) (by kernel_rfl) (fun _ _ _ h => h) (by rfl) (fun w hSw => by go_simp) hHeld ?_
            simp only [Act.put, List.setIfInBounds_toArray, List.set_cons_zero, List.set_cons_succ]
            refine take_not (i := 6) rfl (by kernel_rfl) (by kernel_rfl) (by kernel_rfl) (fun _ _ _ h => h) (by rfl) hHeld ?_
            simp only [Act.put, List.setIfInBounds_toArray, List.set_cons_zero, List.set_cons_succ]
            refine take_not (i := 7) rfl (by kernel_rfl) (by kernel_rfl) (by kernel_rfl) (fun _ _ _ h => h) (by rfl) hHeld ?_
            simp only [Act.put, List.setIfInBounds_toArray, List.set_cons_zero, List.set_cons_succ]
            refine take_not (i := 8) rfl (by kernel_rfl) (by kernel_rfl) (by kernel_rfl) (fun _ _ _ h => h) (by rfl) hHeld ?_
            simp only [Act.put, List.setIfInBounds_toArray, List.set_cons_zero, List.set_cons_succ]
            refine take_not (i := 9) rfl (by kernel_rfl) (by kernel_rfl) (by kernel_rfl) (fun _ _ _ h => h) (by rfl) hHeld ?_
            simp only [Act.put, List.setIfInBounds_toArray, List.set_cons_zero, List.set_cons_succ]
            refine take_not (i := 10) rfl (by kernel_rfl) (by kernel_rfl) (by kernel_rfl) (fun _ _ _ h => h) (by rfl) hHeld ?_
            simp only [Act.put, List.setIfInBounds_toArray, List.set_cons_zero, List.set_cons_succ]
            refine take_not (i := 11) rfl (by kernel_rfl) (by kernel_rfl) (by kernel_rfl) (fun _ _ _ h => h) (by rfl) hHeld ?_
            simp only [Act.put, List.setIfInBounds_toArray, List.set_cons_zero, List.set_cons_succ]
            refine take_not (i := 12) rfl (by kernel_rfl) (by kernel_rfl) (by kernel_rfl) (fun _ _ _ h => h) (by rfl) hHeld ?_
            simp only [Act.put, List.setIfInBounds_toArray, List.set_cons_zero, List.set_cons_succ]
            refine take_not (i := 13) rfl (by kernel_rfl) (by kernel_rfl) (by kernel_rfl) (fun _ _ _ h => h) (by rfl) hHeld ?_
            simp only [Act.put, List.setIfInBounds_toArray, List.set_cons_zero, List.set_cons_succ]
            refine take_val (i := 14) (.bool false) rfl (by kernel_rfl) (by kernel_rfl) (by kernel_rfl) (fun _ _ _ h => h) (by rfl) (fun w hSw => by go_simp) hHeld ?_
            simp only [Act.put, List.setIfInBounds_toArray, List.set_cons_zero, List.set_cons_succ]
            refine wpAnyH_done (by kernel_rfl) ?_ _
            go_wp2_with fail
            go_roundg (d.length - (i + 1))
            case measure => omega
            case rel => exact ⟨i + 1, by go_num, by omega, by omega, HBD⟩
          · have hqe := seq_false hq
            have hT : textsOf (setF V xf want) nm = us := by rw [HTS.out nm, if_neg hq, HTVI.out]
            have HT9 := hid (HTG.out WB.drew nm HBD.out)
            rw [hT] at HT9
            have HSM : Hid (∀ p c, TxtAt WB.drew p us → Calls Tryz.prog 9 #[.slice p us.length c, .slice pn us.length cn] WB.drew fun e w' => e = .returned (.bool true) ∧ ∃ n, w' = WB.drew.drewN n) := fun p c hp => by
              have h1 := sameT_any p pn c cn us us WB.drew hp (HXI.out.kept (bel_then HQ12.out HQ12.out.size HBD.out)) (by unfold maxLen; omega)
              rw [decide_eq_true rfl] at h1
              exact h1
            clear hq hT
            go_wp2_with fail
            try rw [hH]
            try rw [hWB]
            refine wp_region_held_drew (S := fun W => W.cell? ⟨H, 0, none⟩ = some (.string nm) ∧ W.cell? ⟨H, 1, none⟩ = some (.slice pn us.length cn) ∧ W.cell? ⟨N, 1, none⟩ = some (.string xf)) (by kernel_rfl) q0 (fun hHeld => ?_)
            refine take_val (i := 0) (.pointer (some ⟨H, 0, none⟩)) rfl (by kernel_rfl) (by kernel_rfl) (by kernel_rfl) (fun _ _ _ h => h) (by rfl) (fun w hSw => by go_simp) hHeld ?_
            simp only [Act.put, List.setIfInBounds_toArray, List.set_cons_zero, List.set_cons_succ]
            refine take_val (i := 1) (.string nm) rfl (by kernel_rfl) (by kernel_rfl) (by kernel_rfl) (fun _ _ _ h => h) (by rfl) (fun w hSw => by go_simp) hHeld ?_
            simp only [Act.put, List.setIfInBounds_toArray, List.set_cons_zero, List.set_cons_succ]
            refine take_val (i := 2) (.pointer (some ⟨N, 1, none⟩)) rfl (by kernel_rfl) (by kernel_rfl) (by kernel_rfl) (fun _ _ _ h => h) (by rfl) (fun w hSw => by go_simp) hHeld ?_
            simp only [Act.put, List.setIfInBounds_toArray, List.set_cons_zero, List.set_cons_succ]
            refine take_val (i := 3) (.string xf) rfl (by kernel_rfl) (by kernel_rfl) (by kernel_rfl) (fun _ _ _ h => h) (by rfl) (fun w hSw => by go_simp) hHeld ?_
            simp only [Act.put, List.setIfInBounds_toArray, List.set_cons_zero, List.set_cons_succ]
            refine take_val (i := 4) (.bool true) rfl (by kernel_rfl) (by kernel_rfl) (by kernel_rfl) (fun _ _ _ h => h) (by rfl) (fun w hSw => by go_simp) hHeld ?_
            simp only [Act.put, List.setIfInBounds_toArray, List.set_cons_zero, List.set_cons_succ]
            refine take_val (i := 5) (.bool true) rfl (by kernel_rfl) (by kernel_rfl) (by kernel_rfl) (fun _ _ _ h => h) (by rfl) (fun w hSw => by go_simp) hHeld ?_
            simp only [Act.put, List.setIfInBounds_toArray, List.set_cons_zero, List.set_cons_succ]
            refine take_val (i := 6) (u5) rfl (by kernel_rfl) (by kernel_rfl) (by kernel_rfl) (fun _ _ _ h => h) (by rfl) (fun w hSw => by go_simp) hHeld ?_
            simp only [Act.put, List.setIfInBounds_toArray, List.set_cons_zero, List.set_cons_succ]
            refine take_val (i := 7) (.pointer (some ⟨H, 0, none⟩)) rfl (by kernel_rfl) (by kernel_rfl) (by kernel_rfl) (fun _ _ _ h => h) (by rfl) (fun w hSw => by go_simp) hHeld ?_
            simp only [Act.put, List.setIfInBounds_toArray, List.set_cons_zero, List.set_cons_succ]
            refine take_val (i := 8) (.string nm) rfl (by kernel_rfl) (by kernel_rfl) (by kernel_rfl) (fun _ _ _ h => h) (by rfl) (fun w hSw => by go_simp) hHeld ?_
            simp only [Act.put, List.setIfInBounds_toArray, List.set_cons_zero, List.set_cons_succ]
            refine take_val (i := 10) (.pointer (some ⟨H, 1, none⟩)) rfl (by kernel_rfl) (by kernel_rfl) (by kernel_rfl) (fun _ _ _ h => h) (by rfl) (fun w hSw => by go_simp) hHeld ?_
            simp only [Act.put, List.setIfInBounds_toArray, List.set_cons_zero, List.set_cons_succ]
            refine take_val (i := 11) (.slice pn us.length cn) rfl (by kernel_rfl) (by kernel_rfl) (by kernel_rfl) (fun _ _ _ h => h) (by rfl) (fun w hSw => by go_simp) hHeld ?_
            simp only [Act.put, List.setIfInBounds_toArray, List.set_cons_zero, List.set_cons_succ]
            refine wpAnyH_ready (rs := [9]) (by kernel_rfl) (by simp) ?_
            refine AllReadyH.cons (at_drop0 rfl) (fun K hK => ?_) AllReadyH.nil
            rw [if_pos (by rfl)]
            go_simp
            refine HT9.out.mono ?_
            rintro e w7 ⟨⟨p8, c8, rfl, ht8⟩, rfl⟩
            have HS8 := hid (HSM.out p8 c8 ht8)
            clear ht8
            go_wp2_with fail
            refine hK.out _ _ q0 (fun hHeld => ?_)
            clear hK K
            try simp only [Act.put, List.setIfInBounds_toArray, List.set_cons_zero, List.set_cons_succ]
            refine wpAnyH_ready (rs := [12]) (by kernel_rfl) (by simp) ?_
            refine AllReadyH.cons (at_drop0 rfl) (fun K hK => ?_) AllReadyH.nil
            rw [if_pos (by rfl)]
            go_simp
            refine HS8.out.mono ?_
            rintro e w7 ⟨rfl, n7, q7⟩
            have hb7 : Below WB.heap.size WB w7 := by rw [q7]; exact bel_drewN (Below.refl _ _).drew n7
            have k7 := KS.out w7 hb7
            have HB7 := hid (bel_then HWB.out HWB.out.size hb7)
            clear q7 hb7
            go_wp2_with fail
            refine hK.out _ _ k7 (fun hHeld => ?_)
            clear hK K
            try simp only [Act.put, List.setIfInBounds_toArray, List.set_cons_zero, List.set_cons_succ]
            refine take_val (i := 13) (.bool false) rfl (by kernel_rfl) (by kernel_rfl) (by kernel_rfl) (fun _ _ _ h => h) (by rfl) (fun w hSw => by go_simp) hHeld ?_
            simp only [Act.put, List.setIfInBounds_toArray, List.set_cons_zero, List.set_cons_succ]
            refine take_val (i := 14) (.bool false) rfl (by kernel_rfl) (by kernel_rfl) (by kernel_rfl) (fun _ _ _ h => h) (by rfl) (fun w hSw => by go_simp) hHeld ?_
            simp only [Act.put, List.setIfInBounds_toArray, List.set_cons_zero, List.set_cons_succ]
            refine wpAnyH_done (by kernel_rfl) ?_ _
            go_wp2_with fail
            go_roundg (d.length - (i + 1))
            case measure => omega
            case rel => exact ⟨i + 1, by go_num, by omega, by omega, HB7⟩
        · have hltz : ¬ (i : Int) < (d.length : Int) := by omega
          have hTx : textsOf (setF V xf want) xf = want := by rw [HTS.out xf, if_pos rfl]
          have HTE := hid (HTG.out wr xf HBI.out)
          rw [hTx] at HTE
          have hwl : want.length ≤ 1000 := by
            have h1 := HWA.out
            have h2 := rest_len old xt
            rw [← h1]
            unfold wantE
            repeat' split
            all_goals simp
            all_goals omega
          have HSE : Hid (∀ p c, TxtAt wr p want → Calls Tryz.prog 9 #[.slice p want.length c, .slice p12 want.length c12] wr fun e w' => e = .returned (.bool true) ∧ ∃ n, w' = wr.drewN n) := fun p c hp => by
            have h1 := sameT_any p p12 c c12 want want wr hp (HT12.out.kept HBI.out) (by unfold maxLen; omega)
            rw [decide_eq_true rfl] at h1
            exact h1
          have hlen := HLEN.out
          rw [HOLD.out] at hlen
          obtain ⟨pu, cu, hue, _⟩ := HI5C.out
          have hoR : o5.length = (setF V xf want).length := by rw [← HM5R.out, List.length_map]
          rw [← hoR, ← HDL.out] at hlen
          subst hue
          have hosz : o5.length ≤ 1000 := by split at hlen <;> split at hlen <;> omega
          clear hTx hoR
          by_cases h1 : old.length = 0
          · have h1z : ((old.length : Int) == 0) = true := beq_iff_eq.2 (by omega)
            have h1y : ¬ (0 : Int) < (old.length : Int) := by omega
            have h1e : old = [] := List.length_eq_zero_iff.1 h1
            rw [if_pos h1e] at hlen
            clear h1e
            by_cases h2 : want.length = 0
            · have h2z : ¬ (0 : Int) < (want.length : Int) := by omega
              have h2e : want = [] := List.length_eq_zero_iff.1 h2
              rw [if_pos h2e] at hlen
              have hfin : ((o5.length : Int) == (d.length : Int)) = true := beq_iff_eq.2 (by omega)
              clear h2e hlen h1 h2
              go_wp2_with fail
              refine HTE.out.mono ?_
              rintro e w7 ⟨⟨p8, c8, rfl, ht8⟩, rfl⟩
              have HS8 := hid (HSE.out p8 c8 ht8)
              clear ht8
              go_wp2_with fail
              refine HS8.out.mono ?_
              rintro e w8 ⟨rfl, n8, q8⟩
              have HB8 : Hid (Below W0.heap.size W0 w8) := by rw [q8]; exact bel_drewN HQI.out n8
              clear q8
              go_wp2_with fail
              go_ret
              exact ⟨rfl, bel_then HB0.out HB0.out.size HB8.out⟩
            · have h2z : (0 : Int) < (want.length : Int) := by omega
              have h2e : ¬ want = [] := fun e => h2 (by rw [e]; rfl)
              rw [if_neg h2e] at hlen
              have hfin : ((o5.length : Int) == (d.length : Int) + 1) = true := beq_iff_eq.2 (by omega)
              clear h2e hlen h1 h2
              go_wp2_with fail
              refine HTE.out.mono ?_
              rintro e w7 ⟨⟨p8, c8, rfl, ht8⟩, rfl⟩
              have HS8 := hid (HSE.out p8 c8 ht8)
              clear ht8
              go_wp2_with fail
              refine HS8.out.mono ?_
              rintro e w8 ⟨rfl, n8, q8⟩
              have HB8 : Hid (Below W0.heap.size W0 w8) := by rw [q8]; exact bel_drewN HQI.out n8
              clear q8
              go_wp2_with fail
              go_ret
              exact ⟨rfl, bel_then HB0.out HB0.out.size HB8.out⟩
          · have h1z : ((old.length : Int) == 0) = false := beq_eq_false_iff_ne.2 (by omega)
            have h1y : (0 : Int) < (old.length : Int) := by omega
            have h1e : ¬ old = [] := fun e => h1 (by rw [e]; rfl)
            rw [if_neg h1e] at hlen
            clear h1e
            by_cases h2 : want.length = 0
            · have h2z : ((want.length : Int) == 0) = true := beq_iff_eq.2 (by omega)
              have h2e : want = [] := List.length_eq_zero_iff.1 h2
              rw [if_pos h2e] at hlen
              have hfin : ((o5.length : Int) == (d.length : Int) - 1) = true := beq_iff_eq.2 (by omega)
              clear h2e h1 h2
              go_wp2_with fail
              refine HTE.out.mono ?_
              rintro e w7 ⟨⟨p8, c8, rfl, ht8⟩, rfl⟩
              have HS8 := hid (HSE.out p8 c8 ht8)
              clear ht8
              go_wp2_with fail
              refine HS8.out.mono ?_
              rintro e w8 ⟨rfl, n8, q8⟩
              have HB8 : Hid (Below W0.heap.size W0 w8) := by rw [q8]; exact bel_drewN HQI.out n8
              clear q8
              go_wp2_with fail
              go_ret
              exact ⟨rfl, bel_then HB0.out HB0.out.size HB8.out⟩
            · have h2z : ((want.length : Int) == 0) = false := beq_eq_false_iff_ne.2 (by omega)
              have h2e : ¬ want = [] := fun e => h2 (by rw [e]; rfl)
              rw [if_neg h2e] at hlen
              have hfin : ((o5.length : Int) == (d.length : Int)) = true := beq_iff_eq.2 (by omega)
              clear h2e hlen h1 h2
              go_wp2_with fail
              refine HTE.out.mono ?_
              rintro e w7 ⟨⟨p8, c8, rfl, ht8⟩, rfl⟩
              have HS8 := hid (HSE.out p8 c8 ht8)
              clear ht8
              go_wp2_with fail
              refine HS8.out.mono ?_
              rintro e w8 ⟨rfl, n8, q8⟩
              have HB8 : Hid (Below W0.heap.size W0 w8) := by rw [q8]; exact bel_drewN HQI.out n8
              clear q8
              go_wp2_with fail
              go_ret
              exact ⟨rfl, bel_then HB0.out HB0.out.size HB8.out⟩
  · have hne : (mayE [(xo, xf, xt)] != 0) = true := by rw [bne_iff_ne]; exact hme
    have hcm : c = mayE [(xo, xf, xt)] := by rw [← HC.out]; exact codeA_may hmv hme
    have hcn : (c != 0) = true := by rw [hcm]; exact hne
    obtain ⟨p5, c5, hu5⟩ := ansA_zero (by rw [codeA_may hmv hme]; exact hme) HM5.out HI53.out
    subst hu5
    generalize mayE [(xo, xf, xt)] = me at hne
    clear hmv hme hcm
    go_wp2_with fail
    go_ret
    exact ⟨rfl, bel_then HB0.out HB0.out.size HQ4.out⟩

end Go.Proofs.YtelcongbnmfegabGreatDoor
