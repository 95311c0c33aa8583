/-
  Texts of this claim, one behind the other: Daw Dax.
-/
import Derived.Test.YtmfhbkickaofcaaGreatPf
import Derived.Test.YtmfhbkickaofcaaGreatPe
/-
  The laws of stage 7: DirApart.
-/
namespace Go.Proofs.YtmfhbkickaofcaaGreat
open Go.RowKit

/-- Two directories side by side; the blocks of the one are of PA, those of the other of PB. -/
def Two7 (PA PB : Nat → Prop) (n0 ga gb n : Nat) (A B : List RowD) (W : World) : Prop :=
  ∃ ma Ga mb Gb, DirM n0 W ga ma n Ga A ∧ DirM n0 W gb mb n Gb B ∧ (∀ b, BlkD ga ma Ga A b → ¬ BlkD gb mb Gb B b) ∧ (∀ b, BlkD ga ma Ga A b → PA b) ∧ ∀ b, BlkD gb mb Gb B b → PB b

theorem Two7.swap {PA PB : Nat → Prop} {n0 ga gb n : Nat} {A B : List RowD} {W : World} (h : Two7 PA PB n0 ga gb n A B W) : Two7 PB PA n0 gb ga n B A W := by
  obtain ⟨ma, Ga, mb, Gb, h1, h2, h3, h4, h5⟩ := h
  exact ⟨mb, Gb, ma, Ga, h2, h1, fun b hb ha => h3 b ha hb, h5, h4⟩
theorem Two7.on {PA PB : Nat → Prop} {n0 ga gb n : Nat} {A B : List RowD} {W W' : World} (h : Two7 PA PB n0 ga gb n A B W) (hb : Below W.heap.size W W') : Two7 PA PB n0 ga gb n A B W' := by
  obtain ⟨ma, Ga, mb, Gb, h1, h2, h3, h4, h5⟩ := h
  exact ⟨ma, Ga, mb, Gb, h1.on hb, h2.on hb, h3, h4, h5⟩
theorem Two7.mono {PA PB : Nat → Prop} {n0 ga gb n n' : Nat} {A B : List RowD} {W : World} (h : Two7 PA PB n0 ga gb n A B W) (hn : n ≤ n') : Two7 PA PB n0 ga gb n' A B W := by
  obtain ⟨ma, Ga, mb, Gb, h1, h2, h3, h4, h5⟩ := h
  exact ⟨ma, Ga, mb, Gb, h1.mono hn, h2.mono hn, h3, h4, h5⟩
theorem Two7.all {PA PB : Nat → Prop} {n0 ga gb n : Nat} {A B : List RowD} {W : World} (h : Two7 PA PB n0 ga gb n A B W) : Two7 (fun b => b < W.heap.size) (fun b => b < W.heap.size) n0 ga gb n A B W := by
  obtain ⟨ma, Ga, mb, Gb, h1, h2, h3, h4, h5⟩ := h
  exact ⟨ma, Ga, mb, Gb, h1, h2, h3, fun b hb => (h1.blk b hb).2, fun b hb => (h2.blk b hb).2⟩
theorem Two7.a {PA PB : Nat → Prop} {n0 ga gb n : Nat} {A B : List RowD} {W : World} (h : Two7 PA PB n0 ga gb n A B W) : DirS n0 ga n A W := by
  obtain ⟨ma, Ga, mb, Gb, h1, _⟩ := h
  exact ⟨ma, Ga, h1⟩
theorem Two7.b {PA PB : Nat → Prop} {n0 ga gb n : Nat} {A B : List RowD} {W : World} (h : Two7 PA PB n0 ga gb n A B W) : DirS n0 gb n B W := h.swap.a

theorem two_turn {PB : Nat → Prop} {PA : Nat → Prop} {n0 ga gb n n' : Nat} {A A' B : List RowD} {W w' : World} {ma mb : Nat} {Ga Gb : Ky → Cm} (h1 : DirM n0 W ga ma n Ga A) (h2 : DirM n0 W gb mb n Gb B) (h3 : ∀ b, BlkD ga ma Ga A b → ¬ BlkD gb mb Gb B b) (h4 : ∀ b, BlkD ga ma Ga A b → PA b) (h5 : ∀ b, BlkD gb mb Gb B b → PB b)
    (ht : TurnD n0 W ga ma Ga A n' A' w') (hn : n ≤ n') : Two7 (fun b => PA b ∨ W.heap.size ≤ b) PB n0 ga gb n' A' B w' ∧ Fr PA W w' ∧ Below n0 W w' := by
  have hb := (turn_dirS h1 ht).2
  obtain ⟨G', a1, a2, a3⟩ := ht
  refine ⟨⟨ma, G', mb, Gb, a1, (h2.fr a3 fun b hb ha => h3 b ha hb).mono hn, fun b hb hB => ?_, fun b hb => (a2 b hb).imp (h4 b) id, h5⟩, a3.mono h4, hb⟩
  rcases a2 b hb with h | h
  · exact h3 b h hB
  · have := (h2.blk b hB).2
    omega

theorem two_put {PA PB : Nat → Prop} {n0 ga gb n : Nat} {A B : List RowD} {W : World} (h : Two7 PA PB n0 ga gb n A B W) (hn : n < 2400000000000) (k : Ky) (hk : FitK k) (stamp tick : Int) (live : Bool) (v : Value) (e : List Fx) (val : List Fld) (hv : IsXs W v e) (hf : FitX e) (hval : e.map Fx.fld = val) (h0 : 0 ≤ stamp) :
    Calls Tryz.prog 29 #[.pointer (some ⟨ga, 0, none⟩), .agg #[.string k.1, .string k.2], .int .u64 stamp, .int .i64 tick, .bool live, v] W fun r w' =>
      r = .returned (.tuple #[.int .i64 (numD A k stamp live val), .int .i64 (codeD A k stamp live val)]) ∧ Two7 (fun b => PA b ∨ W.heap.size ≤ b) PB n0 ga gb (n + 1) (putD A k stamp tick live val) B w' ∧ Fr PA W w' ∧ Below n0 W w' := by
  have hb := h.a.base
  obtain ⟨ma, Ga, mb, Gb, h1, h2, h3, h4, h5⟩ := h
  refine (dput_any h1 hn hb k hk stamp tick live v e val hv hf hval h0).mono ?_
  rintro r w' ⟨g1, g2⟩
  exact ⟨g1, two_turn h1 h2 h3 h4 h5 g2 (Nat.le_succ n)⟩

theorem two_prune {PA PB : Nat → Prop} {n0 ga gb n : Nat} {A B : List RowD} {W : World} (h : Two7 PA PB n0 ga gb n A B W) (hn : n ≤ 2400000000000) (f : Int) :
    Calls Tryz.prog 18 #[.pointer (some ⟨ga, 0, none⟩), .int .u64 f] W fun r w' => r = .returned (.int .i64 (goneD A f : Nat)) ∧ Two7 (fun b => PA b ∨ W.heap.size ≤ b) PB n0 ga gb n (pruneD A f) B w' ∧ Fr PA W w' ∧ Below n0 W w' := by
  obtain ⟨ma, Ga, mb, Gb, h1, h2, h3, h4, h5⟩ := h
  refine (dprune_any h1 hn f).mono ?_
  rintro r w' ⟨g1, g2⟩
  exact ⟨g1, two_turn h1 h2 h3 h4 h5 g2 (Nat.le_refl n)⟩

theorem putD_of {D : List RowD} {k k' : Ky} {stamp tick : Int} {live : Bool} {val : List Fld} (h : k ≠ k') : ofD (putD D k' stamp tick live val) k = ofD D k := by
  unfold putD
  split
  · rw [setD_of, if_neg h]
  · rfl
theorem putD_same {D E : List RowD} {k : Ky} {stamp tick : Int} {live : Bool} {val : List Fld} (h : ofD D k = ofD E k) : ofD (putD D k stamp tick live val) k = ofD (putD E k stamp tick live val) k ∧ codeD D k stamp live val = codeD E k stamp live val ∧ numD D k stamp live val = numD E k stamp live val := by
  have hc : codeD D k stamp live val = codeD E k stamp live val := by unfold codeD; rw [h]
  refine ⟨?_, hc, by unfold numD; rw [hc, h]⟩
  unfold putD
  rw [hc]
  split
  · rw [setD_of, setD_of, if_pos rfl, if_pos rfl, h]
  · exact h

/-- Between two rounds. -/
structure ApIn (w : World) (N ga gb : Nat) (k : Ky) (i : Nat) (A B : List RowD) (wr : World) : Prop where
  two : Two7 (fun b => b < wr.heap.size) (fun b => b < wr.heap.size) (N + 1) ga gb (2 * i) A B wr
  same : ofD A k = ofD B k
  bel : Below N w wr
  box : wr.heap[N]? = some (.cells #[.string k.1, .string k.2] 31 (0, 0))

end Go.Proofs.YtmfhbkickaofcaaGreat

/-
  The laws of stage 7: DirApart, walked.
-/
namespace Go.Proofs.YtmfhbkickaofcaaGreat
open Go.RowKit

theorem DirM.weak {n0 n1 : Nat} {W : World} {g m n : Nat} {G : Ky → Cm} {D : List RowD} (h : DirM n0 W g m n G D) (hn : n1 ≤ n0) : DirM n1 W g m n G D :=
  ⟨h.cell, Nat.le_trans hn h.bg, Nat.le_trans hn h.bm, h.map, fun k hk => ⟨(h.prg k hk).1.weak hn, (h.prg k hk).2⟩, h.apart, h.off, h.ok, h.key, h.num, h.few⟩

/-- Two new directories, one behind the other. -/
theorem two_new {n0 : Nat} {w2 w3 w4 : World} {ga gb : Nat} (ha : DirS w2.heap.size ga 0 [] w3) (hb : DirS w3.heap.size gb 0 [] w4) (h4 : Below w3.heap.size w3 w4) (hn : n0 ≤ w2.heap.size) (h3 : w2.heap.size ≤ w3.heap.size) : Two7 (fun b => b < w4.heap.size) (fun b => b < w4.heap.size) n0 ga gb 0 [] [] w4 := by
  obtain ⟨ma, Ga, ha⟩ := ha
  obtain ⟨mb, Gb, hb⟩ := hb
  have ha' := ha.on h4
  refine ⟨ma, Ga, mb, Gb, ha'.weak hn, hb.weak (by omega), fun b h1 h2 => ?_, fun b h => (ha'.blk b h).2, fun b h => (hb.blk b h).2⟩
  have := (ha.blk b h1).2
  have := (hb.blk b h2).1
  omega

theorem val_at {w : World} {x : Vx} {N : Nat} (h : OwnJ N w x.sl x.o) : x.at w := h.1.is

set_option maxHeartbeats 8000000 in
set_option maxRecDepth 100000 in
theorem apart_any (v : Value) (ops : List Oy) (k : Ky) (w : World) (hv : KY.Is w v ops) (hx : ∀ x ∈ ops, OpY w x) (hl : ops.length ≤ 1200000000000) (hk : FitK k) :
    Calls Tryz.prog 6 #[v, .agg #[.string k.1, .string k.2]] w fun e w' => e = .returned (.bool true) ∧ Below w.heap.size w w' := by
  obtain ⟨p, cap, rfl, hd⟩ := hv
  have HD := hid hd
  have HX := hid hx
  obtain ⟨N, hN⟩ : ∃ N, w.heap.size = N := ⟨_, rfl⟩
  obtain ⟨W1, hW1⟩ : ∃ W1, w.alloc (.cells #[.string k.1, .string k.2] 31) = W1 := ⟨_, rfl⟩
  have hb1 : Below N w W1 := by rw [← hW1, ← hN]; exact (Below.refl _ _).alloc (Nat.le_refl _) _
  have hs1 : W1.heap.size = N + 1 := by rw [← hW1, ← hN]; simp
  have hk1 : W1.heap[N]? = some (.cells #[.string k.1, .string k.2] 31 (0, 0)) := by rw [← hW1, ← hN]; exact heap_alloc_new w _
  have HFX := hid (fixedD_any W1)
  have HK1 := hid hk1
  have HB1 := hid hb1
  have HK := hid hk
  clear hd hx hb1 hk1 hk
  rw [hN]
  obtain ⟨ka, kb⟩ := k
  simp only at *
  go_enter Tryz.func6, Tryz.ntmps6
  go_wp2_with fail
  refine HFX.out.mono ?_
  rintro e w2 ⟨rfl, hb2⟩
  have HN2 := hid (s_new w2)
  have HB2 := hid hb2
  have hs2 := hb2.size
  clear hb2 HFX
  go_wp2_with fail
  refine HN2.out.mono ?_
  rintro e w3 ⟨rfl, hA3, hb3⟩
  have HN3 := hid (s_new w3)
  have HA3 := hid hA3
  have HB3 := hid hb3
  have hs3 := hb3.size
  clear hA3 hb3 HN2
  go_wp2_with fail
  refine HN3.out.mono ?_
  rintro e w4 ⟨rfl, hB4, hb4⟩
  obtain ⟨ga, hga⟩ : ∃ ga, w2.heap.size + 1 = ga := ⟨_, rfl⟩
  obtain ⟨gb, hgb⟩ : ∃ gb, w3.heap.size + 1 = gb := ⟨_, rfl⟩
  rw [hga] at HA3
  rw [hgb] at hB4
  have ST0 : Hid (ApIn w N ga gb (ka, kb) 0 [] [] w4) := by
    refine ⟨two_new HA3.out hB4 hb4 (by omega) hs3, rfl, ?_, ?_⟩
    · have h12 : Below N w w2 := HB1.out.trans (HB2.out.mono (by omega))
      exact (h12.trans (HB3.out.mono (by omega))).trans (hb4.mono (by omega))
    · rw [hb4.block N (by omega), HB3.out.block N (by omega), HB2.out.block N (by omega)]
      exact HK1.out
  clear hB4 hb4 HN3 HA3 HB3 HB2 HB1 HK1
  rw [hga, hgb]
  clear hga hgb
  go_wp2_with fail
  go_loopg [23] ops.length (fun gg vi wr => ∃ (i : Nat) (A B : List RowD), vi = .int .i64 i ∧ i ≤ ops.length ∧ ops.length - i ≤ gg ∧ Hid (ApIn w N ga gb (ka, kb) i A B wr))
  case atStart => exact ⟨0, [], [], rfl, by omega, by omega, ST0.out⟩
  case round =>
    clear ST0
    obtain ⟨i, A, B, rfl, hi, hgk, HI⟩ := hrel
    by_cases hlt : i < ops.length
    · have hltz : (i : Int) < (ops.length : Int) := by omega
      have hiz : (0 : Int) ≤ i := by omega
      obtain ⟨b1, o1, rfl, k1⟩ : ∃ b off, p = some ⟨b, off, none⟩ ∧ KY.At w b off ops := by
        rcases HD.out with h | h
        · rw [h] at hlt; simp at hlt
        · exact h
      have hbw : Below w.heap.size w wr := by rw [hN]; exact HI.out.bel
      obtain ⟨y0, y1, y2, y3, y4, y5, y6, y7, y8⟩ := ky_at (Kind.at_kept k1 hbw) i hlt
      have hx0 := HX.out _ (List.getElem_mem hlt)
      have hxi := hx0.on hbw
      generalize ops[i] = x at *
      have HX0 := hid hx0
      clear hx0
      have hba : Below wr.heap.size wr (wr.alloc (.cells (encY x).toArray 36)) := (Below.refl _ _).alloc (Nat.le_refl _) _
      obtain ⟨W5, hW5⟩ : ∃ W5, wr.alloc (.cells (encY x).toArray 36) = W5 := ⟨_, rfl⟩
      have hop : W5.heap[wr.heap.size]? = some (.cells (encY x).toArray 36 (0, 0)) := by rw [← hW5]; exact heap_alloc_new wr _
      rw [hW5] at hba
      have hs5 : W5.heap.size = wr.heap.size + 1 := by rw [← hW5]; simp
      have hsN : N + 1 ≤ wr.heap.size := HI.out.two.a.base
      have HT5 := hid (HI.out.two.on hba)
      have HBW := hid (bel_then HI.out.bel (by omega) hba)
      have HSAME := hid HI.out.same
      have hbox5 : W5.heap[N]? = some (.cells #[.string ka, .string kb] 31 (0, 0)) := (hba.block N (by omega)).trans HI.out.box
      have HBOX5 := hid hbox5
      obtain ⟨O, hO⟩ : ∃ O, wr.heap.size = O := ⟨_, rfl⟩
      have HXI := hid (hxi.on hba)
      obtain ⟨xk, xa, xb, xs, xt, xl, xp, xc, xo, xq, xqc, xm, xn⟩ := x
      simp only [encY] at *
      rw [hO] at hop hs5 hsN HT5
      have KOP : Hid (∀ w' : World, w'.heap[O]? = W5.heap[O]? → w'.cell? ⟨O, 0, none⟩ = some (.int .i64 xk) ∧ w'.cell? ⟨O, 1, none⟩ = some (.string xa) ∧ w'.cell? ⟨O, 2, none⟩ = some (.string xb) ∧ w'.cell? ⟨O, 3, none⟩ = some (.int .u64 xs) ∧ w'.cell? ⟨O, 4, none⟩ = some (.int .i64 xt) ∧ w'.cell? ⟨O, 5, none⟩ = some (.bool xl) ∧ w'.cell? ⟨O, 6, none⟩ = some (.slice xp xo.length xc)) := fun w' he => by
        have := he.trans hop
        exact ⟨by rw [Lib.cell_of_heap this]; rfl, by rw [Lib.cell_of_heap this]; rfl, by rw [Lib.cell_of_heap this]; rfl, by rw [Lib.cell_of_heap this]; rfl, by rw [Lib.cell_of_heap this]; rfl, by rw [Lib.cell_of_heap this]; rfl, by rw [Lib.cell_of_heap this]; rfl⟩
      have KBX : Hid (∀ w' : World, w'.heap[N]? = W5.heap[N]? → w'.cell? ⟨N, 0, none⟩ = some (.string ka) ∧ w'.cell? ⟨N, 1, none⟩ = some (.string kb)) := fun w' he => by
        have := he.trans HBOX5.out
        exact ⟨by rw [Lib.cell_of_heap this]; rfl, by rw [Lib.cell_of_heap this]; rfl⟩
      obtain ⟨c0, c1, c2, c3, c4, c5, c6⟩ := KOP.out W5 rfl
      clear HI k1 hbw hba hop hbox5 hxi
      by_cases h12 : xk = 12
      · subst h12
        have HPA := hid (two_prune HT5.out (by omega) xs)
        go_wp2_with fail
        refine HPA.out.mono ?_
        rintro e w6 ⟨rfl, hT6, hf6, hb6⟩
        have hs6 := hf6.size
        have ho6 : w6.heap[O]? = W5.heap[O]? := hf6.block O (by omega) (by omega)
        have hn6 : w6.heap[N]? = W5.heap[N]? := hb6.block N (by omega)
        obtain ⟨c0, c1, c2, c3, c4, c5, c6⟩ := KOP.out w6 ho6
        have HPB := hid (two_prune hT6.swap (by omega) xs)
        have HN6 := hid hn6
        have HB6 := hid (HBW.out.trans (hb6.mono (by omega)))
        clear hT6 hf6 hb6 HPA ho6 hn6
        go_wp2_with fail
        refine HPB.out.mono ?_
        rintro e w7 ⟨rfl, hT7, hf7, hb7⟩
        have HNX : Hid (ApIn w N ga gb (ka, kb) (i + 1) (pruneD A xs) (pruneD B xs) w7) := by
          refine ⟨(hT7.swap.all).mono (by omega), by rw [pruneD_of, pruneD_of, HSAME.out], HB6.out.trans (hb7.mono (by omega)), ?_⟩
          rw [hb7.block N (by omega), HN6.out]
          exact HBOX5.out
        clear hT7 hf7 hb7 HPB
        go_wp2_with fail
        go_roundg (ops.length - (i + 1))
        case measure => omega
        exact ⟨i + 1, _, _, by go_num, by omega, by omega, HNX.out⟩
      · have h12b : (xk == 12) = false := by simpa using h12
        have HPA := hid (two_put HT5.out (by omega) (xa, xb) HXI.out.kfit xs xt xl _ xo (xo.map Fx.fld) HXI.out.is HXI.out.fit rfl HXI.out.lo)
        obtain ⟨cd, hcd⟩ : ∃ cd, codeD A (xa, xb) xs xl (xo.map Fx.fld) = cd := ⟨_, rfl⟩
        obtain ⟨nd, hnd⟩ : ∃ nd, numD A (xa, xb) xs xl (xo.map Fx.fld) = nd := ⟨_, rfl⟩
        rw [hcd, hnd] at HPA
        have hq := fun w => Z.eql_key xa xb ka kb w
        by_cases hkk : (xa, xb) = (ka, kb)
        · have hkk1 : xa = ka := congrArg Prod.fst hkk
          have hkk2 : xb = kb := congrArg Prod.snd hkk
          subst hkk1
          subst hkk2
          have heq : Z.eqK xa xb xa xb = true := Z.eqK_self xa xb
          simp only [heq] at hq
          have HPS := hid (putD_same (stamp := xs) (tick := xt) (live := xl) (val := xo.map Fx.fld) HSAME.out)
          have HCD := hid hcd
          have HND := hid hnd
          clear hcd hnd heq hkk
          go_wp2_with fail
          refine HPA.out.mono ?_
          rintro e w6 ⟨rfl, hT6, hf6, hb6⟩
          have hs6 := hf6.size
          have ho6 : w6.heap[O]? = W5.heap[O]? := hf6.block O (by omega) (by omega)
          have hn6 : w6.heap[N]? = W5.heap[N]? := hb6.block N (by omega)
          obtain ⟨c0, c1, c2, c3, c4, c5, c6⟩ := KOP.out w6 ho6
          obtain ⟨d0, d1⟩ := KBX.out w6 hn6
          have hsw : N ≤ W5.heap.size := by omega
          have hb06 : Below w.heap.size w w6 := by rw [hN]; exact HBW.out.trans (hb6.mono (by omega))
          have HPB := hid (two_put hT6.swap (by omega) (xa, xb) HXI.out.kfit xs xt xl _ xo (xo.map Fx.fld) (HX0.out.on hb06).is HXI.out.fit rfl HXI.out.lo)
          rw [← HPS.out.2.1, HCD.out, ← HPS.out.2.2, HND.out] at HPB
          have HN6 := hid hn6
          have HB6 := hid (HBW.out.trans (hb6.mono (show N ≤ N + 1 by omega)))
          clear hT6 hf6 hb6 HPA ho6 hn6 hb06
          go_wp2_with fail
          refine HPB.out.mono ?_
          rintro e w7 ⟨rfl, hT7, hf7, hb7⟩
          have HNX : Hid (ApIn w N ga gb (xa, xb) (i + 1) (putD A (xa, xb) xs xt xl (xo.map Fx.fld)) (putD B (xa, xb) xs xt xl (xo.map Fx.fld)) w7) := by
            refine ⟨(hT7.swap.all).mono (by omega), HPS.out.1, HB6.out.trans (hb7.mono (by omega)), ?_⟩
            rw [hb7.block N (by omega), HN6.out]
            exact HBOX5.out
          clear hT7 hf7 hb7 HPB hq
          go_wp2_with fail
          go_roundg (ops.length - (i + 1))
          case measure => omega
          exact ⟨i + 1, _, _, by go_num, by omega, by omega, HNX.out⟩
        · have heq : Z.eqK xa xb ka kb = false := by
            have := Z.eqK_iff (xa, xb) (ka, kb)
            rw [decide_eq_false hkk] at this
            exact this
          simp only [heq] at hq
          have HKK := hid hkk
          clear hcd hnd heq hkk
          go_wp2_with fail
          refine HPA.out.mono ?_
          rintro e w6 ⟨rfl, hT6, hf6, hb6⟩
          have hs6 := hf6.size
          have ho6 : w6.heap[O]? = W5.heap[O]? := hf6.block O (by omega) (by omega)
          have hn6 : w6.heap[N]? = W5.heap[N]? := hb6.block N (by omega)
          obtain ⟨c0, c1, c2, c3, c4, c5, c6⟩ := KOP.out w6 ho6
          obtain ⟨d0, d1⟩ := KBX.out w6 hn6
          have HNX : Hid (ApIn w N ga gb (ka, kb) (i + 1) (putD A (xa, xb) xs xt xl (xo.map Fx.fld)) B w6) := by
            refine ⟨(hT6.all).mono (by omega), ?_, HBW.out.trans (hb6.mono (by omega)), ?_⟩
            · rw [putD_of (fun e => HKK.out e.symm)]
              exact HSAME.out
            · rw [hn6]
              exact HBOX5.out
          clear hT6 hf6 hb6 HPA ho6 hn6
          go_wp2_with fail
          go_roundg (ops.length - (i + 1))
          case measure => omega
          exact ⟨i + 1, _, _, by go_num, by omega, by omega, HNX.out⟩
    · have hltz : ¬ (i : Int) < (ops.length : Int) := by omega
      have hsN : N + 1 ≤ wr.heap.size := HI.out.two.a.base
      have HSA := hid HI.out.two.a
      have HSB := hid HI.out.two.b
      have HBN := hid HI.out.bel
      have HSAME := hid HI.out.same
      have KBX : Hid (∀ w' : World, Below wr.heap.size wr w' → w'.cell? ⟨N, 0, none⟩ = some (.string ka) ∧ w'.cell? ⟨N, 1, none⟩ = some (.string kb)) := fun w' hb => by
        have := (hb.block N (by omega)).trans HI.out.box
        exact ⟨by rw [Lib.cell_of_heap this]; rfl, by rw [Lib.cell_of_heap this]; rfl⟩
      obtain ⟨d0, d1⟩ := KBX.out wr (Below.refl _ _)
      have HLA := hid (s_last HSA.out (ka, kb) HK.out)
      have HMAY := hid (HSA.out.may (ka, kb))
      have HMAYB := hid (HSB.out.may (ka, kb))
      obtain ⟨L, hL⟩ : ∃ L, ofD A (ka, kb) = L := ⟨_, rfl⟩
      have hLB : ofD B (ka, kb) = L := by rw [← HSAME.out]; exact hL
      have hLl : L.length ≤ 2400000000000 := by
        have h1 := HSA.out.few
        have h2 := HSA.out.ok
        rcases ofD_or A (ka, kb) with ⟨_, e⟩ | hm
        · rw [← hL, e]; exact Nat.zero_le _
        · have := seen_some h2 List.length (seen := [(ka, kb)]) (by simp) (fun k hk => by
            rw [List.mem_singleton] at hk
            subst hk
            exact (h2.ok _ hm).2)
          simp only [List.map_cons, List.map_nil, List.sum_cons, List.sum_nil] at this
          unfold countD at h1
          rw [hL] at this
          omega
      rw [hL] at HLA HMAY
      rw [hLB] at HMAYB
      clear HI
      go_wp2_with fail
      refine HLA.out.mono ?_
      rintro e w6 ⟨x, rfl, hx, hJx, hb6⟩
      obtain ⟨V6, hV6⟩ : ∃ V, w6.alloc (.cells (encVx x).toArray 56) = V := ⟨_, rfl⟩
      have hbv6 : Below w6.heap.size w6 V6 := by rw [← hV6]; exact (Below.refl _ _).alloc (Nat.le_refl _) _
      have HB6 : Hid (Below wr.heap.size wr V6) := bel_then hb6 hb6.size hbv6
      obtain ⟨A6, hA6⟩ : ∃ A6, w6.heap.size = A6 := ⟨_, rfl⟩
      have HV6 : Hid (VerAt V6 A6 x) := by show _ = _; rw [← hV6, ← hA6]; exact heap_alloc_new w6 _
      have HX6 := hid hx
      have HJ6 := hid (hJx.on hbv6)
      have HFX6 := hid (vans_fit hx fun v hv => HMAY.out v (List.mem_of_getLast? hv))
      obtain ⟨d0, d1⟩ := KBX.out V6 HB6.out
      have HLB := hid (s_last (HSB.out.on HB6.out) (ka, kb) HK.out)
      rw [hLB] at HLB
      obtain ⟨o6, ho6⟩ : ∃ o6, L.getLast?.isSome = o6 := ⟨_, rfl⟩
      rw [ho6]
      obtain ⟨xn, xs, xt, xl, xp, xc, xo⟩ := x
      simp only [encVx, Vx.sl] at hV6 ⊢
      clear hx hJx hb6 hbv6 HLA
      go_wp2_with fail
      refine HLB.out.mono ?_
      rintro e w7 ⟨y, rfl, hy, hJy, hb7⟩
      rw [ho6]
      obtain ⟨V7, hV7⟩ : ∃ V, w7.alloc (.cells (encVx y).toArray 56) = V := ⟨_, rfl⟩
      have hbv7 : Below w7.heap.size w7 V7 := by rw [← hV7]; exact (Below.refl _ _).alloc (Nat.le_refl _) _
      have hb67 : Below V6.heap.size V6 V7 := bel_then hb7 hb7.size hbv7
      have HB7 : Hid (Below wr.heap.size wr V7) := bel_then HB6.out HB6.out.size hb67
      obtain ⟨A7, hA7⟩ : ∃ A7, w7.heap.size = A7 := ⟨_, rfl⟩
      have HV7 : Hid (VerAt V7 A7 y) := by show _ = _; rw [← hV7, ← hA7]; exact heap_alloc_new w7 _
      have HV67 := hid (HV6.out.on hb67)
      have hver : (⟨xn, xs, xt, xl, xp, xc, xo⟩ : Vx).ver = y.ver := HX6.out.trans hy.symm
      have HSV : Hid (∀ W, Below V7.heap.size V7 W → Calls Tryz.prog 27 #[.agg #[.int .i64 xn, .int .u64 xs, .int .i64 xt, .bool xl, .slice xp xo.length xc], .agg (encVx y).toArray] W fun e w' => e = .returned (.bool true) ∧ Below W.heap.size W w') := fun W hW => by
        have := sameV_any ⟨xn, xs, xt, xl, xp, xc, xo⟩ y W (val_at ((HJ6.out.on hb67).on hW)) (val_at ((hJy.on hbv7).on hW)) HFX6.out (vans_fit hy fun v hv => HMAYB.out v (List.mem_of_getLast? hv))
        rw [decide_eq_true hver] at this
        exact this
      obtain ⟨yn, ys, yt, yl, yp, yc, yo⟩ := y
      simp only [encVx, Vx.sl] at hV7 HSV ⊢
      have HSI : Hid (∀ W, Below V7.heap.size V7 W → Calls Tryz.prog 24 #[.pointer (some ⟨ga, 0, none⟩), .agg #[.string ka, .string kb], .int .u64 0] W fun e w' => AllPost W (sinceV L 0) e w') := fun W hW => by
        have := s_since ((HSA.out.on HB7.out).on hW) (ka, kb) HK.out 0
        rwa [hL] at this
      have HSJ : Hid (∀ W, Below V7.heap.size V7 W → Calls Tryz.prog 24 #[.pointer (some ⟨gb, 0, none⟩), .agg #[.string ka, .string kb], .int .u64 0] W fun e w' => AllPost W (sinceV L 0) e w') := fun W hW => by
        have := s_since ((HSB.out.on HB7.out).on hW) (ka, kb) HK.out 0
        rwa [hLB] at this
      have hv7d : Below V7.heap.size V7 V7.drew := (Below.refl _ _).drew
      have KS : Hid (∀ w', Below V7.heap.size V7 w' → (w'.cell? ⟨A6, 0, none⟩ = some (.int .i64 xn) ∧ w'.cell? ⟨A6, 1, none⟩ = some (.int .u64 xs) ∧ w'.cell? ⟨A6, 2, none⟩ = some (.int .i64 xt) ∧ w'.cell? ⟨A6, 3, none⟩ = some (.bool xl) ∧ w'.cell? ⟨A6, 4, none⟩ = some (.slice xp xo.length xc)) ∧ (w'.cell? ⟨A7, 0, none⟩ = some (.int .i64 yn) ∧ w'.cell? ⟨A7, 1, none⟩ = some (.int .u64 ys) ∧ w'.cell? ⟨A7, 2, none⟩ = some (.int .i64 yt) ∧ w'.cell? ⟨A7, 3, none⟩ = some (.bool yl) ∧ w'.cell? ⟨A7, 4, none⟩ = some (.slice yp yo.length yc)) ∧ w'.cell? ⟨N, 0, none⟩ = some (.string ka) ∧ w'.cell? ⟨N, 1, none⟩ = some (.string kb)) := fun w' hb => by
        have h1 := (HV67.out.on hb).cells
        have h2 := (HV7.out.on hb).cells
        exact ⟨h1, h2, KBX.out w' (bel_then HB7.out HB7.out.size hb)⟩
      have q0 := KS.out V7.drew hv7d
      clear hy hJy hb7 hbv7 hb67 hver HLB HV6 HV7 HV67 HX6 HJ6 HFX6
      go_wp2_with fail
      refine wp_region_held_drew (S := fun w' => (w'.cell? ⟨A6, 0, none⟩ = some (.int .i64 xn) ∧ w'.cell? ⟨A6, 1, none⟩ = some (.int .u64 xs) ∧ w'.cell? ⟨A6, 2, none⟩ = some (.int .i64 xt) ∧ w'.cell? ⟨A6, 3, none⟩ = some (.bool xl) ∧ w'.cell? ⟨A6, 4, none⟩ = some (.slice xp xo.length xc)) ∧ (w'.cell? ⟨A7, 0, none⟩ = some (.int .i64 yn) ∧ w'.cell? ⟨A7, 1, none⟩ = some (.int .u64 ys) ∧ w'.cell? ⟨A7, 2, none⟩ = some (.int .i64 yt) ∧ w'.cell? ⟨A7, 3, none⟩ = some (.bool yl) ∧ w'.cell? ⟨A7, 4, none⟩ = some (.slice yp yo.length yc)) ∧ w'.cell? ⟨N, 0, none⟩ = some (.string ka) ∧ w'.cell? ⟨N, 1, none⟩ = some (.string kb)) (by kernel_rfl) q0 (fun hHeld => ?_)
      refine take_val (i := 0) (.bool o6) rfl (by kernel_rfl) (by kernel_rfl) (by kernel_rfl) (fun _ _ _ h => h) (by rfl) (fun w hSw => by go_simp) hHeld ?_
      simp only [Act.put, List.setIfInBounds_toArray, List.set_cons_zero, List.set_cons_succ]
      refine take_val (i := 1) (.bool o6) rfl (by kernel_rfl) (by kernel_rfl) (by kernel_rfl) (fun _ _ _ h => h) (by rfl) (fun w hSw => by go_simp) hHeld ?_
      simp only [Act.put, List.setIfInBounds_toArray, List.set_cons_zero, List.set_cons_succ]
      refine take_val (i := 2) (.bool true) rfl (by kernel_rfl) (by kernel_rfl) (by kernel_rfl) (fun _ _ _ h => h) (by rfl) (fun w hSw => by go_simp) hHeld ?_
      simp only [Act.put, List.setIfInBounds_toArray, List.set_cons_zero, List.set_cons_succ]
      refine take_val (i := 3) (.bool true) rfl (by kernel_rfl) (by kernel_rfl) (by kernel_rfl) (fun _ _ _ h => h) (by rfl) (fun w hSw => by go_simp) hHeld ?_
      simp only [Act.put, List.setIfInBounds_toArray, List.set_cons_zero, List.set_cons_succ]
      refine take_val (i := 4) (.agg #[.int .i64 xn, .int .u64 xs, .int .i64 xt, .bool xl, .slice xp xo.length xc]) rfl (by kernel_rfl) (by kernel_rfl) (by kernel_rfl) (fun _ _ _ h => h) (by rfl) (fun w hSw => by go_simp) hHeld ?_
      simp only [Act.put, List.setIfInBounds_toArray, List.set_cons_zero, List.set_cons_succ]
      refine take_val (i := 5) (.agg #[.int .i64 yn, .int .u64 ys, .int .i64 yt, .bool yl, .slice yp yo.length yc]) rfl (by kernel_rfl) (by kernel_rfl) (by kernel_rfl) (fun _ _ _ h => h) (by rfl) (fun w hSw => by go_simp) hHeld ?_
      simp only [Act.put, List.setIfInBounds_toArray, List.set_cons_zero, List.set_cons_succ]
      refine wpAnyH_ready (rs := [6]) (by kernel_rfl) (by simp) ?_
      refine AllReadyH.cons (at_drop0 rfl) (fun K hK => ?_) AllReadyH.nil
      rw [if_pos (by rfl)]
      go_simp
      refine (HSV.out _ hv7d).mono ?_
      rintro e w8 ⟨rfl, hb8⟩
      have hb8' := bel_then hv7d (Nat.le_refl _) hb8
      have q8 := KS.out w8 hb8'
      have HSI8 := hid (HSI.out w8 hb8')
      have HB8 := hid hb8'
      clear hb8 hb8'
      go_wp2_with fail
      refine hK.out _ _ q8 (fun hHeld => ?_)
      clear hK K
      try simp only [Act.put, List.setIfInBounds_toArray, List.set_cons_zero, List.set_cons_succ]
      refine take_val (i := 7) (.bool true) rfl (by kernel_rfl) (by kernel_rfl) (by kernel_rfl) (fun _ _ _ h => h) (by rfl) (fun w hSw => by go_simp) hHeld ?_
      simp only [Act.put, List.setIfInBounds_toArray, List.set_cons_zero, List.set_cons_succ]
      refine take_val (i := 8) (.bool true) rfl (by kernel_rfl) (by kernel_rfl) (by kernel_rfl) (fun _ _ _ h => h) (by rfl) (fun w hSw => by go_simp) hHeld ?_
      simp only [Act.put, List.setIfInBounds_toArray, List.set_cons_zero, List.set_cons_succ]
      refine take_val (i := 9) (.pointer (some ⟨ga, 0, none⟩)) rfl (by kernel_rfl) (by kernel_rfl) (by kernel_rfl) (fun _ _ _ h => h) (by rfl) (fun w hSw => by go_simp) hHeld ?_
      simp only [Act.put, List.setIfInBounds_toArray, List.set_cons_zero, List.set_cons_succ]
      refine take_val (i := 10) (.agg #[.string ka, .string kb]) rfl (by kernel_rfl) (by kernel_rfl) (by kernel_rfl) (fun _ _ _ h => h) (by rfl) (fun w hSw => by go_simp) hHeld ?_
      simp only [Act.put, List.setIfInBounds_toArray, List.set_cons_zero, List.set_cons_succ]
      refine take_val (i := 12) (.pointer (some ⟨gb, 0, none⟩)) rfl (by kernel_rfl) (by kernel_rfl) (by kernel_rfl) (fun _ _ _ h => h) (by rfl) (fun w hSw => by go_simp) hHeld ?_
      simp only [Act.put, List.setIfInBounds_toArray, List.set_cons_zero, List.set_cons_succ]
      refine take_val (i := 13) (.agg #[.string ka, .string kb]) rfl (by kernel_rfl) (by kernel_rfl) (by kernel_rfl) (fun _ _ _ h => h) (by rfl) (fun w hSw => by go_simp) hHeld ?_
      simp only [Act.put, List.setIfInBounds_toArray, List.set_cons_zero, List.set_cons_succ]
      refine wpAnyH_ready (rs := [11]) (by kernel_rfl) (by simp) ?_
      refine AllReadyH.cons (at_drop0 rfl) (fun K hK => ?_) AllReadyH.nil
      rw [if_pos (by rfl)]
      go_simp
      refine HSI8.out.mono ?_
      intro e w9 hp9
      obtain ⟨u9, o9, rfl, ht9, hb9⟩ := all_told hp9
      have hb9' := bel_then HB8.out HB8.out.size hb9
      have q9 := KS.out w9 hb9'
      have HSJ9 := hid (HSJ.out w9 hb9')
      have HB9 := hid hb9'
      have HT9 := hid ht9
      obtain ⟨p9, c9, rfl⟩ := Kind.own_shape ht9.own
      clear hp9 ht9 hb9 hb9' HSI8
      go_wp2_with fail
      refine hK.out _ _ q9 (fun hHeld => ?_)
      clear hK K
      try simp only [Act.put, List.setIfInBounds_toArray, List.set_cons_zero, List.set_cons_succ]
      refine wpAnyH_ready (rs := [14]) (by kernel_rfl) (by simp) ?_
      refine AllReadyH.cons (at_drop0 rfl) (fun K hK => ?_) AllReadyH.nil
      rw [if_pos (by rfl)]
      go_simp
      refine HSJ9.out.mono ?_
      intro e w10 hp10
      obtain ⟨u10, o10, rfl, ht10, hb10⟩ := all_told hp10
      have hb10' := bel_then HB9.out HB9.out.size hb10
      have q10 := KS.out w10 hb10'
      have HB10 := hid hb10'
      have ht9' := HT9.out.on hb10
      have HSVS := hid (sameVs_any _ _ o9 o10 w10 (Kind.own_is ht9'.own) (Kind.own_is ht10.own) (ht9'.fits fun v hv => HMAY.out v (since_mem hv)) (ht10.fits fun v hv => HMAY.out v (since_mem hv)) (by
        have h1 := ht9'.len
        have h2 : (sinceV L 0).length ≤ L.length := by unfold sinceV; rw [List.length_drop]; omega
        unfold maxLen
        omega))
      rw [decide_eq_true (ht9'.ver.trans ht10.ver.symm)] at HSVS
      obtain ⟨p10, c10, rfl⟩ := Kind.own_shape ht10.own
      clear hp10 ht10 hb10 hb10' ht9' HSJ9
      go_wp2_with fail
      refine hK.out _ _ q10 (fun hHeld => ?_)
      clear hK K
      try simp only [Act.put, List.setIfInBounds_toArray, List.set_cons_zero, List.set_cons_succ]
      refine wpAnyH_ready (rs := [15]) (by kernel_rfl) (by simp) ?_
      refine AllReadyH.cons (at_drop0 rfl) (fun K hK => ?_) AllReadyH.nil
      rw [if_pos (by rfl)]
      go_simp
      refine HSVS.out.mono ?_
      rintro e w11 ⟨rfl, hb11⟩
      have hb11' := bel_then HB10.out HB10.out.size hb11
      have q11 := KS.out w11 hb11'
      have HB11 := hid hb11'
      clear hb11 hb11' HSVS
      go_wp2_with fail
      refine hK.out _ _ q11 (fun hHeld => ?_)
      clear hK K
      try simp only [Act.put, List.setIfInBounds_toArray, List.set_cons_zero, List.set_cons_succ]
      refine take_val (i := 16) (.bool true) rfl (by kernel_rfl) (by kernel_rfl) (by kernel_rfl) (fun _ _ _ h => h) (by rfl) (fun w hSw => by go_simp) hHeld ?_
      simp only [Act.put, List.setIfInBounds_toArray, List.set_cons_zero, List.set_cons_succ]
      refine take_val (i := 17) (.bool true) rfl (by kernel_rfl) (by kernel_rfl) (by kernel_rfl) (fun _ _ _ h => h) (by rfl) (fun w hSw => by go_simp) hHeld ?_
      simp only [Act.put, List.setIfInBounds_toArray, List.set_cons_zero, List.set_cons_succ]
      refine wpAnyH_done (by kernel_rfl) ?_ _
      go_wp2_with fail
      go_ret
      exact ⟨rfl, HBN.out.trans ((bel_then HB7.out HB7.out.size HB11.out).mono (by omega))⟩

end Go.Proofs.YtmfhbkickaofcaaGreat
