/-
  Texts of this claim, one behind the other: Cs2 Cuw.
-/
import Derived.Test.YtipbdpjnabeilaaPc
import Derived.Test.YtipbdpjnabeilaaPb
/-
  The program's chain (stage 6): what stays beside a Put and a Prune.
-/
namespace Go.Proofs.Ytipbdpjnabeilaa
open Go.RowKit

theorem st_put2 {n0 g : Nat} {l : List Vr} {W0 W : World} (h : ChSt n0 g l W0) (hb : Below W0.heap.size W0 W) (stamp tick : Int) (live : Bool) (v : Value) (e : List Fx) (val : List Fld) (hv : IsXs W v e) (hf : FitX e) (hval : e.map Fx.fld = val) (h0 : 0 ≤ stamp) (htop : (lastV l).num < 2400000000000) :
    Calls Try.prog 24 #[.pointer (some ⟨g, 0, none⟩), .int .u64 stamp, .int .i64 tick, .bool live, v] W fun r w' =>
      r = .returned (.tuple #[.int .i64 (putN l stamp live val), .int .i64 (putC l stamp live val)]) ∧ ChSt n0 g (putL l stamp tick live val) w' ∧ Fr (fun k => n0 ≤ k ∧ k < W0.heap.size) W w' := by
  obtain ⟨d, vs, h1, rfl⟩ := h
  refine (put_any (h1.on hb) stamp tick live v e val hv hf hval h0 htop).mono ?_
  rintro r w' ⟨h2, d', vs', h3, h4, _, h5⟩
  exact ⟨h2, ⟨d', vs', h3, h4⟩, h5.mono fun k hk => h1.blk k hk⟩

theorem st_prune2 {n0 g : Nat} {l : List Vr} {W0 W : World} (h : ChSt n0 g l W0) (hb : Below W0.heap.size W0 W) (f : Int) :
    Calls Try.prog 17 #[.pointer (some ⟨g, 0, none⟩), .int .u64 f] W fun r w' => r = .returned (.int .i64 (pruneN l f : Nat)) ∧ ChSt n0 g (pruneV l f) w' ∧ Fr (fun k => n0 ≤ k ∧ k < W0.heap.size) W w' := by
  obtain ⟨d, vs, h1, rfl⟩ := h
  refine (prune_any (h1.on hb) f).mono ?_
  rintro r w' ⟨h2, d', vs', h3, h4, _, h5⟩
  exact ⟨h2, ⟨d', vs', h3, h4⟩, h5.mono fun k hk => h1.blk k hk⟩

theorem Told.fr {P : Nat → Prop} {N : Nat} {u : Value} {o : List Vx} {l : List Vr} {W W2 : World} (h : Told N u o l W) (f : Fr P W W2) (hP : ∀ k, P k → k < N) : Told N u o l W2 := by
  refine ⟨f.row (show W.ownsRow N 41 5 u o.length (KV.cells o) from h.own) fun k hk hp => ?_, fun x hx => ownJ_fr (h.each x hx) f fun k hk hp => ?_, h.apart, h.ver⟩
  · have h1 := (World.ownsRow.lt (show W.ownsRow N 41 5 u o.length (KV.cells o) from h.own) k hk).1
    have h2 := hP k hp
    omega
  · have h1 := (ownJ_blk (h.each x hx) k hk).1
    have h2 := hP k hp
    omega

theorem VerAt.fr {P : Nat → Prop} {N : Nat} {x : Vx} {W W2 : World} (h : VerAt W N x) (f : Fr P W W2) (hP : ¬ P N) : VerAt W2 N x := (f.block N h.lt hP).trans h

/-- The first ones of a list. -/
theorem take_is {n0 : Nat} {w : World} {p : Option Addr} {cap : Nat} {d : List Vx} (h : KV.Own n0 w (.slice p d.length cap) d) (k : Nat) (hk : k ≤ d.length) : KV.Is w (.slice p k cap) (d.take k) := by
  refine ⟨p, cap, by rw [List.length_take, Nat.min_eq_left hk], ?_⟩
  obtain ⟨p', c', hsl, hI⟩ := Kind.own_is h
  injection hsl with e1 _ _
  subst e1
  rcases hI with hI | ⟨b, off, rfl, hat⟩
  · left; rw [hI]; simp
  · refine Or.inr ⟨b, off, rfl, fun i hi j u hu => ?_⟩
    have hi' : i < d.length := by rw [List.length_take] at hi; omega
    rw [List.getElem_take] at hu
    exact hat i hi' j u hu

theorem put_same {l : List Vr} {stamp tick : Int} {live : Bool} {val : List Fld} (h : putC l stamp live val ≠ 0) : putL l stamp tick live val = l ∧ putN l stamp live val = 0 := by
  unfold putL putN
  rw [if_neg h, if_neg h]
  exact ⟨rfl, rfl⟩

theorem put_new {l : List Vr} {stamp tick : Int} {live : Bool} {val : List Fld} (h : putC l stamp live val = 0) : putL l stamp tick live val = l ++ [⟨putN l stamp live val, stamp, tick, live, if live then val else []⟩] := by
  unfold putL putN
  rw [if_pos h, if_pos h]
  rfl

theorem put_above {l : List Vr} {stamp : Int} {live : Bool} {val : List Fld} (h : putC l stamp live val = 0) : (lastV l).stamp < stamp := by
  unfold putC putCode at h
  split at h
  · simp at h
  · next hs => exact Int.not_le.1 fun e => hs (Or.inr e)

end Go.Proofs.Ytipbdpjnabeilaa

/-
  The walk of ChainRefuses (stage 6).
-/
namespace Go.Proofs.Ytipbdpjnabeilaa
open Go.RowKit

/-- An operation in a block of its own. -/
def OpBox (w : World) (N : Nat) (x : Ox) : Prop := w.heap[N]? = some (.cells (encO x).toArray 33 (0, 0))

theorem OpBox.cells {w : World} {N : Nat} {x : Ox} (h : OpBox w N x) : w.cell? ⟨N, 1, none⟩ = some (.int .u64 x.stamp) ∧ w.cell? ⟨N, 2, none⟩ = some (.int .i64 x.tick) ∧ w.cell? ⟨N, 3, none⟩ = some (.bool x.live) ∧ w.cell? ⟨N, 4, none⟩ = some x.sl ∧ w.cell? ⟨N, 0, none⟩ = some (.int .i64 x.kind) ∧ w.cell? ⟨N, 5, none⟩ = some (.int .i64 x.n) := by
  unfold OpBox at h
  refine ⟨?_, ?_, ?_, ?_, ?_, ?_⟩ <;> (rw [Lib.cell_of_heap h]; rfl)

theorem OpBox.lt {w : World} {N : Nat} {x : Ox} (h : OpBox w N x) : N < w.heap.size := by
  unfold OpBox at h
  rcases Nat.lt_or_ge N w.heap.size with h' | h'
  · exact h'
  · rw [Array.getElem?_eq_none h'] at h; cases h

theorem OpBox.on {w W : World} {N : Nat} {x : Ox} (h : OpBox w N x) (hb : Below w.heap.size w W) : OpBox W N x := (hb.block N h.lt).trans h
theorem OpBox.fr {P : Nat → Prop} {N : Nat} {x : Ox} {W W2 : World} (h : OpBox W N x) (f : Fr P W W2) (hP : ¬ P N) : OpBox W2 N x := (f.block N h.lt hP).trans h

theorem sameVs_told {N M : Nat} {u v : Value} {o q : List Vx} {l m : List Vr} {W : World} (h : Told N u o l W) (k : Told M v q m W) (hl : ∀ v ∈ l, mayB v.val = true) (hm : ∀ v ∈ m, mayB v.val = true) (hf : l.length ≤ 2400000000000) :
    Calls Try.prog 12 #[u, v] W fun r w' => r = .returned (.bool (decide (l = m))) ∧ Below W.heap.size W w' := by
  have := sameVs_any u v o q W (Kind.own_is h.own) (Kind.own_is k.own) (h.fits hl) (k.fits hm) (by rw [h.len]; unfold maxLen; omega)
  rw [h.ver, k.ver] at this
  exact this

set_option maxHeartbeats 1500000 in
set_option maxRecDepth 100000 in
theorem refuses_any (v : Value) (ops : List Ox) (x : Ox) (w : World) (hv : KO.Is w v ops) (hx : ∀ x ∈ ops, OpAt w x) (hl : ops.length ≤ 2199023255552) (hxo : OpAt w x) :
    Calls Try.prog 8 #[v, .agg (encO x).toArray] w fun e w' => e = .returned (.bool true) ∧ Below w.heap.size w w' := by
  have hb0 : Below w.heap.size w (w.alloc (.cells (encO x).toArray 33)) := (Below.refl _ _).alloc (Nat.le_refl _) _
  have HF := hid (fixed_any (w.alloc (.cells (encO x).toArray 33)))
  have HLD : Hid (∀ W, Below w.heap.size w W → Calls Try.prog 15 #[v] W fun e w' => ∃ g, e = .returned (.pointer (some ⟨g, 0, none⟩)) ∧ ChSt W.heap.size g (laidV ops) w' ∧ (lastV (laidV ops)).num ≤ 2199023255552 ∧ Below W.heap.size W w') := fun W hW => st_laid v ops W (Kind.is_kept hv hW) (fun x hx' => (hx x hx').on hW) hl
  obtain ⟨p, cap, rfl, _⟩ := hv
  obtain ⟨N, hN⟩ : ∃ N, w.heap.size = N := ⟨_, rfl⟩
  have HO0 : Hid (OpBox (w.alloc (.cells (encO x).toArray 33)) N x) := by rw [← hN]; exact heap_alloc_new w _
  have HB0 := hid hb0
  have HXO := hid hxo
  obtain ⟨W0, hW0⟩ : ∃ W0, w.alloc (.cells (encO x).toArray 33) = W0 := ⟨_, rfl⟩
  have hs0 : W0.heap.size = N + 1 := by rw [← hW0, ← hN]; simp
  rw [hW0] at HF HO0 HB0
  have HPUT : Hid (∀ (n0 g : Nat) (l : List Vr) (V W : World), ChSt n0 g l V → Below V.heap.size V W → Below w.heap.size w W → (lastV l).num ≤ 2199023255552 → Calls Try.prog 24 #[.pointer (some ⟨g, 0, none⟩), .int .u64 x.stamp, .int .i64 x.tick, .bool x.live, x.sl] W fun r w' => r = .returned (.tuple #[.int .i64 (putN l x.stamp x.live x.val), .int .i64 (putC l x.stamp x.live x.val)]) ∧ ChSt n0 g (putL l x.stamp x.tick x.live x.val) w' ∧ Fr (fun k => n0 ≤ k ∧ k < V.heap.size) W w') := fun n0 g l V W h1 h2 h3 h4 => st_put2 h1 h2 x.stamp x.tick x.live x.sl x.o x.val (hxo.is.kept h3) hxo.fit rfl hxo.lo (by omega)
  clear hx hl hxo hb0
  obtain ⟨XV, hXV⟩ : ∃ XV, x.val = XV := ⟨_, rfl⟩
  rw [hXV] at HPUT
  clear hXV HXO
  obtain ⟨xk, xs, xt, xl, xp, xc, xo, xn⟩ := x
  simp only [encO, Ox.sl] at hW0 HPUT ⊢
  go_enter Try.func8, Try.ntmps8
  go_wp2_with fail
  try rw [hW0]
  try rw [hN]
  clear hW0
  refine HF.out.mono ?_
  rintro e w1 ⟨rfl, hb1⟩
  have HB1 := hid (bel_then HB0.out HB0.out.size hb1)
  have HO1 := hid (HO0.out.on hb1)
  have HL1 := hid (HLD.out w1 HB1.out)
  have hs1 : N + 1 ≤ w1.heap.size := by have := hb1.size; omega
  clear hb1 HF HLD HO0 HB0
  go_wp2_with fail
  refine HL1.out.mono ?_
  rintro e w2 ⟨g, rfl, hC2, hnum, hb2⟩
  generalize laidV ops = l at hC2 hnum
  have HB2 := hid (bel_then HB1.out HB1.out.size hb2)
  have HO2 := hid (HO1.out.on hb2)
  have HC2 := hid hC2
  have HAL := hid (st_all hC2)
  have HNUM := hid hnum
  have hs2 := hb2.size
  clear hC2 hb2 HL1 HB1 HO1 hnum
  go_wp2_with fail
  refine HAL.out.mono ?_
  intro e w3 hp3
  obtain ⟨u, o, rfl, ht3, hb3⟩ := all_told hp3
  have HOL := hid ht3.len
  have hfew := HC2.out.few
  obtain ⟨pu, cu, rfl⟩ := Kind.own_shape ht3.own
  have HT3 := hid ht3
  have HO3 := hid (HO2.out.on hb3)
  have HB3 := hid hb3
  have HLA := hid (st_last (HC2.out.on hb3))
  have hs3 := hb3.size
  clear hp3 ht3 hb3 HAL HO2
  go_wp2_with fail
  refine HLA.out.mono ?_
  rintro e w4 ⟨x4, rfl, hx4, _, hb4⟩
  have hba : Below w3.heap.size w3 (w4.alloc (.cells (encVx x4).toArray 41)) := hb4.alloc hb4.size _
  have HV4 : Hid (VerAt (w4.alloc (.cells (encVx x4).toArray 41)) w4.heap.size x4) := heap_alloc_new w4 _
  have hs4 := hb4.size
  obtain ⟨A4, hA4⟩ : ∃ A4, w4.heap.size = A4 := ⟨_, rfl⟩
  rw [hA4] at HV4 hs4
  have HB4 := hid (bel_then HB3.out HB3.out.size hba)
  have HT4 := hid (HT3.out.on hba)
  have HO4 := hid (HO3.out.on hba)
  have HBW4 := hid (bel_then HB2.out HB2.out.size HB4.out)
  have HPC := hid (HPUT.out _ g l w2 _ HC2.out HB4.out HBW4.out HNUM.out)
  have H4S : Hid (x4.stamp = (lastV l).stamp) := by
    show x4.ver.stamp = (lastV l).stamp
    rw [hx4]; rfl
  clear hx4 hb4 hba HLA HT3 HO3 HB3 HPUT
  obtain ⟨xn4, xs4, xt4, xl4, xp4, xc4, xo4⟩ := x4
  simp only [encVx, Vx.sl] at HV4 HB4 HT4 HO4 HBW4 HPC H4S ⊢
  obtain ⟨m1, m2, m3, m4, _, _⟩ := HO4.out.cells
  simp only [Ox.sl] at m1 m2 m3 m4
  go_wp2_with fail
  try rw [hA4]
  clear m1 m2 m3 m4
  refine HPC.out.mono ?_
  rintro e w5 ⟨rfl, hC5, hf5⟩
  have hT5 := HT4.out.fr hf5 fun k hk => hk.2
  have HT5 := hid hT5
  have hV5 := HV4.out.fr hf5 (by omega)
  have hO5 := HO4.out.fr hf5 (by omega)
  have hb5 : Below w.heap.size w w5 := HBW4.out.trans (hf5.below HBW4.out.size fun k hk => by omega)
  have HB5 := hid hb5
  have HC5 := hid hC5
  have HV5 := hid hV5
  have HO5 := hid hO5
  have HMAY := hid HC2.out.may
  clear hb5 hT5 hC5 hf5 hV5 hO5 HPC HT4 HV4 HO4 HBW4 HB4 HC2 HB2
  by_cases hcode : putC l xs xl XV = 0
  · rw [put_new hcode] at HC5
    have HAB := hid (put_above hcode)
    have hpl : 0 ≤ putN l xs xl XV ∨ True := Or.inr trivial
    rw [hcode]
    obtain ⟨PN, hPN⟩ : ∃ PN, putN l xs xl XV = PN := ⟨_, rfl⟩
    rw [hPN] at HC5 ⊢
    clear hcode hPN hpl
    have HLA := hid (st_last HC5.out)
    rw [List.getLast?_concat] at HLA
    go_wp2_with fail
    refine HLA.out.mono ?_
    rintro e w6 ⟨x6, rfl, hx6, _, hb6⟩
    have hba : Below w5.heap.size w5 (w6.alloc (.cells (encVx x6).toArray 41)) := hb6.alloc hb6.size _
    have HV6 : Hid (VerAt (w6.alloc (.cells (encVx x6).toArray 41)) w6.heap.size x6) := heap_alloc_new w6 _
    obtain ⟨A6, hA6⟩ : ∃ A6, w6.heap.size = A6 := ⟨_, rfl⟩
    rw [hA6] at HV6
    have HB6 := hid (bel_then HB5.out HB5.out.size hba)
    have HT6 := hid (HT5.out.on hba)
    have HC6 := hid (HC5.out.on hba)
    have hO6 := HO5.out.on hba
    have hV46 := HV5.out.on hba
    have HAL := hid (st_all HC6.out)
    obtain ⟨xn6, xs6, xt6, xl6, xp6, xc6, xo6⟩ := x6
    obtain ⟨rfl, rfl, rfl, rfl, -⟩ := ver_parts (show Vx.ver _ = ⟨_, _, _, _, _⟩ from hx6)
    obtain ⟨m1, m2, m3, m4, _, _⟩ := hO6.cells
    have n1 := hV46.cells.2.1
    simp only [Ox.sl, encVx, Vx.sl, Nat.zero_add] at m1 m2 m3 m4 n1 HV6 HB6 HT6 HC6 HAL ⊢
    have hab := HAB.out
    rw [← H4S.out] at hab
    have hab' : xs4 < xs6 := hab
    clear hx6 hb6 hba HLA HT5 HO5 HB5 HC5 HV5 hO6 hV46 hab HAB H4S
    go_wp2_with fail
    try rw [hA6]
    clear hA6 m1 m2 m3 m4 n1
    refine HAL.out.mono ?_
    intro e w7 hp7
    obtain ⟨u7, o7, rfl, ht7, hb7⟩ := all_told hp7
    have hol7 := ht7.len
    rw [List.length_append, List.length_singleton] at hol7
    have HT7 := hid (HT6.out.on hb7)
    have HC7 := hid (HC6.out.on hb7)
    have HB7 := hid (bel_then HB6.out HB6.out.size hb7)
    obtain ⟨p7, c7, rfl⟩ := Kind.own_shape ht7.own
    have hcap := (own_caps ht7.own).1
    have hol := HOL.out
    have hcm : c7 ≤ maxLen := by
      rcases ht7.own.2 with ⟨h1, _⟩ | ⟨_, c, _, h1, _, _, _, h2, _⟩
      · injection h1 with _ _ e; rw [e]; exact Nat.zero_le _
      · injection h1 with _ _ e; rw [e]; exact h2
    unfold maxLen at hcm
    have HSV : Hid (Calls Try.prog 12 #[.slice p7 o.length c7, .slice pu o.length cu] w7 fun r w' => r = .returned (.bool true) ∧ Below w7.heap.size w7 w') := by
      have hmay7 := HC7.out.may
      have h1 := take_is ht7.own o.length (by omega)
      have h2 := sameVs_any _ _ (o7.take o.length) o w7 h1 (Kind.own_is HT7.out.own) (fun x hx => ht7.fits hmay7 x (List.mem_of_mem_take hx)) (HT7.out.fits HMAY.out) (by rw [List.length_take]; unfold maxLen; omega)
      rw [List.map_take, ht7.ver, HT7.out.ver, hol, List.take_left, decide_eq_true rfl] at h2
      rw [hol]
      exact h2
    have hlen7 : o7.length = o.length + 1 := by omega
    have i1 : (o.length : Int) ≤ (c7 : Int) := by omega
    have i2 : (0 : Int) ≤ (o.length : Int) := by omega
    have HLE := hid (st_len HC7.out)
    rw [List.length_append, List.length_singleton, ← hol] at HLE
    have hof : o.length ≤ 2400000000000 := by omega
    have HE7 := hid hlen7
    clear hp7 ht7 hb7 hol7 HAL HT6 HC6 HB6 hcap hol hfew hlen7
    go_wp2_with fail
    refine HSV.out.mono ?_
    rintro e w8 ⟨rfl, hb8⟩
    have HLE8 := hid (st_len (HC7.out.on hb8))
    rw [List.length_append, List.length_singleton, ← HOL.out] at HLE8
    have HB8 := hid (bel_then HB7.out HB7.out.size hb8)
    clear hb8 HSV HLE HB7
    go_wp2_with fail
    refine HLE8.out.mono ?_
    rintro e w9 ⟨rfl, rfl⟩
    clear HLE8
    go_wp2_with fail
    go_ret
    first
    | exact ⟨rfl, HB8.out⟩
    | exact ⟨by simp, HB8.out⟩
  · obtain ⟨hsame, hn0⟩ := put_same (tick := xt) hcode
    rw [hsame] at HC5
    rw [hn0]
    obtain ⟨PC, hPC⟩ : ∃ PC, putC l xs xl XV = PC := ⟨_, rfl⟩
    rw [hPC] at hcode ⊢
    have hne : (PC != 0) = true := by simpa using hcode
    have HAL := hid (st_all HC5.out)
    clear hsame hn0 hPC hcode
    go_wp2_with fail
    refine HAL.out.mono ?_
    intro e w6 hp6
    obtain ⟨u6, o6, rfl, ht6, hb6⟩ := all_told hp6
    have HSV := hid (sameVs_told ht6 (HT5.out.on hb6) HMAY.out HMAY.out hfew)
    rw [decide_eq_true rfl] at HSV
    have HB6 := hid (bel_then HB5.out HB5.out.size hb6)
    obtain ⟨p6, c6, rfl⟩ := Kind.own_shape ht6.own
    clear hp6 ht6 hb6 HAL
    go_wp2_with fail
    refine HSV.out.mono ?_
    rintro e w7 ⟨rfl, hb7⟩
    have HB7 := hid (bel_then HB6.out HB6.out.size hb7)
    clear hb7 HSV HB6
    go_wp2_with fail
    go_ret
    exact ⟨rfl, HB7.out⟩

end Go.Proofs.Ytipbdpjnabeilaa
